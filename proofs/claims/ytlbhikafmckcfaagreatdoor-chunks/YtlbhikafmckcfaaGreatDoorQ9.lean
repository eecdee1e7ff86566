import Derived.Test.YtlbhikafmckcfaaGreatDoorQ8
open Bool renaming and_eq_true->If,false->Gw,true->Gz
open Go renaming Act->Iz,Exit->K2,Oper->Jr,Operand->IB,Program->IY,TypeId->Hx,Value->GC,World->GA,execOp->In,getD_set_ne->Py,heap_alloc_new->GJ,heap_alloc_old->GR,mem_ready->NA,ready_mono->NK,yielded->JM
open Go.IntKind renaming i64->U
open Go.Obj renaming cells->Gt
open Go.Region renaming binds->L6,free->PA,free_spec->Lq,noSelect->NX,noSelect_spec->Kt,ready->IJ,wanted->Iq
open Go.RowKit.Below renaming heap_setCell->GN,refl->GB
open Go.Value renaming int->I,pointer->Gr,slice->Gn,string->Z
open Go.World renaming cell?->GM
open List renaming all_eq_true->Nz
open Nat renaming le_trans->GY,lt_of_lt_of_le->GT,lt_or_ge->Kh,zero_le->Hg
open Option renaming none->O,some->J
open Or renaming inl->G5,inr->G9
open Go.Addr renaming mk->C
set_option maxRecDepth 100000
set_option maxHeartbeats 16000000
namespace Go.Proofs.YtlbhikafmckcfaaGreatDoor
section
open Go.RowKit Go.Lib
def DU (w:GA) (pa:Option Addr) (n:Nat):Prop:=n=0∨∃b off,pa=J (C b off O)/\b<w.heap.size/\∀i,i<n->∃z:Int,w.cell? ⟨b,off+i,O⟩=J (I U z)/\-9223372036854775808<=z/\z<=9223372036854775807
def CG (D:gq) (x:ji):List UInt8:=((D.nodes[x.node.toNat]?).getD ⟨[],0⟩).data
def tE (D:gq):List aS:=D.names.map λx=>⟨x.name,CG D x⟩
section
variable {role:Nat->Nat} {B K:Nat} {V:CI} {D:gq} {w w1:GA}
end
theorem kB{P:IY}{a:Iz}{w w':GA}{oi:Jr}{v:GC}{t:Hx}(b:oi.op=.alloc t)(e:(Instr.alloc t Gz (.tuple #[])).run P w=.ok v w'):(In a.eval oi).run P w=.ok (.value v) w':=by unfold In;simp only[b,Sem.run_bind,e,Result.andThen,Sem.run_pure]
structure iE (X N:Nat) (w w':GA):Prop where
 os:w'.os=w.os
 tape:w'.tape=w.tape
 output:w'.output=w.output
 size:w.heap.size<=w'.heap.size
 block:∀b,b<N->b≠X->w'.heap[b]?=w.heap[b]?
section
variable {X N:Nat} {a w w':GA}
theorem iE.refl(X N:Nat)(w:GA):iE X N w w:=⟨rfl,rfl,rfl,Nat.le.refl,λ_ _ _=>rfl⟩
theorem iE.step(h:iE X N a w)(k:Below N w w'):iE X N a w':=⟨k.os.trans h.os,k.tape.trans h.tape,k.output.trans h.output,GY h.size k.size,λb e j=>(k.block b e).trans (h.block b e j)⟩
theorem iE.below(h:iE X N a w)(j:X<=N){M:Nat}(k:M<=X):Below M a w:=⟨h.os,h.tape,h.output,h.size,λb e=>h.block b (by omega) (by omega)⟩
theorem iE.cell(h:iE X N a w){p:Addr}(e:p.block<N)(b:p.block≠X):w.cell? p=a.cell? p:=World.cell?_of_block (w:=a) (h.block p.block e b)
theorem Below.two{N:Nat}{w:GA}(b:N<=w.heap.size)(u v:GC)(o:Obj):Below N w (((w.drew.alloc o).setCell (C w.heap.size 0 O) u).setCell (C w.heap.size 1 O) v):=
 ((((GB N w).drew).alloc b o).setCell b _).setCell b _
end
theorem ai{w w':GA}{B:Nat}{t:Hx}{size n:Nat}{v:GC}{xs:List GC}(k:∀b,v.ownBlock=J b->w'.heap[b]?=w.heap[b]?)(h:w.ownsRow B t size v n xs):w'.ownsRow B t size v n xs:=by
 refine⟨h.1,?_⟩
 rcases h.2 with e|⟨g,c,j,e,o,m,l⟩
 ·exact G5 e
 exact G9 ⟨g,c,j,e,o,(k g (by rw[e];rfl)).trans m,l⟩
structure db (K:Nat) (row:Option Nat) (w w':GA):Prop where
 os:w'.os=w.os
 tape:w'.tape=w.tape
 output:w'.output=w.output
 size:w.heap.size<=w'.heap.size
 block:∀b,b<w.heap.size->b≠K->row≠J b->w'.heap[b]?=w.heap[b]?
theorem db.of_below{K:Nat}{row:Option Nat}{w w':GA}(h:ah w w'):db K row w w':=⟨h.os,h.tape,h.output,h.size,λb e _ _=>h.block b e⟩
theorem db.row{K:Nat}(row:Option Nat){w w':GA}(h:db K O w w'):db K row w w':=⟨h.os,h.tape,h.output,h.size,λb j e _=>h.block b j e (by simp)⟩
theorem db.below{K:Nat}{row:Option Nat}{w w1 e:GA}(h:db K row w w1)(k:ah w1 e):db K row w e:=⟨k.os.trans h.os,k.tape.trans h.tape,k.output.trans h.output,GY h.size k.size,λb j m l=>(k.block b (GT j h.size)).trans (h.block b j m l)⟩
theorem db.setCell{K:Nat}{row:Option Nat}{w w1:GA}(h:db K row w w1){p:Addr}(l:p.block=K∨w.heap.size<=p.block)(u:GC):db K row w (w1.setCell p u):=by
 have e:=(GB 0 w1).setCell (p:=p) (Hg _) u;refine⟨e.os.trans h.os,e.tape.trans h.tape,e.output.trans h.output,by simpa using h.size,λb n k m=>(GN _ _ _ _ ?_).trans (h.block b n k m)⟩;rintro rfl
 rcases l with j|j
 ·exact k j
 omega
theorem db.grown{K:Nat}{row:Option Nat}{w w1 k:GA}(h:db K row w w1)(e:w1.grownBy k row):db K row w k:=by have j:=(GB 0 w1).grown e (Hg _) (λ_ _=>Hg _);exact⟨j.os.trans h.os,j.tape.trans h.tape,j.output.trans h.output,GY h.size e.size,λb m n l=>(e.block b (GT m h.size) (Ne.symm l)).trans (h.block b m n l)⟩
theorem sr{P:Nat}{key uid:Int}{fl b tx:ByteArray}{w:GA}{fr:Nat×Nat}(h:w.heap[P]?=J (Gt #[I U key,I U uid,Z fl,Z b,Z tx] 138 fr)):
  (Instr.loadAt 138 (Gr (J (C P 0 O)))).run Tryz.prog w=.ok (.agg #[I U key,I U uid,Z fl,Z b,Z tx]) w:=by
 have c0:w.cell? (C P 0 O)=J (I U key):=by simp[GM,h]
 have c1:w.cell? (C P 1 O)=J (I U uid):=by simp[GM,h]
 have c2:w.cell? (C P 2 O)=J (Z fl):=by simp[GM,h]
 have c3:w.cell? (C P 3 O)=J (Z b):=by simp[GM,h]
 have c4:w.cell? (C P 4 O)=J (Z tx):=by simp[GM,h]
 go_simp
theorem pQ{key uid:Int}{fl b tx:ByteArray}{w:GA}:
  (Instr.buildSlice 102 1 #[(0,.agg #[I U key,I U uid,Z fl,Z b,Z tx])]).run Tryz.prog w=.ok (Gn (J (C w.heap.size 0 O)) 1 1) (w.alloc (Gt #[I U key,I U uid,Z fl,Z b,Z tx] 138)):=by
 go_simp
abbrev set5 (w:GA) (R:Nat) (v0 v1 v2 v3 v4:GC):GA:=((((w.setCell (C R 0 O) v0).setCell (C R 1 O) v1).setCell (C R 2 O) v2).setCell (C R 3 O) v3).setCell (C R 4 O) v4
theorem oD{w:GA}{R:Nat}{u0 u1 u2 u3 u4:GC}{t:Hx}{fr:Nat×Nat}(h:w.heap[R]?=J (Gt #[u0,u1,u2,u3,u4] t fr))(v0 v1 v2 v3 v4:GC):(set5 w R v0 v1 v2 v3 v4).heap[R]?=J (Gt #[v0,v1,v2,v3,v4] t fr):=by have b:=ag (o:=4) v4 (ag (o:=3) v3 (ag (o:=2) v2 (ag (o:=1) v1 (ag (o:=0) v0 h))));simpa using b
theorem oC(w:GA){R b:Nat}(h:b≠R)(v0 v1 v2 v3 v4:GC):(set5 w R v0 v1 v2 v3 v4).heap[b]?=w.heap[b]?:=
 (GN _ _ _ _ h).trans ((GN _ _ _ _ h).trans ((GN _ _ _ _ h).trans ((GN _ _ _ _ h).trans (GN _ _ _ _ h))))
theorem db.set5{K:Nat}{row:Option Nat}{w w1:GA}(h:db K row w w1){R:Nat}(b:w.heap.size<=R)(v0 v1 v2 v3 v4:GC):db K row w (set5 w1 R v0 v1 v2 v3 v4):=
 ((((h.setCell (G9 b) v0).setCell (G9 b) v1).setCell (G9 b) v2).setCell (G9 b) v3).setCell (G9 b) v4
theorem At{w:GA}{K B:Nat}{name code:ByteArray}{ep nx:Int}{v:GC}{xs:List au}(h:a8 w K name code ep nx v)(j:bQ w B v xs)(hB:B<=w.heap.size)(QN:v.ownBlock≠J K)(hl:xs.length<=1048576)(Rg:0<=nx)(Rf:nx<=99)(key uid:Int)(fl k tx:ByteArray):
  Calls Tryz.prog 76 #[Gr (J (C K 0 O)),.agg #[I U key,I U uid,Z fl,Z k,Z tx]] w λe w'=>e=.returned (.agg #[I U key,I U nx,Z fl,Z k,Z tx])/\∃g b,a8 w' K name code ep (nx+1) (Gn (J (C g 0 O)) (xs.length+1) b)/\bQ w' B (Gn (J (C g 0 O)) (xs.length+1) b) (xs++[⟨key,nx,fl.data.toList,k.data.toList,tx.data.toList⟩])/\(v.ownBlock=J g∨w.heap.size<=g)/\db K v.ownBlock w w':=by
 obtain⟨d0,d1,d2,d3,d4,df,hK⟩:=h.cells;have Ri:=df 3;obtain⟨F,E,rfl,_⟩:=bH j;generalize QL:xs.length=n at*;have Hh:=hid h;have Ho:=hid j;have Rc:U.wrap (nx+1)=nx+1:=IntWalk.i64_in _ (by omega);clear h j;go_enter Tryz.func76,Tryz.ntmps76;go_wp2_with fail;have Re:(((w.setCell (C K 3 O) (I U (nx+1))).alloc (Gt #[I U key,I U nx,Z fl,Z k,Z tx] 138)).alloc (Gt #[I U 0,I U 0,Z ⟨#[]⟩,Z ⟨#[]⟩,Z ⟨#[]⟩] 138)).heap.size=w.heap.size+2:=by simp
 have QM:a8 (((w.setCell (C K 3 O) (I U (nx+1))).alloc (Gt #[I U key,I U nx,Z fl,Z k,Z tx] 138)).alloc (Gt #[I U 0,I U 0,Z ⟨#[]⟩,Z ⟨#[]⟩,Z ⟨#[]⟩] 138)) K name code ep (nx+1) (Gn F n E):=by have l:=ag (o:=3) (I U (nx+1)) Hh.out;exact(GR _ _ (by simp;omega)).trans ((GR _ _ (by simpa using hK)).trans (by simpa using l))
 have QP:(((w.setCell (C K 3 O) (I U (nx+1))).alloc (Gt #[I U key,I U nx,Z fl,Z k,Z tx] 138)).alloc (Gt #[I U 0,I U 0,Z ⟨#[]⟩,Z ⟨#[]⟩,Z ⟨#[]⟩] 138)).heap[w.heap.size]?=J (Gt #[I U key,I U nx,Z fl,Z k,Z tx] 138 (0,0)):=by have l:=GJ (w.setCell (C K 3 O) (I U (nx+1))) (Gt #[I U key,I U nx,Z fl,Z k,Z tx] 138);exact(GR _ _ (by simp)).trans (by simpa using l)
 have QT:(((w.setCell (C K 3 O) (I U (nx+1))).alloc (Gt #[I U key,I U nx,Z fl,Z k,Z tx] 138)).alloc (Gt #[I U 0,I U 0,Z ⟨#[]⟩,Z ⟨#[]⟩,Z ⟨#[]⟩] 138)).heap[w.heap.size+1]?=J (Gt #[I U 0,I U 0,Z ⟨#[]⟩,Z ⟨#[]⟩,Z ⟨#[]⟩] 138 (0,0)):=by have l:=GJ ((w.setCell (C K 3 O) (I U (nx+1))).alloc (Gt #[I U key,I U nx,Z fl,Z k,Z tx] 138)) (Gt #[I U 0,I U 0,Z ⟨#[]⟩,Z ⟨#[]⟩,Z ⟨#[]⟩] 138);simpa using l
 have QK:db K O w (((w.setCell (C K 3 O) (I U (nx+1))).alloc (Gt #[I U key,I U nx,Z fl,Z k,Z tx] 138)).alloc (Gt #[I U 0,I U 0,Z ⟨#[]⟩,Z ⟨#[]⟩,Z ⟨#[]⟩] 138)):=(((db.of_below (GB _ _)).setCell (p:=C K 3 O) (G5 Y) _).below av).below av;have M:(((w.setCell (C K 3 O) (I U (nx+1))).alloc (Gt #[I U key,I U nx,Z fl,Z k,Z tx] 138)).alloc (Gt #[I U 0,I U 0,Z ⟨#[]⟩,Z ⟨#[]⟩,Z ⟨#[]⟩] 138)).ownsRow B 138 5 (Gn F n E) n (aN xs):=by
  have l:w.ownsRow B 138 5 (Gn F n E) n (aN xs):=by have:=Ho.out;unfold bQ at this;rwa [QL]at this
  refine ai (λb hb=>?_) l;have h2:=l.lt b hb;exact QK.block b h2.2 (λe=>QN (by rw[hb,e])) (by simp)
 generalize(((w.setCell (C K 3 O) (I U (nx+1))).alloc (Gt #[I U key,I U nx,Z fl,Z k,Z tx] 138)).alloc (Gt #[I U 0,I U 0,Z ⟨#[]⟩,Z ⟨#[]⟩,Z ⟨#[]⟩] 138))=r at*;have k4:=QM.cells.2.2.2.2.1;have QQ:K<r.heap.size:=by omega
 have G:=(M.drew).alloc (Gt #[I U key,I U nx,Z fl,Z k,Z tx] 138);have QO:J K≠(Gn F n E).ownBlock:=λe=>QN e.symm
 have Q4:J w.heap.size≠(Gn F n E).ownBlock:=λe=>by
  have l:w.ownsRow B 138 5 (Gn F n E) n (aN xs):=by have:=Ho.out;unfold bQ at this;rwa [QL]at this
  have:=(l.lt _ e.symm).2;omega
 have QR:J (w.heap.size+1)≠(Gn F n E).ownBlock:=λe=>by
  have l:w.ownsRow B 138 5 (Gn F n E) n (aN xs):=by have:=Ho.out;unfold bQ at this;rwa [QL]at this
  have:=(l.lt _ e.symm).2;omega
 refine aF 10 (λw':GA=>w'.cell? (C K 4 O)=J (Gn F n E)/\w'.heap[w.heap.size]?=J (Gt #[I U key,I U nx,Z fl,Z k,Z tx] 138 (0,0))) 11 Y (by kernel_rfl) ⟨k4,QP⟩ (λa' Q R hQ t m=>?_);have z:a'.tmps.size=28:=by rw[R.out];rfl
 have e0:a'.eval (.tmp 0)=Gr (J (C K 0 O)):=by rw[R.out];rfl
 have e3:a'.eval (.tmp 3)=Gr (J (C w.heap.size 0 O)):=by rw[R.out];rfl
 refine cq 0 (J 17) Y Y t (λwx hw=>aj Y e0) m ?_;refine cq 1 (J 18) Y Y t (λwx hw=>aj Y (ci e0)) m ?_;refine cq 2 (J 19) Y Y t (λwx hw=>aP Y (evz (aU z))) m ?_;refine cq 3 (J 20) Y Y t (λwx hw=>aq (C K 4 O) Y (evz (aR z))) m ?_;refine cq 4 (J 21) Y Y t (λwx hw=>ar Y (evz (aR (aU z))) (aY hw.1)) m ?_;refine cq 5 (J 22) Y Y t (λwx hw=>ar Y (cS (ci e3)) (sr hw.2)) m ?_;have o:(r.drew.alloc (Gt #[I U key,I U nx,Z fl,Z k,Z tx] 138)).cell? (C K 4 O)=J (Gn F n E)/\(r.drew.alloc (Gt #[I U key,I U nx,Z fl,Z k,Z tx] 138)).heap[w.heap.size]?=J (Gt #[I U key,I U nx,Z fl,Z k,Z tx] 138 (0,0)):=⟨(aD (C K 4 O) (GR r.drew _ QQ)).trans k4,(GR r.drew _ (show w.heap.size<r.heap.size by omega)).trans QP⟩;refine fH (i:=6) (d:=J 23) (v:=Gn (J (C r.drew.heap.size 0 O)) 1 1) (w':=r.drew.alloc (Gt #[I U key,I U nx,Z fl,Z k,Z tx] 138)) (by kernel_rfl) Y Y Y Y (evz (ba (aU z))) pQ (λ_=>o) ?_;refine fj (i:=7) (d:=J 24) [I U key,I U nx,Z fl,Z k,Z tx] (by kernel_rfl) Y Y Y Y sL (by decide) (cz (evz (ba z))) G (evz (ba (aR z))) Y (World.news_of_block (cs:=#[I U key,I U nx,Z fl,Z k,Z tx]) (t:=138) (fr:=(0,0)) (GJ r.drew _)) (by simp[Value.oneCell']) (by decide) (by unfold maxLen;omega) (by omega) (by simp;omega) ?_;intro g u w3 L j p Ra;have r2:=(j.cell_far (C K 4 O) (by simp;omega) QO).trans o.1;have rf:=(j.frozen_far (C K 4 O) (by simp;omega) QO).trans ((World.frozen?_of_block (a:=(C K 4 O)) (GR r.drew _ QQ)).trans (QM.cells.2.2.2.2.2.1 4));have r1:=(j.block w.heap.size (by simp;omega) Q4).trans o.2;refine⟨λ_=>⟨r2,r1⟩,?_⟩;clear m;have m:=And.intro r2 r1;refine bv (i:=8) (d:=J 25) (by kernel_rfl) Y Y Y (aP Y (cS (cz (ci (evz z))))) (λ_=>m) ?_;refine bv (i:=9) (d:=J 26) (by kernel_rfl) Y Y Y (aq (C K 4 O) Y (evz (cr z))) (λ_=>m) ?_;refine mG (i:=10) (by kernel_rfl) Y Y Y Y (evz (cr (aU z))) (cz (evz (ba (aR (aU z))))) (λw l h2=>by simp[Instr.storeAt,go_sem,l,h2]) r2 rf (λh=>absurd Y h) ?_;refine aJ (by kernel_rfl) (hQ.out _ _ ?_) _;rw[R.out];simp only[Act.put,List.setIfInBounds_toArray];dsimp only[List.set];clear hQ t R z m Q a' e0 e3 o k4;have R:db K (Gn F n E).ownBlock w (w3.setCell (C K 4 O) (Gn (J (C g 0 O)) (n+1) u)):=((((QK.row _).below ((GB _ _).drew)).below av).grown j).setCell (G5 Y) _;have QV:a8 (w3.setCell (C K 4 O) (Gn (J (C g 0 O)) (n+1) u)) K name code ep (nx+1) (Gn (J (C g 0 O)) (n+1) u):=by have l:=(j.block K (by simp;omega) QO).trans ((GR r.drew _ QQ).trans QM);have h2:=ag (o:=4) (Gn (J (C g 0 O)) (n+1) u) l;unfold a8;simpa using h2
 have Rh:g≠K:=by
  rcases p with l|l
  ·exact λe=>QN (by rw[l,e])
  simp at l;omega
 have QU:bQ (w3.setCell (C K 4 O) (Gn (J (C g 0 O)) (n+1) u)) B (Gn (J (C g 0 O)) (n+1) u) (xs++[⟨key,nx,fl.data.toList,k.data.toList,tx.data.toList⟩]):=by
  unfold bQ;rw[ju];have e:(xs++[(⟨key,nx,fl.data.toList,k.data.toList,tx.data.toList⟩:au)]).length=n+1:=by simp[QL]
  rw[e];refine ai (w:=w3) (λb hb=>GN _ _ _ _ ?_) L;have e:g=b:=Option.some.inj hb;show b≠K;omega
 have QS:(Gn F n E).ownBlock=J g∨w.heap.size<=g:=by
  rcases p with l|l
  ·exact G5 l
  right;simp at l;omega
 have t:(w3.setCell (C K 4 O) (Gn (J (C g 0 O)) (n+1) u)).heap[w.heap.size]?=J (Gt #[I U key,I U nx,Z fl,Z k,Z tx] 138 (0,0)):=(GN _ _ _ _ (by show w.heap.size≠K;omega)).trans r1;have m:(w3.setCell (C K 4 O) (Gn (J (C g 0 O)) (n+1) u)).heap[w.heap.size+1]?=J (Gt #[I U 0,I U 0,Z ⟨#[]⟩,Z ⟨#[]⟩,Z ⟨#[]⟩] 138 (0,0)):=(GN _ _ _ _ (by show w.heap.size+1≠K;omega)).trans ((j.block (w.heap.size+1) (by simp;omega) QR).trans ((GR r.drew _ (show w.heap.size+1<r.heap.size by omega)).trans QT));have Rd:w.heap.size+2<=(w3.setCell (C K 4 O) (Gn (J (C g 0 O)) (n+1) u)).heap.size:=by have:=j.size;simp at this⊢;omega
 have Rb:g≠w.heap.size+1:=by
  rcases p with l|l
  ·exact λe=>QR (by rw[l,e])
  simp at l;omega
 generalize(w3.setCell (C K 4 O) (Gn (J (C g 0 O)) (n+1) u))=l at*;have p0:l.cell? (C w.heap.size 0 O)=J (I U key):=by simp[GM,t]
 have p1:l.cell? (C w.heap.size 1 O)=J (I U nx):=by simp[GM,t]
 have p2:l.cell? (C w.heap.size 2 O)=J (Z fl):=by simp[GM,t]
 have p3:l.cell? (C w.heap.size 3 O)=J (Z k):=by simp[GM,t]
 have p4:l.cell? (C w.heap.size 4 O)=J (Z tx):=by simp[GM,t]
 have q0:l.cell? ⟨w.heap.size+1,0,O⟩=J (I U 0):=by simp[GM,m]
 have q1:l.cell? ⟨w.heap.size+1,1,O⟩=J (I U 0):=by simp[GM,m]
 have q2:l.cell? ⟨w.heap.size+1,2,O⟩=J (Z ⟨#[]⟩):=by simp[GM,m]
 have q3:l.cell? ⟨w.heap.size+1,3,O⟩=J (Z ⟨#[]⟩):=by simp[GM,m]
 have q4:l.cell? ⟨w.heap.size+1,4,O⟩=J (Z ⟨#[]⟩):=by simp[GM,m]
 have qf:∀o,l.frozen? ⟨w.heap.size+1,o,O⟩=Gw:=λo=>by simp[World.frozen?,m]
 have Q3:=qf 0;have QZ:=qf 1;have QY:=qf 2;have QX:=qf 3;have QW:=qf 4;have Q9:=hid R;have Q8:=hid QV;have Q6:=hid QU;have Q7:=hid QS;have Q5:=hid m;clear R QV QU QS t m L j p r1 r2 rf G M QM QP QT QK Hh Ho;go_wp2_with fail;have j:=oD Q5.out (I U key) (I U nx) (Z fl) (Z k) (Z tx);have p:a8 (set5 l (w.heap.size+1) (I U key) (I U nx) (Z fl) (Z k) (Z tx)) K name code ep (nx+1) (Gn (J (C g 0 O)) (n+1) u):=(oC l (by omega) _ _ _ _ _).trans Q8.out;have m:bQ (set5 l (w.heap.size+1) (I U key) (I U nx) (Z fl) (Z k) (Z tx)) B (Gn (J (C g 0 O)) (n+1) u) (xs++[⟨key,nx,fl.data.toList,k.data.toList,tx.data.toList⟩]):=by refine ai (w:=l) (λb hb=>oC l ?_ _ _ _ _ _) Q6.out;have e:g=b:=Option.some.inj hb;omega
 have e:=Q9.out.set5 (R:=w.heap.size+1) (by omega) (I U key) (I U nx) (Z fl) (Z k) (Z tx);refine(?_:bodyPost _ _ _ _ _ (set5 l (w.heap.size+1) (I U key) (I U nx) (Z fl) (Z k) (Z tx)));clear p0 p1 p2 p3 p4 q0 q1 q2 q3 q4 qf Q3 QZ QY QX QW;generalize set5 l (w.heap.size+1) (I U key) (I U nx) (Z fl) (Z k) (Z tx)=b at*;have R:b.cell? ⟨w.heap.size+1,0,O⟩=J (I U key):=by simp[GM,j]
 have M:b.cell? ⟨w.heap.size+1,1,O⟩=J (I U nx):=by simp[GM,j]
 have L:b.cell? ⟨w.heap.size+1,2,O⟩=J (Z fl):=by simp[GM,j]
 have G:b.cell? ⟨w.heap.size+1,3,O⟩=J (Z k):=by simp[GM,j]
 have t:b.cell? ⟨w.heap.size+1,4,O⟩=J (Z tx):=by simp[GM,j]
 refine bodyPost_ret (v:=.agg #[I U key,I U nx,Z fl,Z k,Z tx]) (by simp[results,Tryz.results76,go_sem,R,M,L,G,t]) Y ⟨rfl,g,u,p,m,Q7.out,e⟩
end
section
open Go.RowKit
def iG (brk:List Nat) (listed:Array Bool):Bool:=brk.all λl=>!(listed.getD l Gz)
section
variable {P:IY} {ops:Array Jr} {Q:K2->Iz->GA->Prop} {S:GA->Prop} {brk:List Nat}
def dM (P:IY) (ops:Array Jr) (Q:K2->Iz->GA->Prop) (S:GA->Prop) (brk:List Nat):Nat->Array Bool->Iz->GA->Prop
 |0,listed,a,w=>IJ .any ops listed=[]/\Q .normal a w
 |fuel+1,listed,a,w=>
  (IJ .any ops listed=[]->Q .normal a w)/\
  ∀i∈IJ .any ops listed,wpOp P ops Q i (λa' w'=>(iG brk (listed.setIfInBounds i Gz)=Gz->S w')/\dM P ops Q S brk fuel (listed.setIfInBounds i Gz) a' w') a w
theorem nK:∀(fuel:Nat) (listed:Array Bool) (a:Iz) (w:GA),dM P ops Q S brk fuel listed a w->wpAny P .any ops Q fuel listed a w
 |0,_,_,_,h=>h
 |fuel+1,_,_,_,h=>⟨h.1,λi b=>wpOp_mono (λj w' e=>nK fuel _ j w' e.2) (h.2 i b)⟩
theorem uw{listed:Array Bool}{i:Nat}(h:iG brk (listed.setIfInBounds i Gz)=Gz):iG brk listed=Gz:=by
 unfold iG at*;rw[Nz]at*;intro l k;have b:=h l k
 by_cases e:i=l
 ·subst e
  rcases Kh i listed.size with j|j
  ·simp[j]at b
  simp at b
 rwa [Py Gz e]at b
theorem qt{listed:Array Bool}{i:Nat}(hi:i∉brk)(h:iG brk listed=Gz):iG brk (listed.setIfInBounds i Gz)=Gz:=by
 unfold iG at*;rw[Nz]at*;intro l e;have b:i≠l:=by rintro rfl;exact hi e
 rw[Py Gz b];exact h l e
theorem kS{i:Nat}{oi:Jr}{v:GC}{T:GA->Prop}(hi:ops[i]?=J oi)(QO:i∉brk)(r:∀(j:Nat) (o:Jr) cs b,ops[j]?=J o->o.op≠.select cs b)
  (hQ:∀c a w,Q (.panic c) (a.put oi.dst v) w->Q (.panic c) a w)
  (M:(∀w,T w)∨((∀w,S w->T w)/\brk.all (λl=>kA ops l i)=Gz)):
  ∀(fuel:Nat) (listed:Array Bool) (a:Iz) (w:GA),
   (∀j E,ops[j]?=J E->j≠i->listed.getD j Gz=Gw->(∀e∈E.after,L6 .any e=Gz->e.on≠i)->oi.apart ops E=Gz)->
   i∈IJ .any ops listed->YieldsIf P ops T oi v a->T w->(iG brk listed=Gz->S w)->((∀w,T w)∨iG brk listed=Gz)->
   dM P ops Q S brk fuel (listed.setIfInBounds i Gz) (a.put oi.dst v) w->dM P ops Q S brk (fuel+1) listed a w:=by
 intro fuel
 induction fuel with
 |zero=>
  intro listed a w _ t hy k u _ H;refine⟨λh=>(by rw[h]at t;cases t),λj hj=>?_⟩
  by_cases m:j=i
  ·subst m;exact hy.wpOp hi k ⟨λh=>u (uw h),H⟩
  have:=NK hj m;rw[H.1]at this
  cases this
 |succ fuel ih=>
  intro listed a w p t hy k u n H;refine⟨λh=>(by rw[h]at t;cases t),λj hj=>?_⟩
  by_cases m:j=i
  ·subst m;exact hy.wpOp hi k ⟨λh=>u (uw h),H⟩
  have L:=H.2 j (NK hj m);obtain⟨u,E,G,QL⟩:=NA.1 hj;have R:∀e∈E.after,L6 .any e=Gz->e.on≠i:=λe he hb QP=>by
   have L:=QL e he hb;have F:=(NA.1 t).1;rw[QP]at L
   rcases Kh i listed.size with k|k
   ·simp[k]at F L;rw[F]at L;cases L
   simp[Array.getElem?_eq_none k]at L
  have h2:=wpOp_putIf G (p j E G m u R) (λcs b=>r i oi cs b hi) (λcs b=>r j E cs b G) hQ hy L;have hfree':∀k ok,ops[k]?=J ok->k≠i->(listed.setIfInBounds j Gz).getD k Gz=Gw->
    (∀e∈ok.after,L6 .any e=Gz->e.on≠i)->oi.apart ops ok=Gz:=λk ok hk QN F QM=>by
   refine p k ok hk QN ?_ QM
   by_cases QK:j=k
   ·subst QK;exact u
   ·rw[Py Gz QK]at F;exact F
  have hub':(∀w,T w)∨iG brk (listed.setIfInBounds j Gz)=Gz:=by
   rcases M with M|⟨_,F⟩
   ·exact G5 M
   rcases n with n|n
   ·exact G5 n
   exact G9 (qt (λe=>mB (Nz.1 F j e) (NA.1 t).1 hj) n)
  refine wpOp_mono (λa' w' h3=>?_) h2;have e:(listed.setIfInBounds i Gz).setIfInBounds j Gz=(listed.setIfInBounds j Gz).setIfInBounds i Gz:=Array.setIfInBounds_comm _ _ (Ne.symm m);have hS':iG brk (listed.setIfInBounds j Gz)=Gz->S w':=λh=>h3.2.1 (by rw[e];exact qt QO h)
  have hT':T w':=by
   rcases M with M|⟨F,_⟩
   ·exact M w'
   rcases hub' with h|h
   ·exact h w'
   exact F w' (hS' h)
  refine⟨hS',ih (listed.setIfInBounds j Gz) a' w' hfree' (NK t (Ne.symm m)) h3.1 hT' hS' hub' ?_⟩;rw[←e];exact h3.2.2
theorem bO{listed:Array Bool}{a:Iz}{w:GA}(b:IJ .any ops listed=[])(h:Q .normal a w):∀fuel,dM P ops Q S brk fuel listed a w
 |0=>⟨b,h⟩
 |_+1=>⟨λ_=>h,by rw[b];simp⟩
end
theorem bP{P:IY}{id:Nat}{ops:Array Jr}{Q:K2->Iz->GA->Prop}{a:Iz}{w:GA}(brk:List Nat)(S:GA->Prop)(n:Nat)(j:ops.size=n)(k:P.follows .mixedOrders=Gz)(l:S w.drew)
  (h:∀(e:Iz) (b:K2->Iz->GA->Prop),Shut (e=a)->Shut (∀a w,Q .normal a w->b .normal a w)->(∀c (a:Iz) d v w,b (.panic c) (a.put d v) w->b (.panic c) a w)->S w.drew->dM P ops b S brk n (Array.replicate n Gw) e w.drew):
  (Code.region id ops Gz).wp P Q a w:=by
 subst j;exact wp_region_noPanic (wp_region_any k (nK _ _ _ _ (h a (NoPanic Q) Y (λ_ _ h=>h) (λ_ _ _ _ _ h=>h) l)))
section
variable {P:IY} {ops:Array Jr} {Q:K2->Iz->GA->Prop} {S:GA->Prop} {brk:List Nat} {i:Nat} {fuel:Nat} {listed:Array Bool} {a:Iz} {w:GA} {oi:Jr} {v:GC} {d:Option Tmp}
def vD (ops:Array Jr) (brk:List Nat) (listed:Array Bool) (i:Nat):Bool:=NX ops&&PA .any ops listed i&&(IJ .any ops listed).contains i&&brk.all (λl=>kA ops l i)&&iG brk listed&&!(brk.contains i)
def nl (ops:Array Jr) (brk:List Nat) (listed:Array Bool) (i:Nat):Bool:=NX ops&&PA .any ops listed i&&(IJ .any ops listed).contains i&&!(brk.contains i)
theorem af(b:oi.guard=O):Iq oi (JM ops a.tmps)=Gz:=by simp[Iq,b]
theorem F5(hi:ops[i]?=J oi)(l:oi.dst=d)(b:vD ops brk listed i=Gz)(m:∀c (a:Iz) d v w,Q (.panic c) (a.put d v) w->Q (.panic c) a w)(j:Iq oi (JM ops a.tmps)=Gz)
  (k:∀w,S w->(In a.eval oi).run P w=.ok (.value v) w) (e:S w)
  (h:dM P ops Q S brk fuel (listed.setIfInBounds i Gz) (a.put d v) w):dM P ops Q S brk (fuel+1) listed a w:=by
 subst l;unfold vD at b;simp only[If]at b;obtain⟨⟨⟨⟨⟨u,t⟩,r⟩,p⟩,o⟩,n⟩:=b;exact kS (T:=S) hi (by simpa using n) (Kt u) (λc a w=>m c a _ _ w) (G9 ⟨λ_ h=>h,p⟩) fuel listed a w (Lq hi t) (by simpa using r) (G5 ⟨j,k⟩) e (λ_=>e) (G9 o) h
theorem eX(i:Nat)(d:Option Tmp)(hi:ops[i]?=J oi)(k:oi.dst=d)(m:∀c (a:Iz) d v w,Q (.panic c) (a.put d v) w->Q (.panic c) a w)(e:Iq oi (JM ops a.tmps)=Gz)(j:∀w,S w->(In a.eval oi).run P w=.ok (.value v) w)(l:S w)(h:dM P ops Q S brk fuel (listed.setIfInBounds i Gz) (a.put d v) w)(b:vD ops brk listed i=Gz:=by kernel_rfl):dM P ops Q S brk (fuel+1) listed a w:=
 F5 hi k b m e j l h
theorem F6(hi:ops[i]?=J oi)(k:oi.dst=d)(b:nl ops brk listed i=Gz)(m:∀c (a:Iz) d v w,Q (.panic c) (a.put d v) w->Q (.panic c) a w)(e:Iq oi (JM ops a.tmps)=Gz)
  (j:∀w,(In a.eval oi).run P w=.ok (.value v) w) (l:S w)
  (h:dM P ops Q S brk fuel (listed.setIfInBounds i Gz) (a.put d v) w):dM P ops Q S brk (fuel+1) listed a w:=by
 subst k;unfold nl at b;simp only[If]at b;obtain⟨⟨⟨r,p⟩,o⟩,n⟩:=b;exact kS (T:=λ_=>True) hi (by simpa using n) (Kt r) (λc a w=>m c a _ _ w) (G5 λ_=>trivial) fuel listed a w (Lq hi p) (by simpa using o) (G5 ⟨e,λw _=>j w⟩) trivial (λ_=>l) (G5 λ_=>trivial) h
theorem aE(i:Nat)(d:Option Tmp)(hi:ops[i]?=J oi)(k:oi.dst=d)(m:∀c (a:Iz) d v w,Q (.panic c) (a.put d v) w->Q (.panic c) a w)(e:Iq oi (JM ops a.tmps)=Gz)(j:∀w,(In a.eval oi).run P w=.ok (.value v) w)(l:S w)(h:dM P ops Q S brk fuel (listed.setIfInBounds i Gz) (a.put d v) w)(b:nl ops brk listed i=Gz:=by kernel_rfl):dM P ops Q S brk (fuel+1) listed a w:=
 F6 hi k b m e j l h
theorem FN(hi:ops[i]?=J oi)(j:oi.dst=d)(b:nl ops brk listed i=Gz)(l:∀c (a:Iz) d v w,Q (.panic c) (a.put d v) w->Q (.panic c) a w)(e:Iq oi (JM ops a.tmps)=Gw)(k:S w)
  (h:dM P ops Q S brk fuel (listed.setIfInBounds i Gz) (a.put d undef) w):dM P ops Q S brk (fuel+1) listed a w:=by
 subst j;unfold nl at b;simp only[If]at b;obtain⟨⟨⟨p,o⟩,n⟩,m⟩:=b;exact kS (T:=λ_=>True) hi (by simpa using m) (Kt p) (λc a w=>l c a _ _ w) (G5 λ_=>trivial) fuel listed a w (Lq hi o) (by simpa using n) (G9 ⟨e,rfl⟩) trivial (λ_=>k) (G5 λ_=>trivial) h
theorem cu(i:Nat)(d:Option Tmp)(hi:ops[i]?=J oi)(j:oi.dst=d)(l:∀c (a:Iz) d v w,Q (.panic c) (a.put d v) w->Q (.panic c) a w)(e:Iq oi (JM ops a.tmps)=Gw)(k:S w)(h:dM P ops Q S brk fuel (listed.setIfInBounds i Gz) (a.put d undef) w)(b:nl ops brk listed i=Gz:=by kernel_rfl):dM P ops Q S brk (fuel+1) listed a w:=
 FN hi j b l e k h
theorem zY(e:IJ .any ops listed=[i])(hi:ops[i]?=J oi)
  (h:∀b:Iz->GA->Prop,Shut (∀a w,(iG brk (listed.setIfInBounds i Gz)=Gz->S w)->dM P ops Q S brk fuel (listed.setIfInBounds i Gz) a w->b a w)->if Iq oi (JM ops a.tmps)=Gz then Oper.wp P oi a w b Q else b (a.put oi.dst undef) w):
  dM P ops Q S brk (fuel+1) listed a w:=by
 refine⟨λl=>(by rw[e]at l;cases l),λj k=>?_⟩;rw[e]at k;obtain rfl:j=i:=by simpa using k
 exact wpOp_step hi (λb o=>h b (λa w n m=>o a w ⟨n,m⟩))
theorem eJ{w':GA}(e:IJ .any ops listed=[i])(hi:ops[i]?=J oi)(k:oi.dst=d)(b:Iq oi (JM ops a.tmps)=Gz)(j:(In a.eval oi).run P w=.ok (.value v) w')(l:iG brk (listed.setIfInBounds i Gz)=Gz->S w')
  (h:dM P ops Q S brk fuel (listed.setIfInBounds i Gz) (a.put d v) w'):dM P ops Q S brk (fuel+1) listed a w:=by
 subst k;refine zY e hi (λn m=>?_);rw[if_pos b];unfold Oper.wp;rw[j];exact m.out _ _ l h
theorem kH{t:Hx}{x y:IB}{p:Addr}{w':GA}(j:IJ .any ops listed=[i])(hi:ops[i]?=J oi)(b:oi.guard=O)(l:oi.op=.store t x y)(m:oi.dst=O)(k:a.eval x=Gr (J p))(e:a.eval y=v)
  (hs:(Instr.storeAt t (Gr (J p)) v).run P w=.ok () w') (n:iG brk (listed.setIfInBounds i Gz)=Gz->S w')
  (h:dM P ops Q S brk fuel (listed.setIfInBounds i Gz) a w'):dM P ops Q S brk (fuel+1) listed a w:=
 zY j hi (λ_ o=>rV b l m k e hs (o.out _ _ n h))
theorem iK{f:FuncId}{fn:Func}{c:Code}{x:IB}{xs:Array IB}{ts:Array Hx}{args:Array GC}{R:Ending->GA->Prop}(j:IJ .any ops listed=[i])(hi:ops[i]?=J oi)(n:oi.dst=d)(k:Iq oi (JM ops a.tmps)=Gz)
  (l:oi.op=.call {callee:=.value x,args:=xs,argTypes:=ts}) (hx:a.eval x=.func (.func f) #[] #[]) (m:P.funcs[f]?=J fn) (b:(fn.name== "runtime.NumGoroutine")=Gw) (p:fn.body=J c) (r:xs.map a.eval=args) (o:Calls P f args w R)
  (h:∀e w',R e w'->∃v,e=.returned v/\(iG brk (listed.setIfInBounds i Gz)=Gz->S w')/\dM P ops Q S brk fuel (listed.setIfInBounds i Gz) (a.put d v) w'):dM P ops Q S brk (fuel+1) listed a w:=by
 subst n;refine zY j hi (λF t=>?_);rw[if_pos k];have j:(In a.eval oi).run P w=.ok (.enter f args) w:=by unfold In;simp only[l,resolve,hx];simp[invoke,Deferred.ofValue,r];exact Go.MuLone.run_callFunc_enter m b p args w
 unfold Oper.wp;rw[j,Oper.upon_enter];refine o.mono λe w' hR=>?_
 obtain⟨v,rfl,E,u⟩:=h e w' hR;exact t.out _ _ E u
end
end
end Go.Proofs.YtlbhikafmckcfaaGreatDoor
