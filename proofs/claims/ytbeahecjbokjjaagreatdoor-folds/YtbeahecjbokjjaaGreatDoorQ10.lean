import Derived.Test.YtbeahecjbokjjaaGreatDoorQ9
set_option maxRecDepth 100000
set_option maxHeartbeats 16000000
namespace Go.Proofs.YtbeahecjbokjjaaGreatDoor
open Go.RowKit Go.Lib
def yJ (D:eD) (x:fZ):List UInt8:=((D.nodes[x.node.toNat]?).getD ⟨[],0⟩).data
def pG (D:eD):List bW:=D.names.map λx=>⟨x.name,yJ D x⟩
section
variable {role:Nat->Nat} {B K:Nat} {V:DkV} {D:eD} {w w1:World}
end
theorem iY{P:Program}{a:Act}{w w':World}{oi:Oper}{v:Value}{t:TypeId}(ho:oi.op=.alloc t)(hf:(Instr.alloc t true (.tuple #[])).run P w=.ok v w'):(execOp a.eval oi).run P w=.ok (.value v) w':=by
 unfold execOp;simp only[ho,Sem.run_bind,hf,Result.andThen,Sem.run_pure]
structure fq (X N:Nat) (w w':World):Prop where
 os:w'.os=w.os
 tape:w'.tape=w.tape
 output:w'.output=w.output
 size:w.heap.size<=w'.heap.size
 block:∀b,b<N->b≠X->w'.heap[b]?=w.heap[b]?
section
variable {X N:Nat} {a w w':World}
theorem fq.refl(X N:Nat)(w:World):fq X N w w:=⟨rfl,rfl,rfl,alU,λ_ _ _=>rfl⟩
theorem fq.step(h:fq X N a w)(k:Below N w w'):fq X N a w':=⟨k.os.trans h.os,k.tape.trans h.tape,k.output.trans h.output,alS h.size k.size,λb h1 h2=>(k.block b h1).trans (h.block b h1 h2)⟩
theorem fq.below(h:fq X N a w)(hX:X<=N){M:Nat}(hM:M<=X):Below M a w:=⟨h.os,h.tape,h.output,h.size,λb hb=>h.block b (by omega) (by omega)⟩
theorem fq.cell(h:fq X N a w){p:Addr}(h1:p.block<N)(h2:p.block≠X):w.cell? p=a.cell? p:=World.cell?_of_block (w:=a) (h.block p.block h1 h2)
end
theorem au{w w':World}{B:Nat}{t:TypeId}{size n:Nat}{v:Value}{xs:List Value}(hb:∀b,v.ownBlock=some b->w'.heap[b]?=w.heap[b]?)(h:w.ownsRow B t size v n xs):w'.ownsRow B t size v n xs:=by
 refine⟨h.1,?_⟩
 rcases h.2 with h1|⟨g,c,B5,h1,h2,h3,h4⟩
 ·exact Or.inl h1
 ·exact Or.inr ⟨g,c,B5,h1,h2,(hb g (by rw[h1];rfl)).trans h3,h4⟩
structure But (K:Nat) (row:Option Nat) (w w':World):Prop where
 os:w'.os=w.os
 tape:w'.tape=w.tape
 output:w'.output=w.output
 size:w.heap.size<=w'.heap.size
 block:∀b,b<w.heap.size->b≠K->row≠some b->w'.heap[b]?=w.heap[b]?
theorem But.of_below{K:Nat}{row:Option Nat}{w w':World}(h:Below w.heap.size w w'):But K row w w':=⟨h.os,h.tape,h.output,h.size,λb hb _ _=>h.block b hb⟩
theorem But.row{K:Nat}(row:Option Nat){w w':World}(h:But K none w w'):But K row w w':=⟨h.os,h.tape,h.output,h.size,λb h1 h2 _=>h.block b h1 h2 (by simp)⟩
theorem But.below{K:Nat}{row:Option Nat}{w w1 w2:World}(h:But K row w w1)(k:Below w1.heap.size w1 w2):But K row w w2:=⟨k.os.trans h.os,k.tape.trans h.tape,k.output.trans h.output,alS h.size k.size,λb hb h1 h2=>(k.block b (alH hb h.size)).trans (h.block b hb h1 h2)⟩
theorem But.setCell{K:Nat}{row:Option Nat}{w w1:World}(h:But K row w w1){p:Addr}(hp:p.block=K∨w.heap.size<=p.block)(u:Value):But K row w (w1.setCell p u):=by
 have hb:=(Below.refl 0 w1).setCell (p:=p) (alT _) u;refine⟨hb.os.trans h.os,hb.tape.trans h.tape,hb.output.trans h.output,by simpa using h.size,λb h1 h2 h3=>(alP _ _ _ _ ?_).trans (h.block b h1 h2 h3)⟩;rintro rfl
 rcases hp with h4|h4
 ·exact h2 h4
 ·omega
theorem But.grown{K:Nat}{row:Option Nat}{w w1 w2:World}(h:But K row w w1)(hg:w1.grownBy w2 row):But K row w w2:=by
 have hb:=(Below.refl 0 w1).grown hg (alT _) (λ_ _=>alT _);exact⟨hb.os.trans h.os,hb.tape.trans h.tape,hb.output.trans h.output,alS h.size hg.size,λb h1 h2 h3=>(hg.block b (alH h1 h.size) (Ne.symm h3)).trans (h.block b h1 h2 h3)⟩
theorem oI{P:Nat}{key uid:Int}{fl cm tx:ByteArray}{w:World}{fr:Nat×Nat}(h:w.heap[P]?=some (.cells #[.int .i64 key,.int .i64 uid,.string fl,.string cm,.string tx] 165 fr)):
  (Instr.loadAt 165 (.pointer (some ⟨P,0,none⟩))).run Tryz.prog w=.ok (.agg #[.int .i64 key,.int .i64 uid,.string fl,.string cm,.string tx]) w:=by
 have c0:w.cell? ⟨P,0,none⟩=some (.int .i64 key):=by simp[World.cell?,h]
 have c1:w.cell? ⟨P,1,none⟩=some (.int .i64 uid):=by simp[World.cell?,h]
 have c2:w.cell? ⟨P,2,none⟩=some (.string fl):=by simp[World.cell?,h]
 have c3:w.cell? ⟨P,3,none⟩=some (.string cm):=by simp[World.cell?,h]
 have c4:w.cell? ⟨P,4,none⟩=some (.string tx):=by simp[World.cell?,h]
 go_simp
theorem mP{key uid:Int}{fl cm tx:ByteArray}{w:World}:
  (Instr.buildSlice 112 1 #[(0,.agg #[.int .i64 key,.int .i64 uid,.string fl,.string cm,.string tx])]).run Tryz.prog w=.ok (.slice (some ⟨w.heap.size,0,none⟩) 1 1) (w.alloc (.cells #[.int .i64 key,.int .i64 uid,.string fl,.string cm,.string tx] 165)):=by
 go_simp
abbrev set5 (w:World) (R:Nat) (v0 v1 v2 v3 v4:Value):World:=((((w.setCell ⟨R,0,none⟩ v0).setCell ⟨R,1,none⟩ v1).setCell ⟨R,2,none⟩ v2).setCell ⟨R,3,none⟩ v3).setCell ⟨R,4,none⟩ v4
theorem lH{w:World}{R:Nat}{u0 u1 u2 u3 u4:Value}{t:TypeId}{fr:Nat×Nat}(h:w.heap[R]?=some (.cells #[u0,u1,u2,u3,u4] t fr))(v0 v1 v2 v3 v4:Value):(set5 w R v0 v1 v2 v3 v4).heap[R]?=some (.cells #[v0,v1,v2,v3,v4] t fr):=by
 have h5:=ah (o:=4) v4 (ah (o:=3) v3 (ah (o:=2) v2 (ah (o:=1) v1 (ah (o:=0) v0 h))));simpa using h5
theorem lG(w:World){R b:Nat}(h:b≠R)(v0 v1 v2 v3 v4:Value):(set5 w R v0 v1 v2 v3 v4).heap[b]?=w.heap[b]?:=
 (alP _ _ _ _ h).trans ((alP _ _ _ _ h).trans ((alP _ _ _ _ h).trans ((alP _ _ _ _ h).trans (alP _ _ _ _ h))))
theorem But.set5{K:Nat}{row:Option Nat}{w w1:World}(h:But K row w w1){R:Nat}(hp:w.heap.size<=R)(v0 v1 v2 v3 v4:Value):But K row w (set5 w1 R v0 v1 v2 v3 v4):=
 ((((h.setCell (Or.inr hp) v0).setCell (Or.inr hp) v1).setCell (Or.inr hp) v2).setCell (Or.inr hp) v3).setCell (Or.inr hp) v4
theorem vY{w:World}{K B:Nat}{name B6:ByteArray}{ep nx:Int}{v:Value}{xs:List ap}(h:bg w K name B6 ep nx v)(ho:bI w B v xs)(hB:B<=w.heap.size)(Ci:v.ownBlock≠some K)(hl:xs.length<=1048576)(CM:0<=nx)(CL:nx<=99)(key uid:Int)(fl cm tx:ByteArray):
  Calls Tryz.prog 82 #[.pointer (some ⟨K,0,none⟩),.agg #[.int .i64 key,.int .i64 uid,.string fl,.string cm,.string tx]] w λe w'=>e=.returned (.agg #[.int .i64 key,.int .i64 nx,.string fl,.string cm,.string tx])/\∃g cap,bg w' K name B6 ep (nx+1) (.slice (some ⟨g,0,none⟩) (xs.length+1) cap)/\bI w' B (.slice (some ⟨g,0,none⟩) (xs.length+1) cap) (xs++[⟨key,nx,fl.data.toList,cm.data.toList,tx.data.toList⟩])/\(v.ownBlock=some g∨w.heap.size<=g)/\But K v.ownBlock w w':=by
 obtain⟨d0,d1,d2,d3,d4,df,hK⟩:=h.cells;have CO:=df 3;obtain⟨va,vc,rfl,_⟩:=cx ho;generalize Cf:xs.length=n at*;have Hh:=hid h;have Ho:=hid ho;have CI:IntKind.i64.wrap (nx+1)=nx+1:=IntWalk.i64_in _ (by omega);clear h ho;go_enter Tryz.func82,Tryz.ntmps82;go_wp2_with fail;have CK:(((w.setCell ⟨K,3,none⟩ (.int .i64 (nx+1))).alloc (.cells #[.int .i64 key,.int .i64 nx,.string fl,.string cm,.string tx] 165)).alloc (.cells #[.int .i64 0,.int .i64 0,.string ⟨#[]⟩,.string ⟨#[]⟩,.string ⟨#[]⟩] 165)).heap.size=w.heap.size+2:=by simp
 have Ch:bg (((w.setCell ⟨K,3,none⟩ (.int .i64 (nx+1))).alloc (.cells #[.int .i64 key,.int .i64 nx,.string fl,.string cm,.string tx] 165)).alloc (.cells #[.int .i64 0,.int .i64 0,.string ⟨#[]⟩,.string ⟨#[]⟩,.string ⟨#[]⟩] 165)) K name B6 ep (nx+1) (.slice va n vc):=by
  have h1:=ah (o:=3) (.int .i64 (nx+1)) Hh.out;exact(alB _ _ (by simp;omega)).trans ((alB _ _ (by simpa using hK)).trans (by simpa using h1))
 have Ck:(((w.setCell ⟨K,3,none⟩ (.int .i64 (nx+1))).alloc (.cells #[.int .i64 key,.int .i64 nx,.string fl,.string cm,.string tx] 165)).alloc (.cells #[.int .i64 0,.int .i64 0,.string ⟨#[]⟩,.string ⟨#[]⟩,.string ⟨#[]⟩] 165)).heap[w.heap.size]?=some (.cells #[.int .i64 key,.int .i64 nx,.string fl,.string cm,.string tx] 165 (0,0)):=by
  have h1:=alA (w.setCell ⟨K,3,none⟩ (.int .i64 (nx+1))) (.cells #[.int .i64 key,.int .i64 nx,.string fl,.string cm,.string tx] 165);exact(alB _ _ (by simp)).trans (by simpa using h1)
 have Co:(((w.setCell ⟨K,3,none⟩ (.int .i64 (nx+1))).alloc (.cells #[.int .i64 key,.int .i64 nx,.string fl,.string cm,.string tx] 165)).alloc (.cells #[.int .i64 0,.int .i64 0,.string ⟨#[]⟩,.string ⟨#[]⟩,.string ⟨#[]⟩] 165)).heap[w.heap.size+1]?=some (.cells #[.int .i64 0,.int .i64 0,.string ⟨#[]⟩,.string ⟨#[]⟩,.string ⟨#[]⟩] 165 (0,0)):=by
  have h1:=alA ((w.setCell ⟨K,3,none⟩ (.int .i64 (nx+1))).alloc (.cells #[.int .i64 key,.int .i64 nx,.string fl,.string cm,.string tx] 165)) (.cells #[.int .i64 0,.int .i64 0,.string ⟨#[]⟩,.string ⟨#[]⟩,.string ⟨#[]⟩] 165);simpa using h1
 have Cd:But K none w (((w.setCell ⟨K,3,none⟩ (.int .i64 (nx+1))).alloc (.cells #[.int .i64 key,.int .i64 nx,.string fl,.string cm,.string tx] 165)).alloc (.cells #[.int .i64 0,.int .i64 0,.string ⟨#[]⟩,.string ⟨#[]⟩,.string ⟨#[]⟩] 165)):=(((But.of_below (Below.refl _ _)).setCell (p:=⟨K,3,none⟩) (Or.inl rfl) _).below aw).below aw;have Ca:(((w.setCell ⟨K,3,none⟩ (.int .i64 (nx+1))).alloc (.cells #[.int .i64 key,.int .i64 nx,.string fl,.string cm,.string tx] 165)).alloc (.cells #[.int .i64 0,.int .i64 0,.string ⟨#[]⟩,.string ⟨#[]⟩,.string ⟨#[]⟩] 165)).ownsRow B 165 5 (.slice va n vc) n (aM xs):=by
  have h1:w.ownsRow B 165 5 (.slice va n vc) n (aM xs):=by have:=Ho.out;unfold bI at this;rwa [Cf]at this
  refine au (λb hb=>?_) h1;have h2:=h1.lt b hb;exact Cd.block b h2.2 (λe=>Ci (by rw[hb,e])) (by simp)
 generalize(((w.setCell ⟨K,3,none⟩ (.int .i64 (nx+1))).alloc (.cells #[.int .i64 key,.int .i64 nx,.string fl,.string cm,.string tx] 165)).alloc (.cells #[.int .i64 0,.int .i64 0,.string ⟨#[]⟩,.string ⟨#[]⟩,.string ⟨#[]⟩] 165))=w2 at*;have k4:=Ch.cells.2.2.2.2.1;have Cl:K<w2.heap.size:=by omega
 have B8:=(Ca.drew).alloc (.cells #[.int .i64 key,.int .i64 nx,.string fl,.string cm,.string tx] 165);have Cj:some K≠(Value.slice va n vc).ownBlock:=λe=>Ci e.symm
 have Cx:some w.heap.size≠(Value.slice va n vc).ownBlock:=λe=>by
  have h1:w.ownsRow B 165 5 (.slice va n vc) n (aM xs):=by have:=Ho.out;unfold bI at this;rwa [Cf]at this
  have:=(h1.lt _ e.symm).2;omega
 have Cm:some (w.heap.size+1)≠(Value.slice va n vc).ownBlock:=λe=>by
  have h1:w.ownsRow B 165 5 (.slice va n vc) n (aM xs):=by have:=Ho.out;unfold bI at this;rwa [Cf]at this
  have:=(h1.lt _ e.symm).2;omega
 refine aC 10 (λw':World=>w'.cell? ⟨K,4,none⟩=some (.slice va n vc)/\w'.heap[w.heap.size]?=some (.cells #[.int .i64 key,.int .i64 nx,.string fl,.string cm,.string tx] 165 (0,0))) 11 rfl (by kernel_rfl) ⟨k4,Ck⟩ (λa' Q hA hQ hP hS=>?_);have z:a'.tmps.size=28:=by rw[hA.out];rfl
 have e0:a'.eval (.tmp 0)=Value.pointer (some ⟨K,0,none⟩):=by rw[hA.out];rfl
 have e3:a'.eval (.tmp 3)=Value.pointer (some ⟨w.heap.size,0,none⟩):=by rw[hA.out];rfl
 refine tkA 0 (some 17) rfl rfl hP (λwx hw=>ag rfl e0) hS ?_;refine tkA 1 (some 18) rfl rfl hP (λwx hw=>ag rfl (ev1 e0)) hS ?_;refine tkA 2 (some 19) rfl rfl hP (λwx hw=>aI rfl (evz (szq z))) hS ?_;refine tkA 3 (some 20) rfl rfl hP (λwx hw=>ai ⟨K,4,none⟩ rfl (evz (sz2 z))) hS ?_;refine tkA 4 (some 21) rfl rfl hP (λwx hw=>aq rfl (evz (sz2 (szq z))) (aO hw.1)) hS ?_;refine tkA 5 (some 22) rfl rfl hP (λwx hw=>aq rfl (ev4 (ev1 e3)) (oI hw.2)) hS ?_;have Cg:(w2.drew.alloc (.cells #[.int .i64 key,.int .i64 nx,.string fl,.string cm,.string tx] 165)).cell? ⟨K,4,none⟩=some (.slice va n vc)/\(w2.drew.alloc (.cells #[.int .i64 key,.int .i64 nx,.string fl,.string cm,.string tx] 165)).heap[w.heap.size]?=some (.cells #[.int .i64 key,.int .i64 nx,.string fl,.string cm,.string tx] 165 (0,0)):=⟨(aF ⟨K,4,none⟩ (alB w2.drew _ Cl)).trans k4,(alB w2.drew _ (show w.heap.size<w2.heap.size by omega)).trans Ck⟩;refine d8 (i:=6) (d:=some 23) (v:=.slice (some ⟨w2.drew.heap.size,0,none⟩) 1 1) (w':=w2.drew.alloc (.cells #[.int .i64 key,.int .i64 nx,.string fl,.string cm,.string tx] 165)) (by kernel_rfl) rfl rfl rfl rfl (evz (sz4 (szq z))) mP (λ_=>Cg) ?_;refine dN (i:=7) (d:=some 24) [.int .i64 key,.int .i64 nx,.string fl,.string cm,.string tx] (by kernel_rfl) rfl rfl rfl rfl o3 (by decide) (ev2 (evz (sz4 z))) B8 (evz (sz4 (sz2 z))) rfl (alF (cs:=#[.int .i64 key,.int .i64 nx,.string fl,.string cm,.string tx]) (t:=165) (fr:=(0,0)) (alA w2.drew _)) (by simp[Value.oneCell']) (by decide) (by unfold maxLen;omega) (by omega) (by simp;omega) ?_;intro g gc w3 B9 B5 B7 Cy;have r2:=(B5.cell_far ⟨K,4,none⟩ (by simp;omega) Cj).trans Cg.1;have rf:=(B5.frozen_far ⟨K,4,none⟩ (by simp;omega) Cj).trans ((alE (a:=⟨K,4,none⟩) (alB w2.drew _ Cl)).trans (Ch.cells.2.2.2.2.2.1 4));have r1:=(B5.block w.heap.size (by simp;omega) Cx).trans Cg.2;refine⟨λ_=>⟨r2,r1⟩,?_⟩;clear hS;have hS:=And.intro r2 r1;refine bb (i:=8) (d:=some 25) (by kernel_rfl) rfl rfl rfl (aI rfl (ev4 (ev2 (ev1 (evz z))))) (λ_=>hS) ?_;refine bb (i:=9) (d:=some 26) (by kernel_rfl) rfl rfl rfl (ai ⟨K,4,none⟩ rfl (evz (sz8 z))) (λ_=>hS) ?_;refine jh (i:=10) (by kernel_rfl) rfl rfl rfl rfl (evz (sz8 (szq z))) (ev2 (evz (sz4 (sz2 (szq z))))) (λw h1 h2=>by simp[Instr.storeAt,go_sem,h1,h2]) r2 rf (λh=>absurd rfl h) ?_;refine aD (by kernel_rfl) (hQ.out _ _ ?_) _;rw[hA.out];simp only[Act.put,List.setIfInBounds_toArray];dsimp only[List.set];clear hQ hP hA z hS Q a' e0 e3 Cg k4;have Cc:But K (Value.slice va n vc).ownBlock w (w3.setCell ⟨K,4,none⟩ (.slice (some ⟨g,0,none⟩) (n+1) gc)):=((((Cd.row _).below ((Below.refl _ _).drew)).below aw).grown B5).setCell (Or.inl rfl) _;have Cr:bg (w3.setCell ⟨K,4,none⟩ (.slice (some ⟨g,0,none⟩) (n+1) gc)) K name B6 ep (nx+1) (.slice (some ⟨g,0,none⟩) (n+1) gc):=by
  have h1:=(B5.block K (by simp;omega) Cj).trans ((alB w2.drew _ Cl).trans Ch);have h2:=ah (o:=4) (.slice (some ⟨g,0,none⟩) (n+1) gc) h1;unfold bg;simpa using h2
 have CN:g≠K:=by
  rcases B7 with h1|h1
  ·exact λe=>Ci (by rw[h1,e])
  ·simp at h1;omega
 have Cp:bI (w3.setCell ⟨K,4,none⟩ (.slice (some ⟨g,0,none⟩) (n+1) gc)) B (.slice (some ⟨g,0,none⟩) (n+1) gc) (xs++[⟨key,nx,fl.data.toList,cm.data.toList,tx.data.toList⟩]):=by
  unfold bI;rw[gZ];have e:(xs++[(⟨key,nx,fl.data.toList,cm.data.toList,tx.data.toList⟩:ap)]).length=n+1:=by simp[Cf]
  rw[e];refine au (w:=w3) (λb hb=>alP _ _ _ _ ?_) B9;have e:g=b:=alR hb;show b≠K;omega
 have Cn:(Value.slice va n vc).ownBlock=some g∨w.heap.size<=g:=by
  rcases B7 with h1|h1
  ·exact Or.inl h1
  ·right;simp at h1;omega
 have Ce:(w3.setCell ⟨K,4,none⟩ (.slice (some ⟨g,0,none⟩) (n+1) gc)).heap[w.heap.size]?=some (.cells #[.int .i64 key,.int .i64 nx,.string fl,.string cm,.string tx] 165 (0,0)):=(alP _ _ _ _ (by show w.heap.size≠K;omega)).trans r1;have Cb:(w3.setCell ⟨K,4,none⟩ (.slice (some ⟨g,0,none⟩) (n+1) gc)).heap[w.heap.size+1]?=some (.cells #[.int .i64 0,.int .i64 0,.string ⟨#[]⟩,.string ⟨#[]⟩,.string ⟨#[]⟩] 165 (0,0)):=(alP _ _ _ _ (by show w.heap.size+1≠K;omega)).trans ((B5.block (w.heap.size+1) (by simp;omega) Cm).trans ((alB w2.drew _ (show w.heap.size+1<w2.heap.size by omega)).trans Co));have CJ:w.heap.size+2<=(w3.setCell ⟨K,4,none⟩ (.slice (some ⟨g,0,none⟩) (n+1) gc)).heap.size:=by have:=B5.size;simp at this⊢;omega
 have Cz:g≠w.heap.size+1:=by
  rcases B7 with h1|h1
  ·exact λe=>Cm (by rw[h1,e])
  ·simp at h1;omega
 generalize(w3.setCell ⟨K,4,none⟩ (.slice (some ⟨g,0,none⟩) (n+1) gc))=w4 at*;have p0:w4.cell? ⟨w.heap.size,0,none⟩=some (.int .i64 key):=by simp[World.cell?,Ce]
 have p1:w4.cell? ⟨w.heap.size,1,none⟩=some (.int .i64 nx):=by simp[World.cell?,Ce]
 have p2:w4.cell? ⟨w.heap.size,2,none⟩=some (.string fl):=by simp[World.cell?,Ce]
 have p3:w4.cell? ⟨w.heap.size,3,none⟩=some (.string cm):=by simp[World.cell?,Ce]
 have p4:w4.cell? ⟨w.heap.size,4,none⟩=some (.string tx):=by simp[World.cell?,Ce]
 have q0:w4.cell? ⟨w.heap.size+1,0,none⟩=some (.int .i64 0):=by simp[World.cell?,Cb]
 have q1:w4.cell? ⟨w.heap.size+1,1,none⟩=some (.int .i64 0):=by simp[World.cell?,Cb]
 have q2:w4.cell? ⟨w.heap.size+1,2,none⟩=some (.string ⟨#[]⟩):=by simp[World.cell?,Cb]
 have q3:w4.cell? ⟨w.heap.size+1,3,none⟩=some (.string ⟨#[]⟩):=by simp[World.cell?,Cb]
 have q4:w4.cell? ⟨w.heap.size+1,4,none⟩=some (.string ⟨#[]⟩):=by simp[World.cell?,Cb]
 have qf:∀o,w4.frozen? ⟨w.heap.size+1,o,none⟩=false:=λo=>by simp[World.frozen?,Cb]
 have Cw:=qf 0;have Cv:=qf 1;have Cu:=qf 2;have Ct:=qf 3;have Cs:=qf 4;have CH:=hid Cc;have CG:=hid Cr;have CE:=hid Cp;have CF:=hid Cn;have CD:=hid Cb;clear Cc Cr Cp Cn Ce Cb B9 B5 B7 r1 r2 rf B8 Ca Ch Ck Co Cd Hh Ho;go_wp2_with fail;have h5:=lH CD.out (.int .i64 key) (.int .i64 nx) (.string fl) (.string cm) (.string tx);have CB:bg (set5 w4 (w.heap.size+1) (.int .i64 key) (.int .i64 nx) (.string fl) (.string cm) (.string tx)) K name B6 ep (nx+1) (.slice (some ⟨g,0,none⟩) (n+1) gc):=(lG w4 (by omega) _ _ _ _ _).trans CG.out;have CA:bI (set5 w4 (w.heap.size+1) (.int .i64 key) (.int .i64 nx) (.string fl) (.string cm) (.string tx)) B (.slice (some ⟨g,0,none⟩) (n+1) gc) (xs++[⟨key,nx,fl.data.toList,cm.data.toList,tx.data.toList⟩]):=by
  refine au (w:=w4) (λb hb=>lG w4 ?_ _ _ _ _ _) CE.out;have e:g=b:=alR hb;omega
 have CC:=CH.out.set5 (R:=w.heap.size+1) (by omega) (.int .i64 key) (.int .i64 nx) (.string fl) (.string cm) (.string tx);refine(?_:bodyPost _ _ _ _ _ (set5 w4 (w.heap.size+1) (.int .i64 key) (.int .i64 nx) (.string fl) (.string cm) (.string tx)));clear p0 p1 p2 p3 p4 q0 q1 q2 q3 q4 qf Cw Cv Cu Ct Cs;generalize set5 w4 (w.heap.size+1) (.int .i64 key) (.int .i64 nx) (.string fl) (.string cm) (.string tx)=w5 at*;have z0:w5.cell? ⟨w.heap.size+1,0,none⟩=some (.int .i64 key):=by simp[World.cell?,h5]
 have z1:w5.cell? ⟨w.heap.size+1,1,none⟩=some (.int .i64 nx):=by simp[World.cell?,h5]
 have z2:w5.cell? ⟨w.heap.size+1,2,none⟩=some (.string fl):=by simp[World.cell?,h5]
 have z3:w5.cell? ⟨w.heap.size+1,3,none⟩=some (.string cm):=by simp[World.cell?,h5]
 have z4:w5.cell? ⟨w.heap.size+1,4,none⟩=some (.string tx):=by simp[World.cell?,h5]
 refine bodyPost_ret (v:=.agg #[.int .i64 key,.int .i64 nx,.string fl,.string cm,.string tx]) (by simp[results,Tryz.results82,go_sem,z0,z1,z2,z3,z4]) rfl ⟨rfl,g,gc,CB,CA,CF.out,CC⟩
end Go.Proofs.YtbeahecjbokjjaaGreatDoor
namespace Go.Proofs.YtbeahecjbokjjaaGreatDoor
open Go.RowKit
def ft (brk:List Nat) (listed:Array Bool):Bool:=brk.all λl=>!(listed.getD l true)
section
variable {P:Program} {ops:Array Oper} {Q:Exit->Act->World->Prop} {S:World->Prop} {brk:List Nat}
def cP (P:Program) (ops:Array Oper) (Q:Exit->Act->World->Prop) (S:World->Prop) (brk:List Nat):Nat->Array Bool->Act->World->Prop
 |0,listed,a,w=>Region.ready .any ops listed=[]/\Q .normal a w
 |fuel+1,listed,a,w=>
  (Region.ready .any ops listed=[]->Q .normal a w)/\
  ∀i∈Region.ready .any ops listed,wpOp P ops Q i (λa' w'=>(ft brk (listed.setIfInBounds i true)=true->S w')/\cP P ops Q S brk fuel (listed.setIfInBounds i true) a' w') a w
theorem kD:∀(fuel:Nat) (listed:Array Bool) (a:Act) (w:World),cP P ops Q S brk fuel listed a w->wpAny P .any ops Q fuel listed a w
 |0,_,_,_,h=>h
 |fuel+1,_,_,_,h=>⟨h.1,λi hi=>wpOp_mono (λa' w' h'=>kD fuel _ a' w' h'.2) (h.2 i hi)⟩
theorem qH{listed:Array Bool}{i:Nat}(h:ft brk (listed.setIfInBounds i true)=true):ft brk listed=true:=by
 unfold ft at*;rw[List.all_eq_true]at*;intro l hl;have h1:=h l hl
 by_cases e:i=l
 ·subst e
  rcases Nat.lt_or_ge i listed.size with h'|h'
  ·simp[h']at h1
  ·simp at h1
 ·rwa [getD_set_ne true e]at h1
theorem nn{listed:Array Bool}{i:Nat}(hi:i∉brk)(h:ft brk listed=true):ft brk (listed.setIfInBounds i true)=true:=by
 unfold ft at*;rw[List.all_eq_true]at*;intro l hl;have B5:i≠l:=by rintro rfl;exact hi hl
 rw[getD_set_ne true B5];exact h l hl
theorem jd{i:Nat}{oi:Oper}{v:Value}{T:World->Prop}(hi:ops[i]?=some oi)(Ck:i∉brk)(Ca:∀(j:Nat) (o:Oper) cs b,ops[j]?=some o->o.op≠.select cs b)
  (hQ:∀c a w,Q (.panic c) (a.put oi.dst v) w->Q (.panic c) a w)
  (hT:(∀w,T w)∨((∀w,S w->T w)/\brk.all (λl=>im ops l i)=true)):
  ∀(fuel:Nat) (listed:Array Bool) (a:Act) (w:World),
   (∀j oj,ops[j]?=some oj->j≠i->listed.getD j true=false->(∀e∈oj.after,Region.binds .any e=true->e.on≠i)->oi.apart ops oj=true)->
   i∈Region.ready .any ops listed->YieldsIf P ops T oi v a->T w->(ft brk listed=true->S w)->((∀w,T w)∨ft brk listed=true)->
   cP P ops Q S brk fuel (listed.setIfInBounds i true) (a.put oi.dst v) w->cP P ops Q S brk (fuel+1) listed a w:=by
 intro fuel
 induction fuel with
 |zero=>
  intro listed a w _ hr hy Cf hS _ H;refine⟨λh=>(by rw[h]at hr;cases hr),λj hj=>?_⟩
  by_cases B5:j=i
  ·subst B5;exact hy.wpOp hi Cf ⟨λh=>hS (qH h),H⟩
  ·have:=ready_mono hj B5;rw[H.1]at this
   cases this
 |succ fuel ih=>
  intro listed a w B6 hr hy Cf hS B9 H;refine⟨λh=>(by rw[h]at hr;cases hr),λj hj=>?_⟩
  by_cases B5:j=i
  ·subst B5;exact hy.wpOp hi Cf ⟨λh=>hS (qH h),H⟩
  ·have h1:=H.2 j (ready_mono hj B5);obtain⟨Cb,oj,Cc,Ce⟩:=mem_ready.1 hj;have Cd:∀e∈oj.after,Region.binds .any e=true->e.on≠i:=λe he hb Cl=>by
    have h1:=Ce e he hb;have h0:=(mem_ready.1 hr).1;rw[Cl]at h1
    rcases Nat.lt_or_ge i listed.size with h'|h'
    ·simp[h']at h0 h1;rw[h0]at h1;cases h1
    ·simp[Array.getElem?_eq_none h']at h1
   have h2:=wpOp_putIf Cc (B6 j oj Cc B5 Cb Cd) (λcs b=>Ca i oi cs b hi) (λcs b=>Ca j oj cs b Cc) hQ hy h1;have hfree':∀k ok,ops[k]?=some ok->k≠i->(listed.setIfInBounds j true).getD k true=false->
     (∀e∈ok.after,Region.binds .any e=true->e.on≠i)->oi.apart ops ok=true:=λk ok hk Cj Cg Ci=>by
    refine B6 k ok hk Cj ?_ Ci
    by_cases Ch:j=k
    ·subst Ch;exact Cb
    ·rw[getD_set_ne true Ch]at Cg;exact Cg
   have hub':(∀w,T w)∨ft brk (listed.setIfInBounds j true)=true:=by
    rcases hT with hT|⟨_,B8⟩
    ·exact Or.inl hT
    ·rcases B9 with B9|B9
     ·exact Or.inl B9
     ·exact Or.inr (nn (λe=>jO (List.all_eq_true.1 B8 j e) (mem_ready.1 hr).1 hj) B9)
   refine wpOp_mono (λa' w' h3=>?_) h2;have B7:(listed.setIfInBounds i true).setIfInBounds j true=(listed.setIfInBounds j true).setIfInBounds i true:=Array.setIfInBounds_comm _ _ (Ne.symm B5);have hS':ft brk (listed.setIfInBounds j true)=true->S w':=λh=>h3.2.1 (by rw[B7];exact nn Ck h)
   have hT':T w':=by
    rcases hT with hT|⟨Cm,_⟩
    ·exact hT w'
    ·rcases hub' with h|h
     ·exact h w'
     ·exact Cm w' (hS' h)
   refine⟨hS',ih (listed.setIfInBounds j true) a' w' hfree' (ready_mono hr (Ne.symm B5)) h3.1 hT' hS' hub' ?_⟩;rw[←B7];exact h3.2.2
theorem bm{listed:Array Bool}{a:Act}{w:World}(hr:Region.ready .any ops listed=[])(h:Q .normal a w):∀fuel,cP P ops Q S brk fuel listed a w
 |0=>⟨hr,h⟩
 |_+1=>⟨λ_=>h,by rw[hr];simp⟩
end
theorem bo{P:Program}{id:Nat}{ops:Array Oper}{Q:Exit->Act->World->Prop}{a:Act}{w:World}(brk:List Nat)(S:World->Prop)(n:Nat)(hn:ops.size=n)(hm:P.follows .mixedOrders=true)(hS:S w.drew)
  (h:∀(a':Act) (Q':Exit->Act->World->Prop),Shut (a'=a)->Shut (∀a w,Q .normal a w->Q' .normal a w)->(∀c (a:Act) d v w,Q' (.panic c) (a.put d v) w->Q' (.panic c) a w)->S w.drew->cP P ops Q' S brk n (Array.replicate n false) a' w.drew):
  (Code.region id ops true).wp P Q a w:=by
 subst hn;exact wp_region_noPanic (wp_region_any hm (kD _ _ _ _ (h a (NoPanic Q) rfl (λ_ _ h=>h) (λ_ _ _ _ _ h=>h) hS)))
section
variable {P:Program} {ops:Array Oper} {Q:Exit->Act->World->Prop} {S:World->Prop} {brk:List Nat} {i:Nat} {fuel:Nat} {listed:Array Bool} {a:Act} {w:World} {oi:Oper} {v:Value} {d:Option Tmp}
def rO (ops:Array Oper) (brk:List Nat) (listed:Array Bool) (i:Nat):Bool:=Region.noSelect ops&&Region.free .any ops listed i&&(Region.ready .any ops listed).contains i&&brk.all (λl=>im ops l i)&&ft brk listed&&!(brk.contains i)
def kj (ops:Array Oper) (brk:List Nat) (listed:Array Bool) (i:Nat):Bool:=Region.noSelect ops&&Region.free .any ops listed i&&(Region.ready .any ops listed).contains i&&!(brk.contains i)
theorem af(hg:oi.guard=none):Region.wanted oi (yielded ops a.tmps)=true:=by simp[Region.wanted,hg]
theorem tkv(hi:ops[i]?=some oi)(hd:oi.dst=d)(B5:rO ops brk listed i=true)(hQ:∀c (a:Act) d v w,Q (.panic c) (a.put d v) w->Q (.panic c) a w)(hw:Region.wanted oi (yielded ops a.tmps)=true)
  (hr:∀w,S w->(execOp a.eval oi).run P w=.ok (.value v) w) (hS:S w)
  (h:cP P ops Q S brk fuel (listed.setIfInBounds i true) (a.put d v) w):cP P ops Q S brk (fuel+1) listed a w:=by
 subst hd;unfold rO at B5;simp only[Bool.and_eq_true]at B5;obtain⟨⟨⟨⟨⟨h1,h2⟩,h3⟩,h5⟩,h6⟩,h7⟩:=B5;exact jd (T:=S) hi (by simpa using h7) (Region.noSelect_spec h1) (λc a w=>hQ c a _ _ w) (Or.inr ⟨λ_ h=>h,h5⟩) fuel listed a w (Region.free_spec hi h2) (by simpa using h3) (Or.inl ⟨hw,hr⟩) hS (λ_=>hS) (Or.inr h6) h
theorem dS(i:Nat)(d:Option Tmp)(hi:ops[i]?=some oi)(hd:oi.dst=d)(hQ:∀c (a:Act) d v w,Q (.panic c) (a.put d v) w->Q (.panic c) a w)(hw:Region.wanted oi (yielded ops a.tmps)=true)(hr:∀w,S w->(execOp a.eval oi).run P w=.ok (.value v) w)(hS:S w)(h:cP P ops Q S brk fuel (listed.setIfInBounds i true) (a.put d v) w)(B5:rO ops brk listed i=true:=by kernel_rfl):cP P ops Q S brk (fuel+1) listed a w:=
 tkv hi hd B5 hQ hw hr hS h
theorem tkp(hi:ops[i]?=some oi)(hd:oi.dst=d)(B5:kj ops brk listed i=true)(hQ:∀c (a:Act) d v w,Q (.panic c) (a.put d v) w->Q (.panic c) a w)(hw:Region.wanted oi (yielded ops a.tmps)=true)
  (hr:∀w,(execOp a.eval oi).run P w=.ok (.value v) w) (hS:S w)
  (h:cP P ops Q S brk fuel (listed.setIfInBounds i true) (a.put d v) w):cP P ops Q S brk (fuel+1) listed a w:=by
 subst hd;unfold kj at B5;simp only[Bool.and_eq_true]at B5;obtain⟨⟨⟨h1,h2⟩,h3⟩,h7⟩:=B5;exact jd (T:=λ_=>True) hi (by simpa using h7) (Region.noSelect_spec h1) (λc a w=>hQ c a _ _ w) (Or.inl λ_=>trivial) fuel listed a w (Region.free_spec hi h2) (by simpa using h3) (Or.inl ⟨hw,λw _=>hr w⟩) trivial (λ_=>hS) (Or.inl λ_=>trivial) h
theorem aH(i:Nat)(d:Option Tmp)(hi:ops[i]?=some oi)(hd:oi.dst=d)(hQ:∀c (a:Act) d v w,Q (.panic c) (a.put d v) w->Q (.panic c) a w)(hw:Region.wanted oi (yielded ops a.tmps)=true)(hr:∀w,(execOp a.eval oi).run P w=.ok (.value v) w)(hS:S w)(h:cP P ops Q S brk fuel (listed.setIfInBounds i true) (a.put d v) w)(B5:kj ops brk listed i=true:=by kernel_rfl):cP P ops Q S brk (fuel+1) listed a w:=
 tkp hi hd B5 hQ hw hr hS h
theorem BV(hi:ops[i]?=some oi)(hd:oi.dst=d)(B5:kj ops brk listed i=true)(hQ:∀c (a:Act) d v w,Q (.panic c) (a.put d v) w->Q (.panic c) a w)(hw:Region.wanted oi (yielded ops a.tmps)=false)(hS:S w)
  (h:cP P ops Q S brk fuel (listed.setIfInBounds i true) (a.put d undef) w):cP P ops Q S brk (fuel+1) listed a w:=by
 subst hd;unfold kj at B5;simp only[Bool.and_eq_true]at B5;obtain⟨⟨⟨h1,h2⟩,h3⟩,h7⟩:=B5;exact jd (T:=λ_=>True) hi (by simpa using h7) (Region.noSelect_spec h1) (λc a w=>hQ c a _ _ w) (Or.inl λ_=>trivial) fuel listed a w (Region.free_spec hi h2) (by simpa using h3) (Or.inr ⟨hw,rfl⟩) trivial (λ_=>hS) (Or.inl λ_=>trivial) h
theorem cb(i:Nat)(d:Option Tmp)(hi:ops[i]?=some oi)(hd:oi.dst=d)(hQ:∀c (a:Act) d v w,Q (.panic c) (a.put d v) w->Q (.panic c) a w)(hw:Region.wanted oi (yielded ops a.tmps)=false)(hS:S w)(h:cP P ops Q S brk fuel (listed.setIfInBounds i true) (a.put d undef) w)(B5:kj ops brk listed i=true:=by kernel_rfl):cP P ops Q S brk (fuel+1) listed a w:=
 BV hi hd B5 hQ hw hS h
theorem vL(hr:Region.ready .any ops listed=[i])(hi:ops[i]?=some oi)
  (h:∀K':Act->World->Prop,Shut (∀a w,(ft brk (listed.setIfInBounds i true)=true->S w)->cP P ops Q S brk fuel (listed.setIfInBounds i true) a w->K' a w)->if Region.wanted oi (yielded ops a.tmps)=true then Oper.wp P oi a w K' Q else K' (a.put oi.dst undef) w):
  cP P ops Q S brk (fuel+1) listed a w:=by
 refine⟨λh0=>(by rw[hr]at h0;cases h0),λj hj=>?_⟩;rw[hr]at hj;obtain rfl:j=i:=by simpa using hj
 exact wpOp_step hi (λK' hK=>h K' (λa w hS hW=>hK a w ⟨hS,hW⟩))
theorem dF{w':World}(hr:Region.ready .any ops listed=[i])(hi:ops[i]?=some oi)(hd:oi.dst=d)(hw:Region.wanted oi (yielded ops a.tmps)=true)(he:(execOp a.eval oi).run P w=.ok (.value v) w')(hS:ft brk (listed.setIfInBounds i true)=true->S w')
  (h:cP P ops Q S brk fuel (listed.setIfInBounds i true) (a.put d v) w'):cP P ops Q S brk (fuel+1) listed a w:=by
 subst hd;refine vL hr hi (λK' hK=>?_);rw[if_pos hw];unfold Oper.wp;rw[he];exact hK.out _ _ hS h
theorem iZ{t:TypeId}{x y:Operand}{p:Addr}{w':World}(hr:Region.ready .any ops listed=[i])(hi:ops[i]?=some oi)(B5:oi.guard=none)(ho:oi.op=.store t x y)(hd:oi.dst=none)(hp:a.eval x=.pointer (some p))(hv:a.eval y=v)
  (hs:(Instr.storeAt t (.pointer (some p)) v).run P w=.ok () w') (hS:ft brk (listed.setIfInBounds i true)=true->S w')
  (h:cP P ops Q S brk fuel (listed.setIfInBounds i true) a w'):cP P ops Q S brk (fuel+1) listed a w:=
 vL hr hi (λ_ hK=>ou B5 ho hd hp hv hs (hK.out _ _ hS h))
theorem fC{f:FuncId}{fn:Func}{c:Code}{x:Operand}{xs:Array Operand}{ts:Array TypeId}{args:Array Value}{R:Ending->World->Prop}(hr:Region.ready .any ops listed=[i])(hi:ops[i]?=some oi)(hd:oi.dst=d)(hw:Region.wanted oi (yielded ops a.tmps)=true)
  (ho:oi.op=.call {callee:=.value x,args:=xs,argTypes:=ts}) (hx:a.eval x=.func (.func f) #[] #[]) (hf:P.funcs[f]?=some fn) (B5:(fn.name== "runtime.NumGoroutine")=false) (hb:fn.body=some c) (ha:xs.map a.eval=args) (hc:Calls P f args w R)
  (h:∀e w',R e w'->∃v,e=.returned v/\(ft brk (listed.setIfInBounds i true)=true->S w')/\cP P ops Q S brk fuel (listed.setIfInBounds i true) (a.put d v) w'):cP P ops Q S brk (fuel+1) listed a w:=by
 subst hd;refine vL hr hi (λK' hK=>?_);rw[if_pos hw];have hr:(execOp a.eval oi).run P w=.ok (.enter f args) w:=by
  unfold execOp;simp only[ho,resolve,hx];simp[invoke,Deferred.ofValue,ha];exact Go.MuLone.run_callFunc_enter hf B5 hb args w
 unfold Oper.wp;rw[hr,Oper.upon_enter];refine hc.mono λe w' hR=>?_
 obtain⟨v,rfl,h2,h3⟩:=h e w' hR;exact hK.out _ _ h2 h3
end
end Go.Proofs.YtbeahecjbokjjaaGreatDoor
