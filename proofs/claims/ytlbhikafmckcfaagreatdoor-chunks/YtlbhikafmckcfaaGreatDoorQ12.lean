import Derived.Test.YtlbhikafmckcfaaGreatDoorQ11
open Array renaming getElem?_eq_some_iff->GO
open Go renaming Calls->GF,World->GA,heap_alloc_new->GJ,heap_alloc_old->GR
open Go.IntKind renaming i64->U
open Go.Obj renaming cells->Gt
open Go.Proofs.Tryz renaming func40->OZ,func41->OY,prog->Gp
open Go.RowKit.Below renaming heap_setCell->GN,refl->GB
open Go.Value renaming int->I,pointer->Gr,slice->Gn,string->Z,tuple->GG
open Go.World renaming cell?->GM,cell?_setCell_other->Ic,cell?_setCell_same->IC,frozen?->Iv
open List renaming set->IA,setIfInBounds_toArray->GP
open Nat.le renaming refl->GI
open Option renaming none->O,some->J
open Go.Addr renaming mk->C
set_option maxRecDepth 100000
set_option maxHeartbeats 16000000
namespace Go.Proofs.YtlbhikafmckcfaaGreatDoor
open Mb renaming listOk->J3,textOf->LN
open Go.RowKit Go.Lib
def aV (m:au):Mb.Ent:=⟨m.key,m.uid,m.flags⟩
theorem BN{ep nx:Int}{w:GA}:(Instr.build 105 #[(0,I U ep),(1,I U nx)]).run Gp w=.ok (.agg #[I U ep,I U nx,Gn O 0 0]) w:=by go_simp
theorem zO{w:GA}:(Instr.alloc 105 true (GG #[])).run Gp w=.ok (Gr (J (C w.heap.size 0 O))) (w.alloc (Gt #[I U 0,I U 0,Gn O 0 0] 105)):=by go_simp
theorem zM{w:GA}{b:Nat}{ep nx:Int}{u0 u1 u2:Value}{a:Option Addr}{n c:Nat}{t:TypeId}(h:w.heap[b]?=J (Gt #[u0,u1,u2] t (0,0))):
  (Instr.storeAt 105 (Gr (J (C b 0 O))) (.agg #[I U ep,I U nx,Gn a n c])).run Gp w=.ok () (((w.setCell (C b 0 O) (I U ep)).setCell (C b 1 O) (I U nx)).setCell (C b 2 O) (Gn a n c)):=by
 have c0:w.cell? (C b 0 O)=J u0:=by simp[GM,h]
 have c1:w.cell? (C b 1 O)=J u1:=by simp[GM,h]
 have c2:w.cell? (C b 2 O)=J u2:=by simp[GM,h]
 have k:w.frozen? (C b 0 O)=false:=by simp[Iv,h]
 have j:w.frozen? (C b 1 O)=false:=by simp[Iv,h]
 have e:w.frozen? (C b 2 O)=false:=by simp[Iv,h]
 go_simp
theorem kX{w:GA}{K:Nat}{name code:ByteArray}{ep nx:Int}{a:Option Addr}{cap:Nat}{xs:List au}(h:a8 w K name code ep nx (Gn a xs.length cap))(k:ej w a xs)(hl:xs.length<=1000)(QL:code.data.toList.length<=1048576)(hE:eg w)(b:J3 ep nx (xs.map aV)=true)(j:∀x∈xs,x.flags.length<=1000):
  GF Gp 40 #[Gr (J (C K 0 O))] w λe w'=>(∃bN bT:ByteArray,e=.returned (.agg #[Z bN,Z bT])/\bN.data.toList=code.data.toList++[47,108,105,115,116]/\bT.data.toList=LN ep nx (xs.map aV))/\ah w w':=by
 have hK:K<w.heap.size:=h.cells.2.2.2.2.2.2;have Hh:=hid h;have Hm:=hid k;have HE:=hid hE;have Ra:=hid j;have Q9:=hid b;clear h k hE j b;obtain⟨i0,hi,QW,QV,QU⟩:=info_parts l5;have k:ah w (w.alloc (Gt #[Z ⟨#[]⟩,Z ⟨#[]⟩] 33)):=av;have m:(w.alloc (Gt #[Z ⟨#[]⟩,Z ⟨#[]⟩] 33)).heap[w.heap.size]?=J (Gt #[Z ⟨#[]⟩,Z ⟨#[]⟩] 33 (0,0)):=GJ w _;have l:(w.alloc (Gt #[Z ⟨#[]⟩,Z ⟨#[]⟩] 33)).heap.size=w.heap.size+1:=by simp
 go_enter OZ,Tryz.ntmps40;go_wp2_with fail;generalize(w.alloc (Gt #[Z ⟨#[]⟩,Z ⟨#[]⟩] 33))=w1 at*;have p:=Hh.out.below k;obtain⟨_,_,c2,c3,_,_,QR⟩:=p.cells;refine aF 10 (λw':GA=>w'.cell? (C K 2 O)=J (I U ep)/\w'.cell? (C K 3 O)=J (I U nx)) 11 Y (by kernel_rfl) ⟨c2,c3⟩ (λr Q n t j b=>?_);have z:r.tmps.size=51:=by rw[n.out];rfl
 have o:r.eval (.tmp 0)=Gr (J (C K 0 O)):=by rw[n.out];rfl
 refine cq 0 (J 8) Y Y j (λM F=>aj Y o) b ?_;refine cq 1 (J 9) Y Y j (λM F=>aP Y (evz z)) b ?_;refine cq 2 (J 10) Y Y j (λM F=>aq (C K 2 O) Y (evz (aU z))) b ?_;refine cq 3 (J 11) Y Y j (λM F=>ar Y (evz (aR z)) (aY F.1)) b ?_;refine cq 4 (J 12) Y Y j (λM F=>aj Y (cS o)) b ?_;refine cq 5 (J 13) Y Y j (λM F=>aP Y (evz (ba z))) b ?_;refine cq 6 (J 14) Y Y j (λM F=>aq (C K 3 O) Y (evz (ba (aU z)))) b ?_;refine cq 7 (J 15) Y Y j (λM F=>ar Y (evz (ba (aR z))) (aY F.2)) b ?_;refine cq 8 (J 16) Y Y j (λM F=>iI (v:=.agg #[I U ep,I U nx,Gn O 0 0]) Y (cS (evz (aR (aU z)))) (evz (ba (aR (aU z)))) BN) b ?_;refine bv (i:=9) (d:=J 3) (v:=Gr (J (C w1.heap.size 0 O))) (w':=w1.drew.alloc (Gt #[I U 0,I U 0,Gn O 0 0] 105)) (by kernel_rfl) Y Y Y (kB Y zO) (λ_=>⟨(aD (C K 2 O) (GR w1.drew _ QR)).trans c2,(aD (C K 3 O) (GR w1.drew _ QR)).trans c3⟩) ?_;refine kI (i:=10) (w':=(((w1.drew.alloc (Gt #[I U 0,I U 0,Gn O 0 0] 105)).setCell (C w1.heap.size 0 O) (I U ep)).setCell (C w1.heap.size 1 O) (I U nx)).setCell (C w1.heap.size 2 O) (Gn O 0 0)) (by kernel_rfl) Y Y Y Y (evz (cr (aU z))) (ci (evz (cr z))) (zM (GJ w1.drew _)) (λh=>absurd Y h) ?_;refine aJ (by kernel_rfl) (t.out _ _ ?_) _;rw[n.out];simp only[Act.put,GP];dsimp only[IA];clear t j n z b Q r o;have o:((((w1.drew.alloc (Gt #[I U 0,I U 0,Gn O 0 0] 105)).setCell (C w1.heap.size 0 O) (I U ep)).setCell (C w1.heap.size 1 O) (I U nx)).setCell (C w1.heap.size 2 O) (Gn O 0 0)).heap[w1.heap.size]?=J (Gt #[I U ep,I U nx,Gn O 0 0] 105 (0,0)):=by have h5:=ag (o:=2) (Gn O 0 0) (ag (o:=1) (I U nx) (ag (o:=0) (I U ep) (GJ w1.drew (Gt #[I U 0,I U 0,Gn O 0 0] 105))));simpa using h5
 have b:ah w1 ((((w1.drew.alloc (Gt #[I U 0,I U 0,Gn O 0 0] 105)).setCell (C w1.heap.size 0 O) (I U ep)).setCell (C w1.heap.size 1 O) (I U nx)).setCell (C w1.heap.size 2 O) (Gn O 0 0)):=(((((GB _ _).drew).alloc (GI) _).setCell (GI) _).setCell (GI) _).setCell (GI) _;have j:((((w1.drew.alloc (Gt #[I U 0,I U 0,Gn O 0 0] 105)).setCell (C w1.heap.size 0 O) (I U ep)).setCell (C w1.heap.size 1 O) (I U nx)).setCell (C w1.heap.size 2 O) (Gn O 0 0)).heap.size=w1.heap.size+1:=by simp
 generalize((((w1.drew.alloc (Gt #[I U 0,I U 0,Gn O 0 0] 105)).setCell (C w1.heap.size 0 O) (I U ep)).setCell (C w1.heap.size 1 O) (I U nx)).setCell (C w1.heap.size 2 O) (Gn O 0 0))=w2 at*;generalize n:w1.heap.size=L at*;have QS:Hid (ah w w2):=k.trans (b.mono (by omega));have Q4:Hid (w2.heap[w.heap.size]?=J (Gt #[Z ⟨#[]⟩,Z ⟨#[]⟩] 33 (0,0))):=(b.block w.heap.size (by omega)).trans m;have Re:=hid o;have k4:w2.cell? (C K 4 O)=J (Gn a xs.length cap):=ak QS.out Hh.out.cells.2.2.2.2.1 hK;have QX:w.heap.size<L:=by omega
 have hK1':K<L:=by omega
 have Rl:=hid n;have Rk:=hid l;have Rj:=hid j;clear o b m k p c2 c3 l j n;go_wp2_with fail;go_loopw [22] (λi wr=>∃(k:Nat) (E:Option Addr) (u:Nat),k<=xs.length/\i=I U k/\Hid (wr.heap[L]?=J (Gt #[I U ep,I U nx,Gn E k u] 105 (0,0)))/\Hid (kN wr (L+1) E u ((xs.take k).map aV))/\Hid (ah w wr)/\Hid (wr.heap[w.heap.size]?=J (Gt #[Z ⟨#[]⟩,Z ⟨#[]⟩] 33 (0,0)))) (λi _=>xs.length-(RowKit.intOf i).toNat)
 case atStart=>exact⟨0,O,0,Nat.zero_le _,rfl,Re,World.ownsRow_nil _ _ _ _,QS,Q4⟩
 case round=>
  obtain⟨k,E,u,hk,rfl,n,QQ,l,QO⟩:=hrel;have b:((xs.take k).map aV).length=k:=by simp;omega
  have QT:=hid b;have Q6:L<wr.heap.size:=(GO.1 n.out).1;have l0:wr.cell? (C L 0 O)=J (I U ep):=by simp[GM,n.out]
  have l1:wr.cell? (C L 1 O)=J (I U nx):=by simp[GM,n.out]
  have l2:wr.cell? (C L 2 O)=J (Gn E k u):=by simp[GM,n.out]
  have lf:wr.frozen? (C L 2 O)=false:=by simp[Iv,n.out]
  clear b
  by_cases t:k<xs.length
  ·obtain⟨b,o,ha,hb,r⟩:∃b o,a=J (C b o O)/\b<w.heap.size/\iw w b o xs:=by
    rcases Hm.out with j|j
    ·rw[j]at t;simp at t
    exact j
   subst ha;obtain⟨c0,c1,c2,c3,c5⟩:=r k xs[k] (by simp[t]);have d0:=ak l.out c0 hb;have d1:=ak l.out c1 hb;have d2:=ak l.out c2 hb;have d3:=ak l.out c3 hb;have d4:=ak l.out c5 hb;have hI:∀w,(Instr.indexAt 102 (Gn (J (C b o O)) xs.length cap) (I U k)).run Gp w=.ok (Gr (J ⟨b,o+k*5,O⟩)) w:=λw=>cT t
   have HT:Hid ((xs.take (k+1)).map aV=(xs.take k).map aV++[aV xs[k]]):=by unfold Hid;rw[List.take_succ_eq_append_getElem t,List.map_append];rfl
   have m:wr.ownsRow (L+1) 163 3 (Gn E k u) k (dl ((xs.take k).map aV)):=by have:=QQ.out;unfold kN at this;rwa [QT.out]at this
   have p:=(m.alloc (Gt #[I U xs[k].key,I U xs[k].uid,Z ⟨xs[k].flags.toArray⟩,Z ⟨xs[k].came.toArray⟩,Z ⟨xs[k].text.toArray⟩] 138)).alloc (Gt #[I U xs[k].key,I U xs[k].uid,Z ⟨xs[k].flags.toArray⟩] 163);have QZ:J L≠(Gn E k u).ownBlock:=λe=>by have:=(m.lt _ e.symm).1;omega
   have QY:J w.heap.size≠(Gn E k u).ownBlock:=λe=>by have:=(m.lt _ e.symm).1;omega
   have QK:=l.out.size;have Rd:Hid (aV xs[k]=⟨xs[k].key,xs[k].uid,xs[k].flags⟩):=rfl;clear c0 c1 c2 c3 c5 r;generalize j:(⟨xs[k].flags.toArray⟩:ByteArray)=bf at*;generalize(⟨xs[k].came.toArray⟩:ByteArray)=b3 at*;generalize(⟨xs[k].text.toArray⟩:ByteArray)=b4 at*;have Rb:=hid j;clear j;go_wp2_with(at_builtin;refine wpList_append_lies _ Y (.tmp 27) (.tmp 35) 103 Y (L+1) 163 i0 (.agg #[I U 0,I U 0,Z ByteArray.empty]) 3 32 Tryz.underlying103 hi QW QV QU Y (by decide) (Gn E k u) k (dl ((xs.take k).map aV)) Y p ⟨wr.heap.size+1,0,O⟩ 1 1 [I U xs[k].key,I U xs[k].uid,Z bf] Y Y (World.news_of_block (cs:=#[I U xs[k].key,I U xs[k].uid,Z bf]) (t:=163) (fr:=(0,0)) (by have:=GJ (wr.alloc (Gt #[I U xs[k].key,I U xs[k].uid,Z bf,Z b3,Z b4] 138)) (Gt #[I U xs[k].key,I U xs[k].uid,Z bf] 163);simpa using this)) (by simp[Value.oneCell']) (by decide) (by unfold maxLen;omega) (by omega) (by simp;omega) (wr.heap.size+2) (by simp) ?_);intro g gc w3 r j R QN;have G:=(j.block L (by simp;omega) QZ).trans ((GR _ _ (by simp;omega)).trans ((GR wr _ Q6).trans n.out));have QP:=(j.block w.heap.size (by simp;omega) QY).trans ((GR _ _ (by simp;omega)).trans ((GR wr _ (show w.heap.size<wr.heap.size by omega)).trans QO.out));have m2:w3.cell? (C L 2 O)=J (Gn E k u):=by simp[GM,G]
   have mf:w3.frozen? (C L 2 O)=false:=by simp[Iv,G]
   have Ri:g≠L:=by
    rcases R with h1|h1
    ·have:=(m.lt g h1).1;omega
    omega
   have Q7:Hid ((w3.setCell (C L 2 O) (Gn (J (C g 0 O)) (k+1) gc)).heap[L]?=J (Gt #[I U ep,I U nx,Gn (J (C g 0 O)) (k+1) gc] 105 (0,0))):=by have h5:=ag (o:=2) (Gn (J (C g 0 O)) (k+1) gc) G;unfold Hid;simpa using h5
   have Q3:Hid ((w3.setCell (C L 2 O) (Gn (J (C g 0 O)) (k+1) gc)).heap[w.heap.size]?=J (Gt #[Z ⟨#[]⟩,Z ⟨#[]⟩] 33 (0,0))):=(GN _ _ _ _ (by show w.heap.size≠L;omega)).trans QP;have Q8:Hid (ah w (w3.setCell (C L 2 O) (Gn (J (C g 0 O)) (k+1) gc))):=(((l.out.alloc QK _).alloc (by simp;omega) _).grown j (by simp;omega) (λb' QM=>by have:=(m.lt b' QM).1;omega)).setCell (Nat.le_of_lt QX) _;have Q5:Hid (kN (w3.setCell (C L 2 O) (Gn (J (C g 0 O)) (k+1) gc)) (L+1) (J (C g 0 O)) gc ((xs.take (k+1)).map aV)):=by
    unfold Hid;rw[HT.out];unfold kN;have e:((xs.take k).map aV++[aV xs[k]]).length=k+1:=by simp;omega
    rw[e,nV];refine ai (w:=w3) (λb' QM=>GN _ _ _ _ ?_) (by rw[Rd.out,List.map_take];simp only[Rb.out];exact r);have e2:g=b':=Option.some.inj QM;show b'≠L;omega
   clear r j R QN p m G QP;go_wp2_with fail;exact⟨⟨k+1,J (C g 0 O),gc,by omega,by simp,Q7,Q5,Q8,Q3⟩,by simp[RowKit.intOf];omega⟩
  have R:Hid (xs.take k=xs):=List.take_of_length_le (by omega);have G:Hid (k=xs.length):=by unfold Hid;omega
  obtain⟨j,b,_⟩:=jt (show wr.ownsRow (L+1) 163 3 (Gn E (xs.map aV).length u) (xs.map aV).length (dl (xs.map aV))by have h1:=QQ.out;rw[R.out]at h1;exact h1) Y;have r:=uu ep nx E u (xs.map aV) wr (HE.out.below l.out (GI)) j (by simp;unfold maxLen;omega) b (λx hx=>by simp at hx;obtain⟨y,hy,rfl⟩:=hx;have:=Ra.out y hy;unfold maxLen;simp[aV];omega) Q9.out;obtain⟨bT,Rc,p⟩:=ap (LN ep nx (xs.map aV));rw[←Rc.out]at r;have m:(xs.map aV).length=k:=by simp[G.out]
  rw[m]at r;have QK:=l.out.size;clear j b m;go_wp2_with fail;refine r.mono ?_;rintro e b ⟨rfl,m⟩;have o:Hid (ah w b):=l.out.trans (m.mono QK);have j:Hid (b.heap[w.heap.size]?=J (Gt #[Z ⟨#[]⟩,Z ⟨#[]⟩] 33 (0,0))):=(m.block w.heap.size (by omega)).trans QO.out;have x1:b.cell? (C K 1 O)=J (Z code):=ak o.out Hh.out.cells.2.1 hK;have y0:b.cell? (C w.heap.size 0 O)=J (Z ⟨#[]⟩):=by simp[GM,j.out]
  have y1:b.cell? (C w.heap.size 1 O)=J (Z ⟨#[]⟩):=by simp[GM,j.out]
  have Rg:b.frozen? (C w.heap.size 0 O)=false:=by simp[Iv,j.out]
  have Rf:b.frozen? (C w.heap.size 1 O)=false:=by simp[Iv,j.out]
  have gL:=zD code QL b;clear m r l0 l1 l2 lf;go_wp2_with fail;refine gL.mono ?_;rintro e w6 ⟨⟨bN,rfl,m⟩,Rh⟩;subst w6;have r:=hid m;clear m;go_wp2_with fail;have z0:=(Ic (b.setCell (C w.heap.size 0 O) (Z bN)) (C w.heap.size 1 O) (C w.heap.size 0 O) (Z bT) (by simp)).trans (IC b (C w.heap.size 0 O) (Z bN) y0);have m:=IC (b.setCell (C w.heap.size 0 O) (Z bN)) (C w.heap.size 1 O) (Z bT) ((Ic _ _ _ _ (by simp)).trans y1);refine bodyPost_ret (v:=.agg #[Z bN,Z bT]) (by simp[results,Tryz.results40,go_sem,z0,m]) Y ⟨⟨bN,bT,rfl,r.out,p.out⟩,((o.out.setCell (GI) _).setCell (GI) _)⟩
def em:Nat->List (List UInt8)->List au
 |_,[]=>[]
 |k,t::r=>⟨(k:Int),(k:Int),[],[],t⟩::em (k+1) r
def dR (ts:List (List UInt8)):List au:=em 1 ts
theorem l7:∀(k:Nat) (b:List (List UInt8)),(em k b).length=b.length
 |_,[]=>rfl
 |k,_::r=>by simp[em,l7 (k+1) r]
theorem ko(ts:List (List UInt8)):(dR ts).length=ts.length:=l7 1 ts
theorem jm:∀(k:Nat) (b:List (List UInt8)) (i:Nat) (x:au),(em k b)[i]?=J x->x.key=((k+i:Nat):Int)/\x.uid=((k+i:Nat):Int)/\x.flags=[]/\x.came=[]/\b[i]?=J x.text
 |k,[],i,x,h=>by simp[em]at h
 |k,t::r,0,x,h=>by simp[em]at h;subst h;simp
 |k,t::r,i+1,x,h=>by
  have:=jm (k+1) r i x (by simpa[em]using h);have e:k+1+i=k+(i+1):=by omega
  rw[e]at this;simpa using this
def d9 (k:Nat):Nat->List Mb.Ent
 |0=>[]
 |n+1=>⟨(k:Int),(k:Int),[]⟩::d9 (k+1) n
theorem lw:∀(k:Nat) (b:List (List UInt8)),(em k b).map aV=d9 k b.length
 |_,[]=>rfl
 |k,_::r=>by simp[em,d9,aV,lw (k+1) r]
def eC (n:Nat):List UInt8:=LN 1 ((n+1:Nat):Int) (d9 1 n)
theorem tp:∀n:Nat,n<=8->J3 1 ((n+1:Nat):Int) (d9 1 n)=true:=by
 have h:∀n:Fin 9,J3 1 ((n.val+1:Nat):Int) (d9 1 n.val)=true:=by decide+kernel
 intro n b;exact h ⟨n,by omega⟩
theorem qY:∀n:Nat,n<=8->(eC n).length<=100:=by
 have h:∀n:Fin 9,(eC n.val).length<=100:=by decide+kernel
 intro n b;exact h ⟨n,by omega⟩
theorem ui(ts:List (List UInt8)):∀x∈dR ts,x.flags.length<=1000:=by intro x hx;obtain⟨i,b⟩:=List.getElem?_of_mem hx;rw[(jm 1 ts i x b).2.2.1];simp
theorem db.base{K B:Nat}{row:Option Nat}{w w':GA}(h:db K row w w')(l:B<=K)(j:∀b,row=J b->B<=b)(m:B<=w.heap.size):Below B w w':=
 ⟨h.os,h.tape,h.output,h.size,λb k=>h.block b (by omega) (by omega) (λe=>by have:=j b e;omega)⟩
theorem fU(xs:List eS):∀u∈ce xs,u.oneCell'=true:=by
 intro u b;unfold ce at b;simp only[List.mem_flatMap]at b;obtain⟨x,_,hx⟩:=b;simp at hx
 rcases hx with rfl|rfl|rfl|rfl<;>rfl
theorem vX(n d:List UInt8):(ce (bZ n d)).length=5*4:=rfl
theorem dG.slice5{w:GA}{B:Nat}{v:Value}{n d:List UInt8}(h:dG w B v (bZ n d)):∃ad c,v=Gn (J ad) 5 c/\∀j u,(ce (bZ n d))[j]?=J u->w.cell? (ad.add j)=J u:=by
 rcases h.2 with⟨_,e⟩|⟨g,c,k,b,_⟩
 ·exact absurd e (by show¬5=0;decide)
 exact⟨(C g 0 O),c,b,h.cells (g:=g) (by rw[b];rfl)⟩
theorem Ec{P:Nat}{key uid:Int}{fl b tx:ByteArray}{w:GA}{fr:Nat×Nat}(h:w.heap[P]?=J (Gt #[I U key,I U uid,Z fl,Z b,Z tx] 138 fr)):w.cell? (C P 1 O)=J (I U uid):=by simp[GM,h]
theorem oG(n d:ByteArray)(w:GA):
  GF Gp 41 #[.agg #[Z n,Z d]] w λe w'=>(∃v,e=.returned v/\dG w' w.heap.size v (bZ n.data.toList d.data.toList))/\ah w w':=by
 have g:=xv n d (w.alloc (Gt #[Z n,Z d] 33));go_enter OY,Tryz.ntmps41;go_wp2_with fail;refine g.mono ?_;have j:(w.alloc (Gt #[Z n,Z d] 33)).heap.size=w.heap.size+1:=by simp
 rw[j];rintro e w1 ⟨rfl,h,b⟩;have k:=hid h;have l:=hid b;clear h b g;go_wp2_with fail;go_ret;exact⟨⟨_,rfl,k.out.base (B':=w.heap.size) (by simp)⟩,av.trans (l.out.mono (by omega))⟩
theorem xm{w:GA}{K B:Nat}{name code:ByteArray}{ep nx:Int}{v:Value}{xs:List au}(h:a8 w K name code ep nx v)(o:bQ w B v xs)(hB:B<=w.heap.size)(Rg:B<=K)(hE:∀w',Below B w w'->eg w')(Rb:v.ownBlock≠J K)(hl:xs.length<=100)(Rd:0<=nx)(Rc:nx<=99)(fl tx:ByteArray)(Rf:code.data.toList.length<=1000)(Re:fl.data.toList.length<=1000)(n:∀x∈xs,x.flags.length<=1000)
  (m:Nat) (h1:1<=m) (hm:m<=999) (QP:∀j:Nat,1<=j->j<m->bL (j:Int) xs=true) (QX:bL (m:Int) xs=false)
  (QW:J3 ep (nx+1) ((xs++[(⟨(m:Int),nx,fl.data.toList,fl.data.toList,tx.data.toList⟩:au)]).map aV)=true):
  GF Gp 251 #[Gr (J (C K 0 O)),Z fl,Z tx] w λe w'=>(∃b,e=.returned (GG #[I U nx,b])/\dG w' w.heap.size b (bZ (code.data.toList++[47]++Lib.itoa (m:Int)++[46]++fl.data.toList) tx.data.toList++bZ (code.data.toList++[47,108,105,115,116]) (LN ep (nx+1) ((xs++[(⟨(m:Int),nx,fl.data.toList,fl.data.toList,tx.data.toList⟩:au)]).map aV))))/\
   ∃g t,a8 w' K name code ep (nx+1) (Gn (J (C g 0 O)) (xs.length+1) t)/\bQ w' B (Gn (J (C g 0 O)) (xs.length+1) t) (xs++[(⟨(m:Int),nx,fl.data.toList,fl.data.toList,tx.data.toList⟩:au)])/\(v.ownBlock=J g∨w.heap.size<=g)/\db K v.ownBlock w w':=by
 have p:=DA h o hB Rb (by omega) Rd Rc fl tx m h1 (by omega) QP QX;have l:∀b,v.ownBlock=J b->B<=b:=λb u=>(o.lt b u).1
 have k:∀b,v.ownBlock=J b->b<w.heap.size:=λb u=>(o.lt b u).2
 have hK:K<w.heap.size:=h.cells.2.2.2.2.2.2;have HE:=hid hE;have Ri:=hid QW;have Rh:=hid n;have Q6:=hid l;have Rp:=hid k;clear h o hE QW QP QX n l k;go_enter Tryz.func251,Tryz.ntmps251;go_wp2_with fail;refine p.mono ?_;rintro e w1 ⟨rfl,g,t,o,n,l,k⟩;have Rk:=hid o;have Q8:=hid n;have Rj:=hid l;have Rl:=hid k;have Rm:=k.size;clear o n l k p;go_wp2_with fail;have r:(w1.alloc (Gt #[I U m,I U nx,Z fl,Z fl,Z tx] 138)).heap[w1.heap.size]?=J (Gt #[I U m,I U nx,Z fl,Z fl,Z tx] 138 (0,0)):=GJ w1 _;have QK:ah w1 (w1.alloc (Gt #[I U m,I U nx,Z fl,Z fl,Z tx] 138)):=av;have k:=Rk.out.below QK;have QM:bQ (w1.alloc (Gt #[I U m,I U nx,Z fl,Z fl,Z tx] 138)) B (Gn (J (C g 0 O)) (xs.length+1) t) (xs++[(⟨(m:Int),nx,fl.data.toList,fl.data.toList,tx.data.toList⟩:au)]):=ai (λb u=>QK.block b (Q8.out.lt b u).2) Q8.out;have hM:w1.heap.size<(w1.alloc (Gt #[I U m,I U nx,Z fl,Z fl,Z tx] 138)).heap.size:=by simp
 have QN:db K v.ownBlock w (w1.alloc (Gt #[I U m,I U nx,Z fl,Z fl,Z tx] 138)):=Rl.out.below QK;generalize(w1.alloc (Gt #[I U m,I U nx,Z fl,Z fl,Z tx] 138))=G at*;generalize Ro:w1.heap.size=M at*;have QQ:Below B w G:=QN.base Rg Q6.out hB;have QV:∀w',ah G w'->eg w':=λw' u=>HE.out w' (QQ.trans (u.mono (by omega)))
 have gF:=kZ (w:=G.drew) (K:=K) (show a8 G.drew K name code ep (nx+1) (Gn (J (C g 0 O)) (xs.length+1) t)from k) (m:Int) nx fl fl tx (by omega) (by omega) (by omega) (by omega) (QV _ ((GB _ _).drew));have QS:(xs++[(⟨(m:Int),nx,fl.data.toList,fl.data.toList,tx.data.toList⟩:au)]).length=xs.length+1:=by simp
 have QR:∀w',ah G w'->GF Gp 40 #[Gr (J (C K 0 O))] w' λe Q9=>(∃bN bT:ByteArray,e=.returned (.agg #[Z bN,Z bT])/\bN.data.toList=code.data.toList++[47,108,105,115,116]/\bT.data.toList=LN ep (nx+1) ((xs++[(⟨(m:Int),nx,fl.data.toList,fl.data.toList,tx.data.toList⟩:au)]).map aV))/\ah w' Q9:=by
  intro w' u;obtain⟨a',L,o,_,l,_⟩:=bQ.form (ai (w':=w') (λb n=>u.block b (QM.lt b n).2) QM);have hF':=k.below u;rw[QS]at o;injection o with E F p
  subst E p;refine kX (xs:=xs++[(⟨(m:Int),nx,fl.data.toList,fl.data.toList,tx.data.toList⟩:au)]) (by rw[QS];exact hF') l (by rw[QS];omega) (by omega) (QV w' u) Ri.out ?_;intro x hx
  rcases List.mem_append.1 hx with hx|hx
  ·exact Rh.out x hx
  simp only[List.mem_singleton]at hx;rw[hx];exact Re
 have Rq:=hid r;have Q7:=hid QM;refine aF 12 (λw':GA=>w'.heap[M]?=J (Gt #[I U m,I U nx,Z fl,Z fl,Z tx] 138 (0,0))/\a8 w' K name code ep (nx+1) (Gn (J (C g 0 O)) (xs.length+1) t)) 12 Y (by kernel_rfl) ⟨r,k⟩ (λa' Q hA hQ hP hS=>?_);have z:a'.tmps.size=23:=by rw[hA.out];rfl
 have e0:a'.eval (.tmp 0)=Gr (J (C K 0 O)):=by rw[hA.out];rfl
 have e8:a'.eval (.tmp 8)=Gr (J (C M 0 O)):=by rw[hA.out];rfl
 refine cq 0 (J 13) Y Y hP (λwx hw=>cd (p':=(C M 1 O)) Y e8 (λw=>by kernel_rfl)) hS ?_;refine cq 1 (J 14) Y Y hP (λwx hw=>ar Y (evz z) (aY (Ec hw.1))) hS ?_;refine cq 2 (J 15) Y Y hP (λwx hw=>aj Y (cz e0)) hS ?_;refine cq 3 (J 16) Y Y hP (λwx hw=>ar Y (cz (ci e8)) (sr hw.1)) hS ?_;refine cq 6 (J 19) Y Y hP (λwx hw=>aj Y (cS e0)) hS ?_;refine dd (i:=4) (d:=J 17) (by kernel_rfl) Y Y Y Y Tryz.func56 (by kernel_rfl) Y (ik (cz (evz (aR z))) (ci (evz (aR (aU z))))) gF ?_;rintro e w3 ⟨⟨bF,rfl,Q3⟩,F⟩;refine⟨_,rfl,λ_=>⟨(F.block M (show M<G.heap.size by omega)).trans r,k.below (w':=w3) (((GB _ _).drew).trans F)⟩,?_⟩;have gP:=oG bF tx w3;refine dd (i:=5) (d:=J 18) (by kernel_rfl) Y Y Y Y OY (by kernel_rfl) Y (oU (evz (ba (aU z)))) gP ?_;rintro e w4 ⟨⟨v4,rfl,hA4⟩,Q4⟩;have o:ah G w4:=(((GB _ _).drew).trans F).trans (Q4.mono F.size);refine⟨_,rfl,λ_=>⟨(o.block M hM).trans r,k.below o⟩,?_⟩;have gL:=QR w4 o;refine dd (i:=7) (d:=J 20) (by kernel_rfl) Y Y Y Y OZ (by kernel_rfl) Y (oU (cz (evz (ba z)))) gL ?_;rintro e w5 ⟨⟨bN,bT,rfl,QZ,QY⟩,QL⟩;have p:ah G w5:=o.trans (QL.mono o.size);refine⟨_,rfl,λ_=>⟨(p.block M hM).trans r,k.below p⟩,?_⟩;have gQ:=oG bN bT w5;refine dd (i:=8) (d:=J 21) (by kernel_rfl) Y Y Y Y OY (by kernel_rfl) Y (oU (evz (ba (aR (aU z))))) gQ ?_;rintro e w6 ⟨⟨v6,rfl,hA6⟩,QT⟩;have n:ah G w6:=p.trans (QT.mono p.size);refine⟨_,rfl,λ_=>⟨(n.block M hM).trans r,k.below n⟩,?_⟩;have hA4':w6.ownsRow G.heap.size 167 4 v4 5 (ce (bZ bF.data.toList tx.data.toList)):=by have h1:=(hA4.below (QL.trans (QT.mono QL.size))).base F.size;exact h1
 obtain⟨a6,c6,Ra,L⟩:=hA6.slice5;subst Ra;refine fj (i:=9) (d:=J 22) (ce (bZ bN.data.toList bT.data.toList)) (by kernel_rfl) Y Y Y Y DD (by decide) (cz (evz (ba (aR z)))) hA4' (evz (cr z)) (vX _ _) L (fU _) (by decide) (by decide) (by decide) n.size ?_;intro g7 c7 w7 R E Q5 Rn;have l:ah G w7:=n.grown E n.size (λb u=>(hA4'.lt b u).1);have QU:=And.intro ((l.block M hM).trans r) (k.below l);refine⟨λ_=>QU,?_⟩;clear hS;have hS:=QU;refine bv (i:=10) (d:=J 6) (by kernel_rfl) Y Y Y (aH Y (eH (evz (aU z)))) (λ_=>hS) ?_;refine bv (i:=11) (d:=J 7) (by kernel_rfl) Y Y Y (aH Y (ci (evz (cr (aU z))))) (λ_=>hS) ?_;refine aJ (by kernel_rfl) (hQ.out _ _ ?_) _;rw[hA.out];simp only[Act.put,GP];dsimp only[IA];clear hQ hP hA z hS Q a' e0 e8 QU;have QO:dG w7 w.heap.size (Gn (J (C g7 0 O)) (5+5) c7) (bZ (code.data.toList++[47]++Lib.itoa (m:Int)++[46]++fl.data.toList) tx.data.toList++bZ (code.data.toList++[47,108,105,115,116]) (LN ep (nx+1) ((xs++[(⟨(m:Int),nx,fl.data.toList,fl.data.toList,tx.data.toList⟩:au)]).map aV))):=by
  rw[←Q3,←QZ,←QY];have e:ce (bZ bF.data.toList tx.data.toList++bZ bN.data.toList bT.data.toList)=ce (bZ bF.data.toList tx.data.toList)++ce (bZ bN.data.toList bT.data.toList):=by simp[ce]
  unfold dG;rw[e];exact fi R (by have:=QN.size;omega)
 have e:bQ w7 B (Gn (J (C g 0 O)) (xs.length+1) t) (xs++[(⟨(m:Int),nx,fl.data.toList,fl.data.toList,tx.data.toList⟩:au)]):=ai (λb u=>l.block b (Q7.out.lt b u).2) Q7.out;have HP:=hid (And.intro QO (And.intro (k.below l) (And.intro e (QN.below l))));clear QO e R E Q5 hA4' L hA6 hA4 l n p o F Q4 QL QT gF gP gL gQ QR k QM QN QQ QV r Q3 QZ QY;go_wp2_with fail;go_ret2;exact⟨⟨_,rfl,HP.out.1⟩,g,t,HP.out.2.1,HP.out.2.2.1,Rj.out,HP.out.2.2.2⟩
def sX (w:GA) (T fr fc:Nat):Prop:=w.heap[T]?=J (Gt #[Gn (J (C fr 0 O)) 1 fc,I U 0,Gn O 0 0] 86 (0,0))
def j9 (w:GA) (fr kf:Nat):Prop:=w.cell? (C fr 0 O)=J (Gr (J (C kf 0 O)))/\fr<w.heap.size
theorem sX.cells{w:GA}{T fr fc:Nat}(h:sX w T fr fc):w.cell? (C T 0 O)=J (Gn (J (C fr 0 O)) 1 fc)/\w.cell? (C T 1 O)=J (I U 0)/\w.cell? (C T 2 O)=J (Gn O 0 0)/\T<w.heap.size:=by unfold sX at h;exact⟨by simp[GM,h],by simp[GM,h],by simp[GM,h],(GO.1 h).1⟩
def cD:ByteArray:=⟨#[105,110]⟩
theorem tN{w:GA}{T:Nat}(nm fl tx:ByteArray)(h:40<tx.data.toList.length)(b:tx.data.toList.length<=9223372036854775807):
  GF Gp 206 #[Gr (J (C T 0 O)),Z nm,Z fl,Z tx] w λe w'=>e=.returned (GG #[I U 0,Gn O 0 0,I U 1])/\w'=w:=by
 have e:(40:Int)<(tx.size:Int):=by rw[Lib.size_eq];omega
 go_enter Tryz.func206,Tryz.ntmps206;go_wp2;go_ret3;exact⟨rfl,rfl⟩
end Go.Proofs.YtlbhikafmckcfaaGreatDoor
