import Derived.Test.YtlbhikafmckcfaaGreatDoorQ50
open Array renaming getElem?_eq_some_iff->GO
open Go renaming Calls->GF,World->GA,heap_alloc_new->GJ,heap_alloc_old->GR
open Go.Ending renaming returned->Gu
open Go.IntKind renaming i64->U
open Go.Proofs.Tryz renaming prog->Gp
open Go.RowKit renaming intOf->GK
open Go.RowKit.Below renaming heap_setCell->GN,refl->GB
open Go.Value renaming int->I,ownBlock->IG,pointer->Gr,slice->Gn,string->Z,tuple->GG
open List renaming set->IA,setIfInBounds_toArray->GP
open Nat renaming le_of_eq->Oh,lt_of_lt_of_le->GT,zero_le->Hg
open Option renaming none->O,some->J
open Or renaming inl->G5,inr->G9
open Go.Addr renaming mk->C
set_option maxRecDepth 100000
set_option maxHeartbeats 16000000
namespace Go.Proofs.YtlbhikafmckcfaaGreatDoor
section
open Go.RowKit Go.Lib Go.MuLone
theorem Ah{P:Nat}{W:GA}(h:W.cell? (C P 16 O)=J (.bool true))(b:ByteArray):
  GF Gp 12 #[Gr (J (C P 0 O)),I U 0,Z b] W λe w'=>e=Gu (GG #[Z ⟨#[]⟩,Gn O 0 0,I U 5])/\w'=W:=by
 go_enter Tryz.func12,Tryz.ntmps12;go_wp2_with fail;go_ret3;exact⟨rfl,rfl⟩
theorem ug{c:aQ}(h:c.en=true)(s:ax)(l:List UInt8):aB c s l=(c,s,[]):=mP l (c,s,[]) h
def i8 (c:aQ):Int:=if c.en then 5 else 0
section
variable {role role':Nat->Nat} {S:List Nat} {B:Nat} {W W':GA} {f:Fs} {hs:List Gf} {c:aQ} {s:ax}
theorem FA(h:Sn role B f hs c s W)(l:aT c s)(n:dF c)(k:rO B W)(b:ByteArray)(p:b.data.toList.length<=2000):
  GF Gp 12 #[Gr (J (C f.P 0 O)),I U 0,Z b] W λe w'=>∃role' j a,e=Gu (GG #[Z ⟨(aB c s b.data.toList).2.2.toArray⟩,a,I U (i8 c)])/\Sn role' B f j (aB c s b.data.toList).1 (aB c s b.data.toList).2.1 w'/\eW role role' W w':=by
 cases j:c.en
 ·have m:i8 c=0:=by unfold i8;rw[j];rfl
  rw[m];exact FB h l n k j b p
 have m:i8 c=5:=by unfold i8;rw[j];rfl
 rw[m,ug j];obtain⟨u,sv,t,r,o,_⟩:=h.tk;refine(Ah (P:=f.P) (by rw[←j];exact ae (o:=16) o Y) b).mono ?_;rintro e w' ⟨rfl,rfl⟩;exact⟨role,hs,_,rfl,h,eW.refl _ _⟩
theorem Sn.kept(h:Sn role B f hs c s W)(b:cB role role' [60] W W'):Sn role' B f hs c s W':=by obtain⟨sv,ov,j,e⟩:=h.st;exact⟨h.bs.kept b (by simp),h.tk.kept b (by simp) (by simp) (by simp) (by simp),⟨sv,ov,j.keptN e b (by simp) (by simp) (λi=>by simp;omega),e⟩,h.fds,h.oth⟩
structure Au (role:Nat->Nat) (B K:Nat) (q:Int) (f:Fs) (hs:List Gf) (c:aQ) (s:ax) (W:GA):Prop where
 sn:Sn role B f hs c s W
 srv:kM W K f.kt q (Gr (J (C f.P 0 O))) 0
 rK:role K=60
structure F4 (K:Nat) (role role':Nat->Nat) (W W':GA):Prop where
 os:W'.os=W.os
 tape:W'.tape=W.tape
 output:W'.output=W.output
 size:W.heap.size<=W'.heap.size
 far:∀b,b<W.heap.size->b≠K->role b=0∨role b=60->role' b=role b/\W'.heap[b]?=W.heap[b]?
theorem E2{K:Nat}{q:Int}(h:Au role B K q f hs c s W)(r:aT c s)(u:dF c)(p:rO B W)(j:ByteArray)(E:j.data.toList.length<=2000):
  GF Gp 6 #[Gr (J (C K 0 O)),I U 0,Z j] W λe w'=>∃role' b a,e=Gu (GG #[Z ⟨(aB c s j.data.toList).2.2.toArray⟩,a,I U (i8 c)])/\Au role' B K q f b (aB c s j.data.toList).1 (aB c s j.data.toList).2.1 w'/\F4 K role role' W w':=by
 obtain⟨c0,_,L,QK⟩:=h.srv.cells;have QL:=L 0;have m:∀b,b≠K->(W.setCell (C K 0 O) (I .i32 1)).heap[b]?=W.heap[b]?:=λb R=>GN _ _ _ _ R
 have l:=(GB 0 W).setCell (p:=C K 0 O) (Hg _) (I .i32 1);have o:cB role role [60] W (W.setCell (C K 0 O) (I .i32 1)):=⟨l.os,l.tape,l.output,l.size,λ_ _=>rfl,λb _ M=>m b (λe=>M (by rw[e,h.rK];simp))⟩;have QP:B<=K:=by
  rcases Nat.lt_or_ge K B with G|G
  ·have:=h.sn.bs.low K G;rw[h.rK]at this;omega
  exact G
 have n:rO B (W.setCell (C K 0 O) (I .i32 1)):=λV hV=>p V λb hB=>(hV b hB).trans (m b (by omega))
 have F:=FA (h.sn.kept o) r u n j E;have k:=h.srv.set 1;have k3:(W.setCell (C K 0 O) (I .i32 1)).cell? (C K 3 O)=J (Gr (J (C f.P 0 O))):=by unfold kM at k;simp[World.cell?,k]
 have Hh:=hid h;have QM:=hid k;have t:=hid l;have QN:=hid m;have HC:=hid E;clear h k L o l m p n r u E;generalize aB c s j.data.toList=rr at*;generalize(⟨rr.2.2.toArray⟩:ByteArray)=ab at*;generalize i8 c=er at*;go_enter_defers Tryz.func6,Tryz.ntmps6;go_wp2_with(first|(go_at_call 10;refine(lock_free AP (C K 0 O) _ c0 QL).mono ?_;rintro e w' ⟨rfl,rfl⟩)|(go_at_call 12;refine F.mono ?_;rintro e p ⟨k,L,va,rfl,hR,l⟩;have HR:=hid hR;have m:=hid l;clear hR l F));have r:(W.setCell (C K 0 O) (I .i32 1)).heap.size=W.heap.size:=by simp
 have E:=m.out.far K (by rw[r];exact QK) (G9 Hh.out.rK);have n:kM p K f.kt q (Gr (J (C f.P 0 O))) 1:=E.2.trans QM.out;refine leaves_cons (f:=11) (args:=#[Gr (J (C K 0 O))]) (by simp) (by simp[go_sem]) ?_;refine(unlock_deferred AP (C K 0 O) .returning _ n.cells.1 (n.cells.2.2.1 0)).mono ?_;rintro e u' QO ⟨rfl,rfl,rfl⟩;have o:∀b,b≠K->(p.setCell (C K 0 O) (I .i32 0)).heap[b]?=p.heap[b]?:=λb R=>GN _ _ _ _ R
 have l:=(GB 0 p).setCell (p:=C K 0 O) (Hg _) (I .i32 0);have F:k K=60:=E.1.trans Hh.out.rK;have u:cB k k [60] p (p.setCell (C K 0 O) (I .i32 0)):=⟨l.os,l.tape,l.output,l.size,λ_ _=>rfl,λb _ M=>o b (λe=>M (by rw[e,F];simp))⟩;have hs2':W.heap.size<=p.heap.size:=by have:=m.out.size;rw[r]at this;exact this
 refine⟨_,results_tmp3 Y _ _ _,k,L,va,rfl,⟨HR.out.kept u,n.set 0,F⟩,⟨l.os.trans (m.out.os.trans t.out.os),l.tape.trans (m.out.tape.trans t.out.tape),l.output.trans (m.out.output.trans t.out.output),by simpa using hs2',λb G h2 h3=>?_⟩⟩;obtain⟨p1,p2⟩:=m.out.far b (by rw[r];exact G) h3;exact⟨p1,(o b h2).trans (p2.trans (QN.out b h2))⟩
end
end
section
open Go.RowKit Go.Lib
structure EO where
 K:Nat
 q:Int
 f:Fs
structure vb (rx ry:Nat->Nat) (B:Nat) (x y:EO) (hx hy:List Gf) (cx:aQ) (sx:ax) (cy:aQ) (sy:ax) (W:GA):Prop where
 one:Au rx B x.K x.q x.f hx cx sx W
 two:Au ry B y.K y.q y.f hy cy sy W
 xy:∀b,b<W.heap.size->((rx b=0∨rx b=60)/\b≠x.K)∨(ry b=60/\b≠y.K)
 yx:∀b,b<W.heap.size->((ry b=0∨ry b=60)/\b≠y.K)∨(rx b=60/\b≠x.K)
section
variable {rx ry:Nat->Nat} {B:Nat} {x y:EO} {hx hy:List Gf} {cx cy:aQ} {sx sy:ax} {W W':GA}
theorem vb.symm(h:vb rx ry B x y hx hy cx sx cy sy W):vb ry rx B y x hy hx cy sy cx sx W:=⟨h.two,h.one,h.yx,h.xy⟩
theorem Au.lt{role:Nat->Nat}{K:Nat}{q:Int}{f:Fs}{hs:List Gf}{c:aQ}{s:ax}(h:Au role B K q f hs c s W):K<W.heap.size:=h.srv.cells.2.2.2
theorem vb.step(h:vb rx ry B x y hx hy cx sx cy sy W){n:Nat->Nat}{r:List Gf}{t:aQ}{p:ax}(L:Au n B x.K x.q x.f r t p W')(hF:F4 x.K rx n W W'):∃u,vb n u B x y r hy t p cy sy W'/\Below B W W':=by
 have o:=h.two.lt;have M:=h.one.lt;have m:∀b,b<W.heap.size->(if b<W.heap.size then ry b else 60)=ry b:=λb l=>if_pos l
 have E:cB ry (λb=>if b<W.heap.size then ry b else 60) [60] W W':=⟨hF.os,hF.tape,hF.output,hF.size,λb l=>m b l,λb l G=>by
  rcases h.xy b l with⟨k,e⟩|⟨k,_⟩
  ·exact(hF.far b l e k).2
  exact absurd (by rw[k];simp) G⟩
 have F:W'.heap[y.K]?=W.heap[y.K]?:=by
  rcases h.xy y.K o with⟨k,e⟩|⟨_,e⟩
  ·exact(hF.far y.K o e k).2
  exact absurd Y e
 refine⟨_,⟨L,⟨h.two.sn.kept E,F.trans h.two.srv,(m y.K o).trans h.two.rK⟩,λb l=>?_,λb l=>?_⟩,⟨hF.os,hF.tape,hF.output,hF.size,λb l=>?_⟩⟩
 ·by_cases j:b<W.heap.size
  ·rcases h.xy b j with⟨k,e⟩|⟨k,e⟩
   ·exact G5 ⟨by rw[(hF.far b j e k).1];exact k,e⟩
   exact G9 ⟨by rw[if_pos j];exact k,e⟩
  exact G9 ⟨by rw[if_neg j],by omega⟩
 ·by_cases j:b<W.heap.size
  ·rcases h.yx b j with⟨k,e⟩|⟨k,e⟩
   ·exact G5 ⟨by rw[if_pos j];exact k,e⟩
   exact G9 ⟨(hF.far b j e (G9 k)).1.trans k,e⟩
  exact G5 ⟨by rw[if_neg j];exact G9 Y,by omega⟩
 have k:=h.one.sn.bs.low b l;have j:b<W.heap.size:=GT l h.one.sn.bs.base;exact(hF.far b j (λe=>by rw[e,h.one.rK]at k;omega) (G5 k)).2
theorem rO.low(h:rO B W)(j:Below B W W'):rO B W':=λV k=>h V λb e=>(k b e).trans (j.block b e)
theorem vb.feed(h:vb rx ry B x y hx hy cx sx cy sy W)(n:aT cx sx)(o:dF cx)(m:rO B W)(b:ByteArray)(t:b.data.toList.length<=2000):
  GF Gp 6 #[Gr (J (C x.K 0 O)),I U 0,Z b] W λe w'=>∃k j l a,e=Gu (GG #[Z ⟨(aB cx sx b.data.toList).2.2.toArray⟩,a,I U (i8 cx)])/\vb k j B x y l hy (aB cx sx b.data.toList).1 (aB cx sx b.data.toList).2.1 cy sy w'/\Below B W w':=by
 refine(E2 h.one n o m b t).mono ?_;rintro e w' ⟨k,l,a,rfl,E,u⟩;obtain⟨j,r,p⟩:=h.step E u;exact⟨k,j,l,a,rfl,r,p⟩
end
section
variable {role:Nat->Nat} {B K:Nat} {q:Int} {f:Fs} {hs:List Gf} {c:aQ} {s:ax} {W W':GA}
theorem eU.talk{T P:Nat}{sv ov:Value}{mk:Int}{oth:List aS}(h:eU role B T hs sv ov mk oth W)(n:role P=1):eU (λb=>if b=P then 61 else role b) B T hs sv ov mk oth W:=by
 have k:∀b,role b≠1->(if b=P then 61 else role b)=role b:=λb j=>if_neg (λe=>j (by rw[e];exact n))
 refine⟨h.blk,h.fr,h.orow,λi g m=>?_,(k _ (by rw[h.rT];omega)).trans h.rT,λb j=>(k b (by rw[h.rs b j];omega)).trans (h.rs b j),λb j=>(k b (by rw[h.ro b j];omega)).trans (h.ro b j),λb j=>(k b (by rw[h.low b j];omega)).trans (h.low b j),h.base⟩;have l:=h.fo i g m;exact⟨l.blk,l.own,(k _ (by rw[l.rG];omega)).trans l.rG,λb j=>(k b (by rw[l.rv b j];omega)).trans (l.rv b j)⟩
theorem Au.files(h:Au role B K q f hs c s W)(j:dD s):
  GF Gp 7 #[Gr (J (C K 0 O))] W λe w'=>(∃v ys,e=Gu v/\oA (bC s.oth s.mark s.fds) ys/\cP w' W.heap.size v ys)/\ah W w':=by
 obtain⟨gv,sv,G,E,o,R,l,M,L⟩:=h.sn.tk;obtain⟨m,ov,n,F⟩:=h.sn.st;have k:K≠f.P:=λe=>by have u:=h.rK;rw[e,l]at u;omega
 have p:FM (λb=>if b=f.P then 61 else role b) B K f.kt f.P hs m ov q s W:=⟨h.srv,by rw[h.sn.oth];exact n.talk l,h.sn.fds,(if_neg k).trans h.rK,if_pos Y,(GO.1 o).1⟩;exact zy p j λw' r=>h.sn.bs.env w' λb t=>r.block b t
end
section
variable {rx ry:Nat->Nat} {B:Nat} {x y:EO} {hx hy:List Gf} {cx cy:aQ} {sx sy:ax} {W W':GA}
theorem Au.below{role:Nat->Nat}{K:Nat}{q:Int}{f:Fs}{hs:List Gf}{c:aQ}{s:ax}(h:Au role B K q f hs c s W)(j:ah W W'):Au (λb=>if b<W.heap.size then role b else 60) B K q f hs c s W':=by have l:=h.lt;have k:cB role (λb=>if b<W.heap.size then role b else 60) [60] W W':=⟨j.os,j.tape,j.output,j.size,λb e=>if_pos e,λb e _=>j.block b e⟩;exact⟨h.sn.kept k,(j.block K l).trans h.srv,(if_pos l).trans h.rK⟩
theorem vb.below(h:vb rx ry B x y hx hy cx sx cy sy W)(n:ah W W'):∃m l,vb m l B x y hx hy cx sx cy sy W':=by
 have p:=h.one.lt;have o:=h.two.lt;refine⟨_,_,h.one.below n,h.two.below n,λb _=>?_,λb _=>?_⟩
 ·by_cases e:b<W.heap.size
  ·rcases h.xy b e with⟨k,j⟩|⟨k,j⟩
   ·exact G5 ⟨by rw[if_pos e];exact k,j⟩
   exact G9 ⟨by rw[if_pos e];exact k,j⟩
  exact G9 ⟨if_neg e,by omega⟩
 by_cases e:b<W.heap.size
 ·rcases h.yx b e with⟨k,j⟩|⟨k,j⟩
  ·exact G5 ⟨by rw[if_pos e];exact k,j⟩
  exact G9 ⟨by rw[if_pos e];exact k,j⟩
 exact G9 ⟨if_neg e,by omega⟩
end
def l8 (B T r c G:Nat) (v:Value) (nx:Int) (ys:List au) (w:GA):Prop:=yR B T r c G v nx ys w/\w.ownsRow B 88 1 (Gn (J (C r 0 O)) 1 c) 1 [Gr (J (C G 0 O))]
theorem zA{w:GA}{B B' e size n g cap:Nat}{xs:List Value}(h:w.ownsRow B e size (Gn (J (C g 0 O)) n cap) n xs)(o:B'<=g):w.ownsRow B' e size (Gn (J (C g 0 O)) n cap) n xs:=by
 refine⟨h.1,?_⟩
 rcases h.2 with⟨b,_⟩|⟨k,m,j,b,p,l⟩
 ·cases b
 have r:g=k:=by injection b with b _ _;injection b with b;injection b
 exact G9 ⟨k,m,j,b,by omega,l⟩
theorem Bm{w:GA}{B D fr fc F:Nat}{text:ByteArray}{a:Option Addr}{cap:Nat}{xs:List au}(h:jo w D fr fc)(j:j9 w fr F)(k:dj w F cD text (Gn a xs.length cap) 0 0 (Gn O 0 0) false)(Rz:D≠F)(Rt:fr≠F)
  (hm:ej w a xs) (QZ:∀b off,a=J (C b off O)->b≠F) (hl:xs.length<=1000) (hs:text.size<=400) (Rg:B<=F) (Rf:B<=w.heap.size) (hE:∀w',Below B w w'->lV w')
  {nx:Int} {es:List Mb.Ent} (hr:Mb.readL text.data.toList=J (1,nx,es)) (Ru:es.length<=1000) (Q3:∀x∈xs,jk x.key es) (Rr:0<=nx) (Rq:nx<=100) (ys:List au) (Rl:ys.length=es.length)
  (hj:∀(i:Nat) (e:Mb.Ent),es[i]?=J e->(∃x∈xs,x.key=e.key)/\∀x∈xs,x.key=e.key->ys[i]?=J ⟨x.key,e.uid,e.flags,x.came,x.text⟩):
  GF Gp 18 #[Gr (J (C D 0 O))] w λe w'=>(∃T r c G v,e=Gu (GG #[Gr (J (C T 0 O)),.bool true])/\l8 w.heap.size T r c G v nx ys w')/\(∃ev,dj w' F cD text (Gn a xs.length cap) 1 nx ev false)/\db F O w w':=by
 obtain⟨c0,c1,c2,c3,c4,Ry⟩:=h.cells;have Rw:=k.cells.2.2.2.2.2.2.2.2;have QV:=j.2;have f0:=j.1;have gR:=xr k hm QZ (by omega) hs (hE w (GB _ _)).env hr (by omega) Q3 Rr Rq;have hI:∀w,(Instr.indexAt 92 (Gn (J (C fr 0 O)) 1 fc) (I U 0)).run Gp w=.ok (Gr (J (C fr 0 O))) w:=λw=>ot (by decide)
 obtain⟨nm,Q8⟩:∃nm,Hid (cD=nm):=⟨_,rfl⟩;rw[Q8.out]at gR;have H:=hid h;have Hf:=hid j;have Hm:=hid hm;have RA:=hid QZ;have HE:=hid hE;have RB:=hid Q3;have HJ:=hid hj;have RD:=hid Rg;have Q9:=hid Rf;clear h j k hm QZ hE Q3 hj hr Rg Rf;go_enter Tryz.func18,Tryz.ntmps18;go_wp2_with fail;go_loopw [4,19] (λev i wr=>(i=I U 0/\ev=I U 0/\wr=w)∨(i=I U 1/\ev=I U 1/\Hid (∃ea ec,dj wr F nm text (Gn a xs.length cap) 1 nx (Gn ea es.length ec) false/\iP wr ea es/\∀b off,ea=J (C b off O)->w.heap.size<=b)/\Hid (db F O w wr))) (λ_ i _=>1-(GK i).toNat)
 case atStart=>exact G5 ⟨rfl,rfl,rfl⟩
 case round=>
 rcases hrel with⟨rfl,rfl,n⟩|⟨rfl,rfl,Rn,p⟩
 ·subst wr;go_wp2_with fail;refine gR.mono ?_;rintro e w1 ⟨rfl,⟨ea,ec,QM,QO,R⟩,p⟩;obtain⟨_,_,_,m,_,_,l,_,_⟩:=QM.cells;have j:Hid (∃ea ec,dj w1 F nm text (Gn a xs.length cap) 1 nx (Gn ea es.length ec) false/\iP w1 ea es/\∀b off,ea=J (C b off O)->w.heap.size<=b):=⟨ea,ec,QM,QO,R⟩;have k:=hid p;clear gR QM QO R p;go_wp2_with fail;exact⟨G9 ⟨rfl,rfl,j,k⟩,by simp[GK]⟩
 have k:=p.out.size;have j:∀b,b<w.heap.size->b≠F->wr.heap[b]?=w.heap[b]?:=λb h1 h2=>p.out.block b h1 h2 (by simp)
 have l:jo wr D fr fc:=(j D Ry Rz).trans H.out;obtain⟨L,E,_,u,_,QR⟩:=l.cells;have HD:=hid l;clear j l c0 c1 c2 c3 c4 f0 gR;go_wp2_with fail;refine aF 10 (λw':GA=>w'.cell? (C D 1 O)=J (I U 0)/\w'.cell? (C D 3 O)=J (Gn O 0 0)) 11 Y (by kernel_rfl) ⟨E,u⟩ (λa' Q hA hQ t j=>?_);have z:a'.tmps.size=83:=by rw[hA.out];rfl
 have e0:a'.eval (.tmp 0)=Gr (J (C D 0 O)):=by rw[hA.out];rfl
 refine cq 0 (J 38) Y Y t (λM n=>aj Y e0) j ?_;refine cq 1 (J 39) Y Y t (λM n=>aP Y (evz z)) j ?_;refine cq 2 (J 40) Y Y t (λM n=>aq (C D 1 O) Y (evz (aU z))) j ?_;refine cq 3 (J 41) Y Y t (λM n=>ar Y (evz (aR z)) (aY n.1)) j ?_;refine cq 4 (J 42) Y Y t (λM n=>aj Y (cS e0)) j ?_;refine cq 5 (J 43) Y Y t (λM n=>aP Y (evz (ba z))) j ?_;refine cq 6 (J 44) Y Y t (λM n=>aq (C D 3 O) Y (evz (ba (aU z)))) j ?_;refine cq 7 (J 45) Y Y t (λM n=>ar Y (evz (ba (aR z))) (aY n.2)) j ?_;refine cq 8 (J 46) Y Y t (λM n=>xo (v:=.agg #[Gn O 0 0,I U 0,Gn O 0 0]) Y (cS (evz (aR (aU z)))) (evz (ba (aR (aU z)))) ze) j ?_;have l:(wr.drew.alloc (.cells #[Gn O 0 0,I U 0,Gn O 0 0] 86)).cell? (C D 1 O)=J (I U 0)/\(wr.drew.alloc (.cells #[Gn O 0 0,I U 0,Gn O 0 0] 86)).cell? (C D 3 O)=J (Gn O 0 0):=⟨(aD (C D 1 O) (GR wr.drew _ QR)).trans E,(aD (C D 3 O) (GR wr.drew _ QR)).trans u⟩;refine bv (i:=9) (d:=J 47) (v:=Gr (J (C wr.heap.size 0 O))) (w':=wr.drew.alloc (.cells #[Gn O 0 0,I U 0,Gn O 0 0] 86)) (by kernel_rfl) Y Y Y (rL Y (evz (cr z)) Bn) (λ_=>l) ?_;clear j;have j:=l;refine bv (i:=10) (d:=J 7) (by kernel_rfl) Y Y Y (aH Y (evz (cr (aU z)))) (λ_=>j) ?_;refine aJ (by kernel_rfl) (hQ.out _ _ ?_) _;rw[hA.out];simp only[Act.put,GP];dsimp only[IA];clear hQ t hA z j Q a' e0 l;have o:Below wr.heap.size wr (wr.drew.alloc (.cells #[Gn O 0 0,I U 0,Gn O 0 0] 86)):=((GB _ _).drew).alloc (Nat.le.refl) _;have l:AY (wr.drew.alloc (.cells #[Gn O 0 0,I U 0,Gn O 0 0] 86)) wr.heap.size:=GJ wr.drew _;generalize(wr.drew.alloc (.cells #[Gn O 0 0,I U 0,Gn O 0 0] 86))=m at*;have QT:wr.heap.size<m.heap.size:=(GO.1 l).1;have QN:=hid o;have Ri:=hid l;have RF:=hid k;have j0:m.cell? (C D 0 O)=J (Gn (J (C fr 0 O)) 1 fc):=ak o L QR;have QL:w.heap.size<=wr.heap.size:=k;clear o l k L E u;generalize k:wr.heap.size=T at*;have Rj:=hid k;clear k;go_wp2_with fail;go_loopw [4,53] (λep i wr=>ep=I U 1/\((i=I U 0/\wr=m)∨(i=I U 1/\Hid ((∃r c G v,l8 w.heap.size T r c G v nx ys wr)/\(∃ev,dj wr F cD text (Gn a xs.length cap) 1 nx ev false)/\db F O w wr)))) (λ_ i _=>1-(GK i).toNat)
 case atStart=>exact⟨rfl,G5 ⟨rfl,rfl⟩⟩
 case round=>
 obtain⟨rfl,hrel⟩:=hrel
 rcases hrel with⟨rfl,n⟩|⟨rfl,Rb⟩
 ·subst wr;obtain⟨ea,ec,QM,QO,R⟩:=Rn.out;have QX:F<T:=GT Rw QL;have l:dj m F nm text (Gn a xs.length cap) 1 nx (Gn ea es.length ec) false:=(QN.out.block F QX).trans QM;have g6:=l.cells.2.2.2.2.2.2.1;have g0:m.cell? (C fr 0 O)=J (Gr (J (C F 0 O))):=ak QN.out ((aD (C fr 0 O) (p.out.block fr QV Rt (by simp))).trans Hf.out.1) (GT QV QL);have t0:m.cell? (C T 0 O)=J (Gn O 0 0):=by have:=Ri.out;unfold AY at this;simp[World.cell?,this]
  have u:ej m a xs:=by
   rcases Hm.out with E|⟨b,off,h1,h2,h3⟩
   ·exact G5 E
   have o:=RA.out b off h1;have k:m.heap[b]?=w.heap[b]?:=(QN.out.block b (GT h2 QL)).trans (p.out.block b h2 o (by simp));exact G9 ⟨b,off,h1,by omega,λi x hx=>by obtain⟨e0,e1,e2,e3,L⟩:=h3 i x hx;exact⟨(aD (C b _ O) k).trans e0,(aD (C b _ O) k).trans e1,(aD (C b _ O) k).trans e2,(aD (C b _ O) k).trans e3,(aD (C b _ O) k).trans L⟩⟩
  have o:iP m ea es:=QO.below QN.out (Oh Rj.out);have k:Below m.heap.size m m.drew:=(GB _ _).drew;have E:lV m.drew:=HE.out _ (((p.out.base RD.out (by simp) Q9.out).trans (QN.out.mono (Nat.le_trans Q9.out QL))).trans (k.mono (by have:=Q9.out;omega)));have gF:=B7 (w:=m.drew) (by rw[Q8.out];exact l) (u.below k) hl (o.below k (Nat.le.refl)) Ru E RB.out ys Rl HJ.out;have RC:=hid l;clear QM QO R l u o k E j0;go_wp2_with fail;refine aF 11 (λw':GA=>w'.cell? (C T 0 O)=J (Gn O 0 0)) 12 Y (by kernel_rfl) t0 (λa' Q hA hQ t j=>?_);have z:a'.tmps.size=83:=by rw[hA.out];rfl
  have e7:a'.eval (.tmp 7)=Gr (J (C T 0 O)):=by rw[hA.out];rfl
  have e9:a'.eval (.tmp 9)=Gr (J (C F 0 O)):=by rw[hA.out];rfl
  refine cq 0 (J 68) Y Y t (λM n=>aj Y e7) j ?_;refine cq 1 (J 69) Y Y t (λM n=>aj Y (ci e7)) j ?_;refine cq 2 (J 70) Y Y t (λM n=>aP Y (evz (aU z))) j ?_;refine cq 3 (J 71) Y Y t (λM n=>aq (C T 0 O) Y (evz (aR z))) j ?_;refine cq 4 (J 72) Y Y t (λM n=>ar Y (evz (aR (aU z))) (aY n)) j ?_;refine cq 5 (J 73) Y Y t (λM n=>aj Y (cS (ci e9))) j ?_;refine dd (i:=6) (d:=J 74) (by kernel_rfl) Y Y Y Y Tryz.func37 (by kernel_rfl) Y (oU (evz (ba (aU z)))) gF ?_;rintro e u ⟨⟨G,v,rfl,Rm,Q6,Q5,Rp⟩,QP⟩;have Ra:m.heap.size<=u.heap.size:=QP.size;have Q4:AY u T:=(QP.block T QT).trans Ri.out;have QQ:u.cell? (C T 0 O)=J (Gn O 0 0):=ak QP t0 QT;refine⟨_,rfl,λ_=>QQ,?_⟩;clear j;have j:=QQ;have Rd:(u.alloc (.cells #[Gr (J (C G 0 O))] 88)).cell? (C T 0 O)=J (Gn O 0 0):=(aD (C T 0 O) (GR _ _ (GT QT Ra))).trans QQ;refine fH (i:=7) (d:=J 75) (v:=Gn (J (C u.heap.size 0 O)) 1 1) (w':=u.alloc (.cells #[Gr (J (C G 0 O))] 88)) (by kernel_rfl) Y Y Y Y (evz (ba (aR z))) zX (λ_=>Rd) ?_;refine fj (i:=8) (d:=J 76) [Gr (J (C G 0 O))] (by kernel_rfl) Y Y Y Y Cd (by decide) (cz (ci (evz (ba z)))) (World.ownsRow_nil _ _ _ _) (evz (ba (aR (aU z)))) Y (World.news_of_block (cs:=#[Gr (J (C G 0 O))]) (t:=88) (fr:=(0,0)) (GJ _ _)) (by simp[Value.oneCell']) (by decide) (by unfold maxLen;omega) (by omega) (Hg _) ?_;intro g gc L o l QW QU;have Rs:g=u.heap.size+1:=by
   rcases QW with h|h
   ·cases h
   simpa using h
  have E:∀k,k<u.heap.size->L.heap[k]?=u.heap[k]?:=λk Rv=>(l.block k (by simp;omega) (by simp[IG])).trans (GR u _ Rv)
  have r0:L.cell? (C T 0 O)=J (Gn O 0 0):=(aD (C T 0 O) (E T (by omega))).trans QQ;have rf:L.frozen? (C T 0 O)=false:=(World.frozen?_of_block (a:=(C T 0 O)) (E T (by omega))).trans (by have:=Q4;unfold AY at this;simp[World.frozen?,this]);refine⟨λ_=>r0,?_⟩;clear j;have j:=r0;refine bv (i:=9) (d:=J 77) (by kernel_rfl) Y Y Y (aP Y (eH (evz z))) (λ_=>j) ?_;refine bv (i:=10) (d:=J 78) (by kernel_rfl) Y Y Y (aq (C T 0 O) Y (evz (cr (aU z)))) (λ_=>j) ?_;refine mG (i:=11) (by kernel_rfl) Y Y Y Y (evz (cr (aR z))) (cz (evz (cr z))) (λw h1 h2=>by simp[Instr.storeAt,go_sem,h1,h2]) r0 rf (λh=>absurd Y h) ?_;refine aJ (by kernel_rfl) (hQ.out _ _ ?_) _;rw[hA.out];simp only[Act.put,GP];dsimp only[IA];clear hQ t hA z j Q a' e7 e9 QQ Rd;simp only[Nat.zero_add]at o⊢;have Rc:L.cell? (C g 0 O)=J (Gr (J (C G 0 O))):=aA o (by rfl);have Ro:u.heap.size+1<=L.heap.size:=by have:=l.size;simpa using this
  have Re:G<u.heap.size:=Q6.cells.2.2.2.2.2.2;have hwG':m.heap.size<=G:=Rm;have RE:T<m.heap.size:=QT;have Q7:Below T m u:=(((GB _ _).drew:Below m.heap.size m m.drew).trans QP).mono (by omega);have QY:db F O w u:=p.out.below ((QN.out.trans Q7).mono (Oh Rj.out));have Rh:db F O w L:=(QY.below av).grown l;have QK:∀k,k<u.heap.size->k≠T->(L.setCell (C T 0 O) (Gn (J (C g 0 O)) 1 gc)).heap[k]?=u.heap[k]?:=λk h1 h2=>(GN _ _ _ _ h2).trans (E k h1)
  have Rk:Hid ((∃r c G v,l8 w.heap.size T r c G v nx ys (L.setCell (C T 0 O) (Gn (J (C g 0 O)) 1 gc)))/\(∃ev,dj (L.setCell (C T 0 O) (Gn (J (C g 0 O)) 1 gc)) F cD text (Gn a xs.length cap) 1 nx ev false)/\db F O w (L.setCell (C T 0 O) (Gn (J (C g 0 O)) 1 gc))):=by
   have QS:∀k,v.ownBlock=J k->m.heap.size<=k/\k<u.heap.size:=λk e=>Q5.lt k e
   have x1:j9 (L.setCell (C T 0 O) (Gn (J (C g 0 O)) 1 gc)) g G:=⟨(aD (C g 0 O) (GN L (C T 0 O) _ g (by show g≠T;omega))).trans Rc,by simpa using QU⟩;have x2:a8 (L.setCell (C T 0 O) (Gn (J (C g 0 O)) 1 gc)) G cD cD 1 nx v:=(QK G Re (by omega)).trans Q6;have x3:db F O w (L.setCell (C T 0 O) (Gn (J (C g 0 O)) 1 gc)):=Rh.setCell (p:=C T 0 O) (G9 QL) _;have x4:(L.setCell (C T 0 O) (Gn (J (C g 0 O)) 1 gc)).ownsRow w.heap.size 88 1 (Gn (J (C g 0 O)) 1 gc) 1 [Gr (J (C G 0 O))]:=by
    refine zA (ai (λk e=>GN L (C T 0 O) _ k ?_) o) (by omega);have e2:g=k:=by simpa[IG]using e
    show k≠T;omega
   refine⟨⟨g,gc,G,v,⟨?_,x1,x2,?_,⟨QL,by omega,by omega⟩,⟨by omega,by omega,by omega⟩,λe=>?_,λe=>?_,Rp⟩,x4⟩,⟨(Gn ea es.length ec),?_⟩,x3⟩
   ·have h2:=ag (o:=0) (Gn (J (C g 0 O)) 1 gc) ((E T (by omega)).trans Q4);unfold sX;simpa using h2
   ·exact fi (ai (λk e=>QK k (QS k e).2 (by have:=(QS k e).1;omega)) Q5) (show w.heap.size<=m.heap.size by omega)
   ·have:=(QS _ e).1;omega
   ·have:=(QS _ e).2;omega
   have Rx:F<T:=QX;rw[Q8.out];exact(QK F (by omega) (by omega)).trans ((Q7.block F Rx).trans RC.out)
  clear o l QW QU Rs E QK r0 rf Rc Q7 QY Rh Q4 Q6 Q5 QP Ro Ra;go_wp2_with fail;exact⟨⟨rfl,G9 ⟨rfl,Rk⟩⟩,by simp[GK]⟩
 go_wp2_with fail;go_ret2;obtain⟨⟨r,c,G,v,h1⟩,h2,h3⟩:=Rb.out;exact⟨⟨T,r,c,G,v,rfl,h1⟩,h2,h3⟩
end
end Go.Proofs.YtlbhikafmckcfaaGreatDoor
