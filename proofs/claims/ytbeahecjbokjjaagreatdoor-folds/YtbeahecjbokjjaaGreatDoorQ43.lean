import Derived.Test.YtbeahecjbokjjaaGreatDoorQ42
set_option maxRecDepth 100000
set_option maxHeartbeats 16000000
namespace Go.Proofs.YtbeahecjbokjjaaGreatDoor
open Go.RowKit Go.Lib
section
variable {role:Nat->Nat} {B:Nat} {d:Dv} {lk:Nat->Bool} {vw:Nat->Option (List ax)} {ms:List ap} {nx:Int} {W:World}
structure pM (c:Nat) (role role':Nat->Nat) (W W':World):Prop where
 os:W'.os=W.os
 tape:W'.tape=W.tape
 output:W'.output=W.output
 same:∀b,b<W.heap.size->role' b=role b
 block:∀b,b<W.heap.size->inR c (role b)∉aY->W'.heap[b]?=W.heap[b]?
 size:W.heap.size<=W'.heap.size
theorem rZ{B7:ByteArray}(h:iC role B d lk vw ms nx W)(c:Nat)(hc:c<3){vw':Option (List ax)}{an:List UInt8}{ac:Nat}{ms':List ap}{nx':Int}
  (hF:∀f:Fs,f.P=d.P->f.o=1+c*16->f.lk=lk c->∃B5:List (List UInt8×(List UInt8->World->Prop)),cR B5=B7.data.toList/\(cR B5).length<=2000/\
   Af (zZ f) B5 (XSt (eg role W c) (W.alloc dK) B f false 0 adZ vw' an ac ms' nx' [])/\
   (∀w,XSt (eg role W c) (W.alloc dK) B f false 0 adZ (vw c) [] 0 ms nx [] w->dw B5 (XSt (eg role W c) (W.alloc dK) B f false 0 adZ vw' an ac ms' nx' []) 0 w)/\
   (∀x∈B5,∀g w,x.2 g w->w.cell? ⟨f.P,f.o+15,none⟩=some (.bool false))) (Cf:an≠[]):
  Calls Tryz.prog 14 #[.pointer (some ⟨d.P,0,none⟩),.int .i64 (c:Int),.string B7] W λe w'=>∃va role',e=.returned (.tuple #[.string ⟨an.toArray⟩,va,.int .i64 0])/\iC role' B d lk (λj=>if j=c then vw' else vw j) ms' nx' w'/\pM c role role' W w':=by
 obtain⟨cs,t1,Cj⟩:=h.start c hc;obtain⟨B5,B9,Cc,hg,h0,B8⟩:=hF (d.fs W.heap.size (1+c*16) (λj=>cs[j]?) (lk c)) rfl rfl rfl;have hb:Below W.heap.size W (W.alloc dK):=aw;have Cd:Stp (λb=>inR c (role b)) (eg role W c) aY W (W.alloc dK):=⟨hb.os,hb.tape,hb.output,hb.size,λb hb=>by unfold eg;rw[if_neg (by omega),if_pos hb],λb Ci _=>hb.block b Ci⟩;have Ch:W.cell? ⟨d.P,1+c*16+15,none⟩=some (.bool false):=by
  obtain⟨Ck,s1,_,s3⟩:=h.tk;obtain⟨gv,vp,k0,k1,k2,k3,k4,k5,k6,_⟩:=s3 c hc;exact ae s1 k6
 have Ca:=zL (I:=dw B5 (XSt (eg role W c) (W.alloc dK) B (d.fs W.heap.size (1+c*16) (λj=>cs[j]?) (lk c)) false 0 adZ vw' an ac ms' nx' [])) (Z:=λw B6 a Ce=>Ce=an/\St B6 B (d.fs W.heap.size (1+c*16) (λj=>cs[j]?) (lk c)) [] false 0 adZ vw' an ac ms' nx' w/\Stp (eg role W c) B6 aY (W.alloc dK) w) (P:=d.P) (B:=B) (W:=W) c hc B7 (by rw[←B9];exact Cc) Ch (alJ.1 t1).1 (h0 _ ⟨_,Cj,Stp.refl _ _ _⟩)
  (λi w hI=>dw.all B5 B8 (λw hF=>hF.c16) i w hI)
  (λi hi w hI=>by
   have Cg:i<(cR B5).length:=by rw[B9];exact hi
   have:=dw.step B5 hg i Cg w hI;simp only[B9]at this;exact this)
  (λw hI=>by
   rw[←B9]at hI;obtain⟨B6,hS,hp⟩:=dw.last B5 w hI;obtain⟨p,v,a,xs,q1,q2,_,_⟩:=hS.ac;obtain⟨aa,ac',rfl,_⟩:=cx q2;exact⟨B6,p,v,_,an,q1,Cf,⟨rfl,hS,hp⟩,aa,_,ac',rfl⟩)
 refine Ca.mono ?_;rintro e w' ⟨w1,B6,a,Ce,⟨rfl,hS,hp⟩,rfl,hq⟩;obtain⟨q1,q2,q3,q4⟩:=hS.rest h hc t1 (Cd.trans hp) hq;have Cb:=Cd.trans hp;exact⟨a,_,rfl,q1,⟨hq.os.trans Cb.os,hq.tape.trans Cb.tape,hq.output.trans Cb.output,q2,q3,q4⟩⟩
end
end Go.Proofs.YtbeahecjbokjjaaGreatDoor
namespace Go.Proofs.YtbeahecjbokjjaaGreatDoor
open Go.RowKit Go.Lib Go.MuLone
section
variable {role:Nat->Nat} {B K:Nat} {d:Dv} {lk:Nat->Bool} {vw:Nat->Option (List ax)} {ms:List ap} {nx q:Int} {W W':World}
theorem iC.kept(h:iC role B d lk vw ms nx W)(hs:Stp role role [12] W W'):iC role B d lk vw ms nx W':=by
 obtain⟨cs,h1,h2,h3⟩:=h.tk;have B5:d.P<W.heap.size:=(alJ.1 h1).1;refine⟨h.bs.kept hs (by simp),⟨cs,(hs.block _ B5 (by rw[h.rP];simp)).trans h1,h2,λc hc=>?_⟩,h.rP,h.fo.kept hs (by simp) (by simp) (by simp) (by simp),h.nr⟩;obtain⟨gv,vp,k0,k1,k2,k3,k4,k5,k6,k7,k8,k9⟩:=h3 c hc;refine⟨gv,vp,k0,k1,k2,k3,k4,k5,k6,au (λb hb=>hs.block b (k7.lt b hb).2 (by rw[k8 b hb];simp;omega)) k7,k8,?_⟩;unfold VwC at k9⊢
 cases hv:vw c with
 |none=>rw[hv]at k9;exact k9
 |some ks=>
  rw[hv]at k9;obtain⟨V,kv,e1,e2,e3,e4,e5⟩:=k9;exact⟨V,kv,e1,(hs.block V e2.cells.2.2.2.2 (by rw[e4];simp;omega)).trans e2,au (λb hb=>hs.block b (e3.lt b hb).2 (by rw[e5 b hb];simp;omega)) e3,e4,e5⟩
structure gj (role:Nat->Nat) (B K:Nat) (d:Dv) (q:Int) (lk:Nat->Bool) (vw:Nat->Option (List ax)) (ms:List ap) (nx:Int) (W:World):Prop where
 srv:j1 W K d.kt q (.pointer (some ⟨d.P,0,none⟩)) 0
 rt:iC role B d lk vw ms nx W
 rK:role K=12
structure ng (c:Nat) (role role':Nat->Nat) (W W':World):Prop where
 os:W'.os=W.os
 tape:W'.tape=W.tape
 output:W'.output=W.output
 same:∀b,b<W.heap.size->role' b=role b
 block:∀b,b<W.heap.size->role b≠12->inR c (role b)∉aY->W'.heap[b]?=W.heap[b]?
 size:W.heap.size<=W'.heap.size
theorem dy{c:Nat}(hc:c<3){vw':Option (List ax)}{an:List UInt8}{ms':List ap}{nx':Int}(h:gj role B K d q lk vw ms nx W)(B6:ByteArray)
  (hF:∀W1,iC role B d lk vw ms nx W1->Calls Tryz.prog 14 #[.pointer (some ⟨d.P,0,none⟩),.int .i64 (c:Int),.string B6] W1 λe w'=>∃va role',e=.returned (.tuple #[.string ⟨an.toArray⟩,va,.int .i64 0])/\iC role' B d lk (λj=>if j=c then vw' else vw j) ms' nx' w'/\pM c role role' W1 w'):
  Calls Tryz.prog 6 #[.pointer (some ⟨K,0,none⟩),.int .i64 (c:Int),.string B6] W λe w'=>∃va role',e=.returned (.tuple #[.string ⟨an.toArray⟩,va,.int .i64 0])/\gj role' B K d q lk (λj=>if j=c then vw' else vw j) ms' nx' w'/\ng c role role' W w':=by
 obtain⟨c0,_,cf,Ce⟩:=h.srv.cells;have Cg:=cf 0;have Ca:iC role B d lk vw ms nx (W.setCell ⟨K,0,none⟩ (.int .i32 1)):=h.rt.kept (dT h.rK);have gF:=hF _ Ca;have B5:=h.srv.set 1;have k3:(W.setCell ⟨K,0,none⟩ (.int .i32 1)).cell? ⟨K,3,none⟩=some (.pointer (some ⟨d.P,0,none⟩)):=by
  unfold j1 at B5;simp[World.cell?,B5]
 have Hh:=hid h;have Ch:=hid B5;clear h hF Ca B5 cf;generalize(⟨an.toArray⟩:ByteArray)=ab at*;go_enter_defers Tryz.func6,Tryz.ntmps6;go_wp2_with(first|(go_at_call 12;refine(lock_free A4 ⟨K,0,none⟩ _ c0 Cg).mono ?_;rintro e w' ⟨rfl,rfl⟩)|(go_at_call 14;refine gF.mono ?_;rintro e w2 ⟨va,role',rfl,hR,Cd⟩;have HR:=hid hR;have B7:=hid Cd;clear hR Cd gF));have B9:(W.setCell ⟨K,0,none⟩ (.int .i32 1)).heap.size=W.heap.size:=by simp
 have B8:j1 w2 K d.kt q (.pointer (some ⟨d.P,0,none⟩)) 1:=(B7.out.block K (by rw[B9];exact Ce) (by rw[Hh.out.rK,jS ⟨by omega,by omega,by omega⟩];decide)).trans Ch.out;refine leaves_cons (f:=13) (args:=#[.pointer (some ⟨K,0,none⟩)]) (by simp) (by simp[go_sem]) ?_;refine(unlock_deferred A4 ⟨K,0,none⟩ .returning _ B8.cells.1 (B8.cells.2.2.1 0)).mono ?_;rintro e u' Ci ⟨rfl,rfl,rfl⟩;have hrK':role' K=12:=(B7.out.same K (by rw[B9];exact Ce)).trans Hh.out.rK;have Cb:∀b,b≠K->(w2.setCell ⟨K,0,none⟩ (.int .i32 0)).heap[b]?=w2.heap[b]?:=λb hb=>alP _ _ _ _ hb
 have Cf:W.heap.size<=w2.heap.size:=by have:=B7.out.size;rw[B9]at this;exact this
 refine⟨_,results_tmp3 rfl _ _ _,va,role',rfl,⟨B8.set 0,HR.out.kept (dT hrK'),hrK'⟩,⟨?_,?_,?_,λb hb=>B7.out.same b (by rw[B9];exact hb),λb h1 h2 h3=>?_,by simpa using Cf⟩⟩
 ·exact((Below.refl 0 w2).setCell (p:=⟨K,0,none⟩) (alT _) (.int .i32 0)).os.trans (B7.out.os.trans ((Below.refl 0 W).setCell (p:=⟨K,0,none⟩) (alT _) (.int .i32 1)).os)
 ·exact((Below.refl 0 w2).setCell (p:=⟨K,0,none⟩) (alT _) (.int .i32 0)).tape.trans (B7.out.tape.trans ((Below.refl 0 W).setCell (p:=⟨K,0,none⟩) (alT _) (.int .i32 1)).tape)
 ·exact((Below.refl 0 w2).setCell (p:=⟨K,0,none⟩) (alT _) (.int .i32 0)).output.trans (B7.out.output.trans ((Below.refl 0 W).setCell (p:=⟨K,0,none⟩) (alT _) (.int .i32 1)).output)
 ·have Cc:b≠K:=λe=>h2 (by rw[e];exact Hh.out.rK)
  exact(Cb b Cc).trans ((B7.out.block b (by rw[B9];exact h1) h3).trans (alP _ _ _ _ Cc))
end
end Go.Proofs.YtbeahecjbokjjaaGreatDoor
namespace Go.Proofs.YtbeahecjbokjjaaGreatDoor
open Go.RowKit Go.Lib
theorem dw.zero_cons(L:List UInt8)(X:List UInt8->World->Prop)(r:List (List UInt8×(List UInt8->World->Prop)))(F:World->Prop):dw ((L,X)::r) F 0=X []:=by
 funext w
 show(if 0<=L.length then X (L.take 0) w else _)=_;rw[if_pos (alT _),List.take_zero]
theorem dw.zero_nil(F:World->Prop):dw [] F 0=F:=by
 funext w
 show(0=0/\F w)=F w;simp
section
variable {role:Nat->Nat} {B:Nat} {d:Dv} {lk:Nat->Bool} {vw:Nat->Option (List ax)} {ms:List ap} {nx:Int} {W:World}
theorem dG(h:iC role B d lk vw ms nx W)(c:Nat)(hc:c<3)(L:List UInt8)(hL:L.length<=80)(Ca:∀b∈L,b≠10){vw':Option (List ax)}{an:List UInt8}{ac:Nat}{ms':List ap}{nx':Int}(B7:an≠[])
  (hN:∀(f:Fs) (B5:Nat->Nat) (w:World),f.lk=lk c->St B5 B f L false 0 adZ (vw c) [] 0 ms nx w->Nl f w λw'=>∃role',St role' B f [] false 0 adZ vw' an ac ms' nx' w'/\Stp B5 role' aY w w') (B6:ByteArray) (B9:B6.data.toList=L++[10]):
  Calls Tryz.prog 14 #[.pointer (some ⟨d.P,0,none⟩),.int .i64 (c:Int),.string B6] W λe w'=>∃va role',e=.returned (.tuple #[.string ⟨an.toArray⟩,va,.int .i64 0])/\iC role' B d lk (λj=>if j=c then vw' else vw j) ms' nx' w'/\pM c role role' W w':=by
 refine rZ (ac:=ac) h c hc (λf hP ho B8=>⟨[(L,XSt (eg role W c) (W.alloc dK) B f false 0 adZ (vw c) [] 0 ms nx)],by rw[B9];simp[cR],by simp[cR];omega,?_,?_,?_⟩) B7
 ·refine⟨λi hi w hX=>XSt.byte L (Or.inr ⟨rfl,hL,Ca⟩) (by omega) i hi w hX,λw hX=>?_,trivial⟩;rw[dw.zero_nil];exact hX.nl λB5 w hS=>hN f B5 w B8 hS
 ·intro w hX;rw[dw.zero_cons];exact hX
 ·intro x hx g w hX;simp only[List.mem_cons,List.not_mem_nil,or_false]at hx;subst hx;exact XSt.c16 (f:=f) hX
theorem tP(h:iC role B d lk vw ms nx W)(c:Nat)(hc:c<3)(L T:List UInt8)(hL:L.length<=80)(Cb:∀b∈L,b≠10)(hT:T.length<=40)(tag me:ByteArray){vw':Option (List ax)}{an:List UInt8}{ac:Nat}{ms':List ap}{nx':Int}(B8:an≠[])
  (hN:∀(f:Fs) (B5:Nat->Nat) (w:World),f.lk=lk c->St B5 B f L false 0 adZ (vw c) [] 0 ms nx w->Nl f w λw'=>∃role',St role' B f [] true (T.length:Int) (adL tag me (T.length:Int)) (vw c) [43,10] 0 ms nx w'/\Stp B5 role' aY w w')
  (Ca:∀(f:Fs) (B5:Nat->Nat) (w:World),f.lk=lk c->St B5 B f T true (T.length:Int) (adL tag me (T.length:Int)) (vw c) [43,10] 0 ms nx w->Nl f w λw'=>∃role',St role' B f [] false 0 adZ vw' an ac ms' nx' w'/\Stp B5 role' aY w w') (B6:ByteArray) (B9:B6.data.toList=L++[10]++(T++[10])):
  Calls Tryz.prog 14 #[.pointer (some ⟨d.P,0,none⟩),.int .i64 (c:Int),.string B6] W λe w'=>∃va role',e=.returned (.tuple #[.string ⟨an.toArray⟩,va,.int .i64 0])/\iC role' B d lk (λj=>if j=c then vw' else vw j) ms' nx' w'/\pM c role role' W w':=by
 refine rZ (ac:=ac) h c hc (λf hP ho B7=>⟨[(L,XSt (eg role W c) (W.alloc dK) B f false 0 adZ (vw c) [] 0 ms nx),(T,XSt (eg role W c) (W.alloc dK) B f true (T.length:Int) (adL tag me (T.length:Int)) (vw c) [43,10] 0 ms nx)],by rw[B9];simp[cR],by simp[cR];omega,?_,?_,?_⟩) B8
 ·refine⟨λi hi w hX=>XSt.byte L (Or.inr ⟨rfl,hL,Cb⟩) (by omega) i hi w hX,λw hX=>?_,λi hi w hX=>XSt.byte T (Or.inl ⟨rfl,rfl⟩) (by omega) i hi w hX,λw hX=>?_,trivial⟩
  ·rw[dw.zero_cons];exact hX.nl λB5 w hS=>hN f B5 w B7 hS
  ·rw[dw.zero_nil];exact hX.nl λB5 w hS=>Ca f B5 w B7 hS
 ·intro w hX;rw[dw.zero_cons];exact hX
 ·intro x hx g w hX;simp only[List.mem_cons,List.not_mem_nil,or_false]at hx
  rcases hx with rfl|rfl
  ·exact XSt.c16 (f:=f) hX
  ·exact XSt.c16 (f:=f) hX
end
def vs (wd S2 A2:List UInt8):List UInt8:=[98]++32::(wd++32::(S2++32::A2))
theorem oR{wd S2 A2:List UInt8}(h1:∀b∈wd,b≠32)(h2:∀b∈S2,b≠32)(h3:∀b∈A2,b≠32):Mb.splitC 32 (vs wd S2 A2)=[[98],wd,S2,A2]:=by
 unfold vs;rw[Mb.splitC_app 32 _ _ (by decide),Mb.splitC_app 32 _ _ h1,Mb.splitC_app 32 _ _ h2,Mb.splitC_free 32 _ h3]
theorem qY{wd S2 A2:List UInt8}(h:wd.length+S2.length+A2.length<=900):(⟨(vs wd S2 A2).toArray⟩:ByteArray).size<=1000:=by
 rw[Lib.size_eq];simp[vs];omega
section
variable {role role':Nat->Nat} {S:List Nat} {B:Nat} {W W':World} {f:Fs} {g:List UInt8} {tx:Bool} {z:Int} {ad:Array Value} {vw:Option (List ax)} {an:List UInt8} {ac:Nat} {ms:List ap} {nx:Int}
theorem xL{ks:List ax}(p:Nat)(Cc:1<=p)(B9:p<=99)(h:St role B f (vs [71,69,84] (Lib.itoa (p:Int)++[58,42]) [70]) false z ad (some ks) an ac ms nx W)(Ca:aP ms nx)(hl:ks.length+ms.length<=1000)(Cf:p<=ks.length)(B5:(an++bV [70] (aA (p-1) ks.length (ar ks ms))).length+(aS 1 ms (some ks)).length<=700000):
  Nl f W λw'=>∃role',St role' B f [] false 0 ad (bQ 1 ms (some ks)) ((an++bV [70] (aA (p-1) ks.length (ar ks ms)))++aS 1 ms (some ks)++[98,32,79,75,10]) ac ms nx w'/\Stp role role' aY W w':=by
 obtain⟨Cg,Ch⟩:=cW p B9;refine dV (ok:=true) (Q:=λs k w=>(∃g c,s=.slice (some ⟨g,0,none⟩) 1 c/\cX w g (p:Int) 0)/\k=.slice none 0 0) h ⟨#[98]⟩ 8 1 ⟨#[]⟩ ⟨#[]⟩ ⟨#[70]⟩ rfl (by decide) (λW1 hE hR=>?_) ?_ hl (λm hm=>by have:=(Ca.fl m hm).2;omega) (by decide) B5
 ·refine(n6 98 (by decide) (by decide) (Lib.itoa (p:Int)++[58,42]) (by simp) (p:Int) 0 _ (qY (by simp;omega)) W1 hE hR (λw1 Ce=>lD p Cc B9 _ (by simp) w1 Ce) (by simpa using oR (by decide) (kp p) (by decide))).mono ?_;rintro e w' ⟨⟨g,sc,rfl,_,hs⟩,hb⟩;exact⟨some ⟨g,0,none⟩,1,sc,none,0,0,rfl,⟨⟨g,sc,rfl,hs⟩,rfl⟩,hb⟩
 ·intro sa sn sc ka kn kc w1 W3 B6 hQ hb h3;obtain⟨⟨g,c,e1,hs⟩,e2⟩:=hQ;injection e1 with e1 e3 e4
  injection e2 with e2 e5 e6
  subst e1 e2 e3 e4 e5 e6;have B8:=hs.kept (hb.block g hs.lt);refine sh h3 ⟨#[98]⟩ ⟨#[]⟩ ⟨#[]⟩ ⟨#[70]⟩ λV W1 B7 hv h1 Cd=>?_
  have Cb:=B8.kept (Cd.block g B8.lt);exact(h1.get (lo:=p-1) (hi:=ks.length) hv Ca (by omega) Cb (by omega) (by simp) (by omega) (alU) ⟨#[98]⟩ (by simp at B5⊢;omega)).mono λe w' ⟨he,role',h4,h5⟩=>⟨he,role',h4,h5.mono (by decide)⟩
theorem vC(p:Nat)(Ca:1<=p)(B8:p<=99)(h:St role B f (vs [71,69,84] (Lib.itoa (p:Int)++[58,42]) [70]) false z ad (some []) an ac ms nx W)(B9:aP ms nx)(B5:an.length+(aS 1 ms (some [])).length<=700000):
  Nl f W λw'=>∃role',St role' B f [] false 0 ad (bQ 1 ms (some [])) (an++aS 1 ms (some [])++[98,32,78,79,10]) ac ms nx w'/\Stp role role' aY W w':=by
 obtain⟨Cd,Ce⟩:=cW p B8;refine dV (ok:=false) (Q:=λs k w=>(∃g c,s=.slice (some ⟨g,0,none⟩) 1 c/\cX w g (p:Int) 0)/\k=.slice none 0 0) h ⟨#[98]⟩ 8 1 ⟨#[]⟩ ⟨#[]⟩ ⟨#[70]⟩ rfl (by decide) (λW1 hE hR=>?_) ?_ (by have:=B9.len;simp;omega) (λm hm=>by have:=(B9.fl m hm).2;omega) (by decide) B5
 ·refine(n6 98 (by decide) (by decide) (Lib.itoa (p:Int)++[58,42]) (by simp) (p:Int) 0 _ (qY (by simp;omega)) W1 hE hR (λw1 Cb=>lD p Ca B8 _ (by simp) w1 Cb) (by simpa using oR (by decide) (kp p) (by decide))).mono ?_;rintro e w' ⟨⟨g,sc,rfl,_,hs⟩,hb⟩;exact⟨some ⟨g,0,none⟩,1,sc,none,0,0,rfl,⟨⟨g,sc,rfl,hs⟩,rfl⟩,hb⟩
 ·intro sa sn sc ka kn kc w1 W3 B6 hQ hb h3;obtain⟨⟨g,c,e1,hs⟩,e2⟩:=hQ;injection e1 with e1 e3 e4
  injection e2 with e2 e5 e6
  subst e1 e2 e3 e4 e5 e6;have Cc:=hs.kept (hb.block g hs.lt);refine sh h3 ⟨#[98]⟩ ⟨#[]⟩ ⟨#[]⟩ ⟨#[70]⟩ λV W1 B7 hv h1 Cf=>?_
  exact(h1.getNone (sg:=g) (sc:=sc) hv ⟨#[98]⟩).mono λe w' ⟨he,role',h4,h5⟩=>⟨he,role',h4,h5.mono (by decide)⟩
end
section
variable {role:Nat->Nat} {B K:Nat} {d:Dv} {lk:Nat->Bool} {vw:Nat->Option (List ax)} {ms:List ap} {nx q:Int} {W:World} {c:Nat} {ks:List ax} {fl:List (List UInt8)}
def qD (role:Nat->Nat) (B K:Nat) (d:Dv) (q:Int) (lk:Nat->Bool) (vw:Nat->Option (List ax)) (W:World) (c:Nat) (chunk:ByteArray) (an:List UInt8) (vw':Option (List ax)) (ms':List ap) (nx':Int):Prop:=
 Calls Tryz.prog 6 #[.pointer (some ⟨K,0,none⟩),.int .i64 (c:Int),.string chunk] W λe w'=>∃va role',e=.returned (.tuple #[.string ⟨an.toArray⟩,va,.int .i64 0])/\gj role' B K d q lk (λj=>if j=c then vw' else vw j) ms' nx' w'/\ng c role role' W w'
def MvO (role:Nat->Nat) (B K:Nat) (d:Dv) (q:Int) (lk:Nat->Bool) (vw:Nat->Option (List ax)) (ms:List ap) (nx:Int) (W:World) (c:Nat) (fl:List (List UInt8)) (gn:Bool) (chunk:ByteArray):Prop:=
 ∃an ks' ms' nx' fl',kA gn fl fl' an/\cK [] fl' ks'/\aP ms' nx'/\bw ks' ms' nx'/\(∀ks2,bw ks2 ms nx->bw ks2 ms' nx')/\qD role B K d q lk vw W c chunk an (some ks') ms' nx'
theorem wn(h:gj role B K d q lk vw ms nx W)(hc:c<3)(Ca:vw c=some ks)(B7:aP ms nx)(hv:bw ks ms nx)(ha:cK [] fl ks)(B5:ByteArray)(Cb:B5.data.toList=mQ++[10]):
  ∃an B6 B8,kA true fl B8 an/\cK [] B8 B6/\bw B6 ms nx/\(∀(k:ax) (m:ap),k∈B6->aG k.uid ms=some m->k.told=m.flags)/\B6.map (·.uid)=ms.map (·.uid)/\qD role B K d q lk vw W c B5 an (some B6) ms nx:=by
 have Cc:=hv.len B7;have h8:=B7.len;obtain⟨B8,B6,e1,t1,t2,t3,t4,t5⟩:=cv 2 (Or.inr rfl) true (λ_=>rfl) B7 hv (ha.mono (ms':=ms)) (.nil fl) (by simp) [97,32,79,75] (by decide) (by decide);have hl:=t1.len (by rw[ha.1];omega);refine⟨_,B6,B8,t1,t2,t3,t4,t5 rfl,dy hc h B5 λW1 h1=>?_⟩;refine dG (ac:=0) h1 c hc mQ (by decide) (by decide) hl.2 (λf B9 w _ hS=>?_) B5 Cb;rw[Ca]at hS;have:=xJ hS B7 (by omega) (by have:=hl.1;simp[aN]at this⊢;omega);rw[e1]at this;exact this
theorem MvO.of_noop(h:gj role B K d q lk vw ms nx W)(hc:c<3)(B8:vw c=some ks)(B6:aP ms nx)(hv:bw ks ms nx)(ha:cK [] fl ks)(B5:ByteArray)(B9:B5.data.toList=mQ++[10]):MvO role B K d q lk vw ms nx W c fl true B5:=by
 obtain⟨an,B7,Ca,t1,t2,t3,_,_,t6⟩:=wn h hc B8 B6 hv ha B5 B9;exact⟨an,B7,ms,nx,Ca,t1,t2,B6,t3,λ_ h=>h,t6⟩
theorem zg(h:gj role B K d q lk vw ms nx W)(hc:c<3)(Cc:lk c=false)(Cb:vw c=some ks)(B7:aP ms nx)(hv:bw ks ms nx)(ha:cK [] fl ks)(B5:ByteArray)(Cd:B5.data.toList=lV++[10]):MvO role B K d q lk vw ms nx W c fl true B5:=by
 have Cf:=hv.len B7;have h8:=B7.len;have B6:∀B8,bw B8 ms nx->bw B8 (cr ms) nx:=λB8 h2=>h2.sub λm hm=>List.mem_map.2 ⟨m,(List.mem_filter.1 hm).1,rfl⟩
 obtain⟨Ce,Ca,e1,t1,t2,t3,_,_⟩:=cv 2 (Or.inr rfl) true (λ_=>rfl) B7.stay (B6 ks hv) (ha.mono (ms':=cr ms)) (.nil fl) (by simp) [97,32,79,75] (by decide) (by decide);have hl:=t1.len (by rw[ha.1];omega);refine⟨_,Ca,cr ms,nx,Ce,t1,t2,B7.stay,t3,B6,dy hc h B5 λW1 h1=>?_⟩;refine dG (ac:=0+200) h1 c hc lV (by decide) (by decide) hl.2 (λf B9 w hf hS=>?_) B5 Cd;rw[Cb]at hS;have:=vz hS (hf.trans Cc) B7 (by omega) (by omega) (by have:=hl.1;simp[aN]at this⊢;omega);rw[e1]at this;exact this
theorem Ax(h:gj role B K d q lk vw ms nx W)(hc:c<3)(B9:vw c=some ks)(B6:aP ms nx)(hv:bw ks ms nx)(ha:cK [] fl ks)(B5:ByteArray)(Cb:B5.data.toList=oP++[10]):MvO role B K d q lk vw ms nx W c fl false B5:=by
 have Ca:=hv.len B6;have h8:=B6.len;obtain⟨Cc,B8,e1,t1,t2,t3,_,_⟩:=cv 1 (Or.inl rfl) false (λe=>by cases e) B6 hv (ha.mono (ms':=ms)) (.cons (sM false (ms:=ms) ha.1 Ca) (.nil fl)) (by simp) [97,32,79,75] (by decide) (by decide);have hl:=t1.len (by rw[ha.1];omega);refine⟨_,B8,ms,nx,Cc,t1,t2,B6,t3,λ_ h=>h,dy hc h B5 λW1 h1=>?_⟩;refine dG (ac:=0) h1 c hc oP (by decide) (by decide) hl.2 (λf B7 w _ hS=>?_) B5 Cb;rw[B9]at hS;have:=xN hS B6 (by omega) (by have:=hl.1;simp[aN]at this⊢;omega);rw[e1]at this;simpa[aN]using this
theorem lW{wd S2 A2:List UInt8}(h1:∀b∈wd,b≠10)(h2:∀b∈S2,b≠10)(h3:∀b∈A2,b≠10):∀b∈ln3 wd S2 A2,b≠10:=λb hb=>by
 simp only[ln3,List.mem_append,List.mem_cons,List.not_mem_nil,or_false]at hb
 rcases hb with hb|hb|hb|hb|hb|hb|hb
 ·subst hb;decide
 ·subst hb;decide
 ·exact h1 b hb
 ·subst hb;decide
 ·exact h2 b hb
 ·subst hb;decide
 ·exact h3 b hb
theorem xW(p:Nat):∀b∈Lib.itoa (p:Int)++[58,42],b≠10:=λb hb=>by
 rcases List.mem_append.1 hb with hb|hb
 ·exact Mb.itoa_ne10 _ (by omega) b hb
 ·exact(by decide:∀x∈([58,42]:List UInt8),x≠10) b hb
theorem Bp(h:gj role B K d q lk vw ms nx W)(hc:c<3)(Cc:vw c=some ks)(B6:aP ms nx)(hv:bw ks ms nx)(ha:cK [] fl ks)(p:Nat)(Cd:1<=p)(hp:p<=ks.length∨p=1/\ks=[])(B5:ByteArray)(Ce:B5.data.toList=ln3 [71,69,84] (Lib.itoa (p:Int)) [70]++[10]):MvO role B K d q lk vw ms nx W c fl false B5:=by
 have Cg:=hv.len B6;have h8:=B6.len;have B9:p<=99:=by omega
 have Ci:=cW p B9;have hL:(ln3 [71,69,84] (Lib.itoa (p:Int)) [70]).length<=80:=by simp[ln3];omega
 have Cf:=lW (wd:=[71,69,84]) (A2:=[70]) (by decide) (Mb.itoa_ne10 (p:Int) (by omega)) (by decide)
 rcases hp with hp|⟨hp,Ca⟩
 ·obtain⟨f1,r1,r2⟩:=mE false B6.fl (aA (p-1) p (ar ks ms)) fl (λx hx=>j4 (List.mem_filter.1 hx).1) (ha.mono (ms':=ms));have Ch:(aA (p-1) p (ar ks ms)).length<=99:=alS (List.length_filter_le _ _) (alS (cA ks ms) Cg);obtain⟨Cb,B8,e1,t1,t2,t3,_,_⟩:=cv 1 (Or.inl rfl) false (λe=>by cases e) B6 hv r2 r1 (by simp;omega) [97,32,79,75] (by decide) (by decide);rw[←pB]at t1;have hl:=t1.len (by rw[ha.1];omega);refine⟨_,B8,ms,nx,Cb,t1,t2,B6,t3,λ_ h=>h,dy hc h B5 λW1 h1=>?_⟩;refine dG (ac:=0) h1 c hc _ hL Cf hl.2 (λf B7 w _ hS=>?_) B5 Ce;rw[Cc]at hS;have:=zp p Cd B9 hS B6 (by omega) hp (by have:=hl.1;simp at this⊢;omega);rw[e1]at this;exact this
 ·subst Ca;obtain⟨Cb,B8,e1,t1,t2,t3,_,_⟩:=cv 1 (Or.inl rfl) false (λe=>by cases e) B6 hv (ha.mono (ms':=ms)) (.nil fl) (by simp) [97,32,78,79] (by decide) (by decide);have hl:=t1.len (by rw[ha.1];omega);refine⟨_,B8,ms,nx,Cb,t1,t2,B6,t3,λ_ h=>h,dy hc h B5 λW1 h1=>?_⟩;refine dG (ac:=0) h1 c hc _ hL Cf hl.2 (λf B7 w _ hS=>?_) B5 Ce;rw[Cc]at hS;have:=xM p Cd B9 hS B6 (by have:=hl.1;simp[aN]at this⊢;omega);rw[e1]at this;exact this
theorem yT{F:List UInt8->List UInt8}(hF:∀f,Mb.flagsOk f=true->Mb.flagsOk (F f)=true/\(F f).length<=4)(B5:aP ms nx)(lo hi:Nat):aP (bA (((aA lo hi (ar ks ms)).map (·.m)).map (ch F)) ms) nx:=by
 refine B5.setFs _ λx hx=>?_
 obtain⟨m,hm,rfl⟩:=List.mem_map.1 hx;obtain⟨p,hp,rfl⟩:=List.mem_map.1 hm;have B6:=(fX ks ms p (List.mem_filter.1 hp).1).2.2;exact hF _ (B5.fl _ B6).1
theorem Aw(h:gj role B K d q lk vw ms nx W)(hc:c<3)(Ci:lk c=false)(Ce:vw c=some ks)(B6:aP ms nx)(hv:bw ks ms nx)(ha:cK [] fl ks)(p:Nat)(Cf:1<=p)(hp:p<=ks.length∨p=1/\ks=[])(B5:ByteArray)(Cg:B5.data.toList=ln3 [80,76,85,83] (Lib.itoa (p:Int)) [100]++[10]):MvO role B K d q lk vw ms nx W c fl false B5:=by
 have Cj:=hv.len B6;have h8:=B6.len;have Cb:p<=99:=by omega
 have Ck:=cW p Cb;have hL:(ln3 [80,76,85,83] (Lib.itoa (p:Int)) [100]).length<=80:=by simp[ln3];omega
 have Ch:=lW (wd:=[80,76,85,83]) (A2:=[100]) (by decide) (Mb.itoa_ne10 (p:Int) (by omega)) (by decide)
 rcases hp with hp|⟨hp,Cc⟩
 ·have hG:=yT (ks:=ks) (F:=λs=>bv s [100]) (λf hf=>pt hf) B6 (p-1) p;have B8:∀B9,bw B9 ms nx->bw B9 (bA (((aA (p-1) p (ar ks ms)).map (·.m)).map (ch λs=>bv s [100])) ms) nx:=λB9 h2=>h2.setFs _
  obtain⟨Cd,Ca,e1,t1,t2,t3,_,_⟩:=cv 1 (Or.inl rfl) false (λe=>by cases e) hG (B8 ks hv) ha.mono (.nil fl) (by simp) [97,32,79,75] (by decide) (by decide);have hl:=t1.len (by rw[ha.1];omega);refine⟨_,Ca,_,nx,Cd,t1,t2,hG,t3,B8,dy hc h B5 λW1 h1=>?_⟩;refine dG (ac:=0+5) h1 c hc _ hL Ch hl.2 (λf B7 w hf hS=>?_) B5 Cg;rw[Ce]at hS;have:=xI p Cf Cb hS B6 (by omega) (hf.trans Ci) (by omega) hp (λm hm=>pt (B6.fl m hm).1) hG (by have:=hl.1;simp[aN]at this⊢;omega);rw[e1]at this;exact this
 ·subst Cc;obtain⟨Cd,Ca,e1,t1,t2,t3,_,_⟩:=cv 1 (Or.inl rfl) false (λe=>by cases e) B6 hv (ha.mono (ms':=ms)) (.nil fl) (by simp) [97,32,78,79] (by decide) (by decide);have hl:=t1.len (by rw[ha.1];omega);refine⟨_,Ca,ms,nx,Cd,t1,t2,B6,t3,λ_ h=>h,dy hc h B5 λW1 h1=>?_⟩;refine dG (ac:=0) h1 c hc _ hL Ch hl.2 (λf B7 w _ hS=>?_) B5 Cg;rw[Ce]at hS;have:=vA p Cf Cb hS B6 (by have:=hl.1;simp[aN]at this⊢;omega);rw[e1]at this;exact this
theorem zh(h:gj role B K d q lk vw ms nx W)(hc:c<3)(Ci:lk c=false)(Ce:vw c=some ks)(B6:aP ms nx)(hv:bw ks ms nx)(ha:cK [] fl ks)(p:Nat)(Cf:1<=p)(hp:p<=ks.length∨p=1/\ks=[])(B5:ByteArray)(Cg:B5.data.toList=ln3 [77,73,78,85,83] (Lib.itoa (p:Int)++[58,42]) [100,102]++[10]):MvO role B K d q lk vw ms nx W c fl false B5:=by
 have Cj:=hv.len B6;have h8:=B6.len;have Cb:p<=99:=by omega
 have Ck:=cW p Cb;have hL:(ln3 [77,73,78,85,83] (Lib.itoa (p:Int)++[58,42]) [100,102]).length<=80:=by simp[ln3];omega
 have Ch:=lW (wd:=[77,73,78,85,83]) (A2:=[100,102]) (by decide) (xW p) (by decide)
 rcases hp with hp|⟨hp,Cc⟩
 ·have hG:=yT (ks:=ks) (F:=λs=>aX s [100,102]) (λf hf=>nH hf) B6 (p-1) ks.length;have B8:∀B9,bw B9 ms nx->bw B9 (bA (((aA (p-1) ks.length (ar ks ms)).map (·.m)).map (ch λs=>aX s [100,102])) ms) nx:=λB9 h2=>h2.setFs _
  obtain⟨Cd,Ca,e1,t1,t2,t3,_,_⟩:=cv 1 (Or.inl rfl) false (λe=>by cases e) hG (B8 ks hv) ha.mono (.nil fl) (by simp) [97,32,79,75] (by decide) (by decide);have hl:=t1.len (by rw[ha.1];omega);refine⟨_,Ca,_,nx,Cd,t1,t2,hG,t3,B8,dy hc h B5 λW1 h1=>?_⟩;refine dG (ac:=0+5) h1 c hc _ hL Ch hl.2 (λf B7 w hf hS=>?_) B5 Cg;rw[Ce]at hS;have:=vB p Cf Cb hS B6 (by omega) (hf.trans Ci) (by omega) hp (λm hm=>nH (B6.fl m hm).1) hG (by have:=hl.1;simp[aN]at this⊢;omega);rw[e1]at this;exact this
 ·subst Cc;obtain⟨Cd,Ca,e1,t1,t2,t3,_,_⟩:=cv 1 (Or.inl rfl) false (λe=>by cases e) B6 hv (ha.mono (ms':=ms)) (.nil fl) (by simp) [97,32,78,79] (by decide) (by decide);have hl:=t1.len (by rw[ha.1];omega);refine⟨_,Ca,ms,nx,Cd,t1,t2,B6,t3,λ_ h=>h,dy hc h B5 λW1 h1=>?_⟩;refine dG (ac:=0) h1 c hc _ hL Ch hl.2 (λf B7 w _ hS=>?_) B5 Cg;rw[Ce]at hS;have:=tu p Cf Cb hS B6 (by have:=hl.1;simp[aN]at this⊢;omega);rw[e1]at this;exact this
theorem qI(ms:List ap):∀(ks:List ax) (n:Nat),(((ks.zipIdx n).filterMap λp=>(aG p.1.uid ms).map λm=>(⟨(p.2:Int)+1,m⟩:cw)).Pairwise λx y=>x.place<y.place)/\∀p∈(ks.zipIdx n).filterMap λp=>(aG p.1.uid ms).map λm=>(⟨(p.2:Int)+1,m⟩:cw),(n:Int)<p.place
 |[],n=>by simp
 |k::r,n=>by
  obtain⟨h1,h2⟩:=qI ms r (n+1);rw[List.zipIdx_cons,List.filterMap_cons]
  cases aG k.uid ms with
  |none=>exact⟨h1,λp hp=>by have:=h2 p hp;omega⟩
  |some m=>
   refine⟨List.pairwise_cons.2 ⟨λp hp=>by have:=h2 p hp;simp only;omega,h1⟩,λp hp=>?_⟩
   rcases List.mem_cons.1 hp with e|e
   ·subst e;simp only;omega
   ·have:=h2 p e;omega
theorem xz(p:Nat)(hp:1<=p)(ks:List ax)(ms:List ap):aA (p-1) p (ar ks ms)=[]∨∃x,aA (p-1) p (ar ks ms)=[x]/\x.m∈ms:=by
 have hr:(aA (p-1) p (ar ks ms)).Pairwise λx y=>x.place<y.place:=((qI ms ks 0).1).sublist List.filter_sublist
 have hm:∀x∈aA (p-1) p (ar ks ms),x.place=(p:Int)/\x.m∈ms:=λx hx=>by
  obtain⟨h1,h2⟩:=List.mem_filter.1 hx;simp only[decide_eq_true_eq]at h2;exact⟨by omega,(fX ks ms x h1).2.2⟩
 generalize aA (p-1) p (ar ks ms)=l at*
 match l with
 |[]=>exact Or.inl rfl
 |[x]=>exact Or.inr ⟨x,rfl,(hm x (by simp)).2⟩
 |x::y::r=>
  have h1:=(List.pairwise_cons.1 hr).1 y (by simp);have h2:=(hm x (by simp)).1;have h3:=(hm y (by simp)).1;omega
theorem Ay(h:gj role B K d q lk vw ms nx W)(hc:c<3)(Ce:vw c=some ks)(B6:aP ms nx)(hv:bw ks ms nx)(ha:cK [] fl ks)(p:Nat)(Cc:1<=p)(hp:p<=ks.length∨p=1/\ks=[])(B5:ByteArray)(Cf:B5.data.toList=ln3 [67,79,80,89] (Lib.itoa (p:Int)) [105,110]++[10]):MvO role B K d q lk vw ms nx W c fl true B5:=by
 have Co:=hv.len B6;have h8:=B6.len;have Cr:=B6.hi;have Cb:p<=99:=by omega
 have Cp:=cW p Cb;have hL:(ln3 [67,79,80,89] (Lib.itoa (p:Int)) [105,110]).length<=80:=by simp[ln3];omega
 have Cg:=lW (wd:=[67,79,80,89]) (A2:=[105,110]) (by decide) (Mb.itoa_ne10 (p:Int) (by omega)) (by decide)
 rcases hp with hp|⟨hp,Ci⟩
 ·rcases xz p Cc ks ms with hM|⟨x,hM,hx⟩
  ·obtain⟨B9,B8,e1,t1,t2,t3,_,_⟩:=cv 2 (Or.inr rfl) true (λ_=>rfl) B6 hv (ha.mono (ms':=ms)) (.nil fl) (by simp) [97,32,79,75] (by decide) (by decide);have hl:=t1.len (by rw[ha.1];omega);refine⟨_,B8,ms,nx,B9,t1,t2,B6,t3,λ_ h=>h,dy hc h B5 λW1 h1=>?_⟩;refine dG (ac:=0+10) h1 c hc _ hL Cg hl.2 (λf B7 w _ hS=>?_) B5 Cf;rw[Ce]at hS;have:=p6 p Cc Cb hS B6 (by omega) (by omega) hp hM (by have:=hl.1;simp[aN]at this⊢;omega);rw[e1]at this;exact this
  ·by_cases Cd:ms.length=8∨nx=100
   ·obtain⟨B9,B8,e1,t1,t2,t3,_,_⟩:=cv 2 (Or.inr rfl) true (λ_=>rfl) B6 hv (ha.mono (ms':=ms)) (.nil fl) (by simp) [97,32,78,79] (by decide) (by decide);have hl:=t1.len (by rw[ha.1];omega);refine⟨_,B8,ms,nx,B9,t1,t2,B6,t3,λ_ h=>h,dy hc h B5 λW1 h1=>?_⟩;refine dG (ac:=0+10) h1 c hc _ hL Cg hl.2 (λf B7 w _ hS=>?_) B5 Cf;rw[Ce]at hS;have:=p7 p Cc Cb hS B6 (by omega) (by omega) hp x hM Cd (by have:=hl.1;simp[aN]at this⊢;omega);rw[e1]at this;exact this
   ·have hn:ms.length<8:=by omega
    have Ck:nx<=99:=by omega
    obtain⟨k,Cn,Cm,Cj,Cl⟩:=pE ms hn;have hG:=B6.snoc hn Ck k Cn Cm Cl x.m.flags x.m.text (B6.fl _ hx) (B6.came _ hx).2;have Ca:∀Ch,bw Ch ms nx->bw Ch (ms++[⟨(k:Int),nx,x.m.flags,x.m.flags,x.m.text⟩]) (nx+1):=λCh h2=>h2.snoc _ rfl
    obtain⟨B9,B8,e1,t1,t2,t3,_,_⟩:=cv 2 (Or.inr rfl) true (λ_=>rfl) hG (Ca ks hv) ha.mono (.nil fl) (by simp) [97,32,79,75] (by decide) (by decide);have hl:=t1.len (by rw[ha.1];omega);refine⟨_,B8,_,_,B9,t1,t2,hG,t3,Ca,dy hc h B5 λW1 h1=>?_⟩;refine dG (ac:=0+10) h1 c hc _ hL Cg hl.2 (λf B7 w _ hS=>?_) B5 Cf;rw[Ce]at hS;have:=rR p Cc Cb hS B6 (by omega) (by omega) hp x hM hx hn Ck k Cn Cm Cj Cl (by have:=hl.1;simp[aN]at this⊢;omega);rw[e1]at this;exact this
 ·subst Ci;obtain⟨B9,B8,e1,t1,t2,t3,_,_⟩:=cv 2 (Or.inr rfl) true (λ_=>rfl) B6 hv (ha.mono (ms':=ms)) (.nil fl) (by simp) [97,32,78,79] (by decide) (by decide);have hl:=t1.len (by rw[ha.1];omega);refine⟨_,B8,ms,nx,B9,t1,t2,B6,t3,λ_ h=>h,dy hc h B5 λW1 h1=>?_⟩;refine dG (ac:=0) h1 c hc _ hL Cg hl.2 (λf B7 w _ hS=>?_) B5 Cf;rw[Ce]at hS;have:=vD p Cc Cb hS B6 (by have:=hl.1;simp[aN]at this⊢;omega);rw[e1]at this;exact this
def oQ:List UInt8:=[97,32,65,68,68,32,105,110,32,102,32,50]
theorem Br(h:gj role B K d q lk vw ms nx W)(hc:c<3)(Cf:vw c=some ks)(B7:aP ms nx)(hv:bw ks ms nx)(ha:cK [] fl ks)(B5:ByteArray)(Cj:B5.data.toList=oQ++[10]++([104,105]++[10])):MvO role B K d q lk vw ms nx W c fl true B5:=by
 have Cl:=hv.len B7;have h8:=B7.len;have Cm:=B7.hi;have hM:∀w1,Calls Tryz.prog 204 #[.string ⟨#[102]⟩] w1 λe w'=>e=.returned (.string ⟨#[102]⟩)/\Below w1.heap.size w1 w':=λw1=>fA ⟨#[102]⟩ w1 (by decide)
 have Ck:∀w1,Calls Tryz.prog 107 #[.string ⟨#[102]⟩] w1 λe w'=>e=.returned (.bool true)/\w'=w1:=λw1=>fD ⟨#[102]⟩ w1 (by decide)
 have hN:∀(f:Fs) (B6:Nat->Nat) (w:World),f.lk=lk c->St B6 B f oQ false 0 adZ (vw c) [] 0 ms nx w->Nl f w λw'=>∃role',St role' B f [] true (([104,105]:List UInt8).length:Int) (adL ⟨#[97]⟩ ⟨#[102]⟩ (([104,105]:List UInt8).length:Int)) (vw c) [43,10] 0 ms nx w'/\Stp B6 role' aY w w':=λf B6 w _ hS=>oS 97 (by decide) (by decide) ⟨#[102]⟩ ⟨#[102]⟩ (by decide) hM Ck 2 (by decide) (by decide) (by decide+kernel) hS (by simp)
 by_cases Ca:ms.length=8∨nx=100
 ·obtain⟨Cd,Cb,e1,t1,t2,t3,_,_⟩:=cv 2 (Or.inr rfl) true (λ_=>rfl) B7 hv (ha.mono (ms':=ms)) (.cons (.plus fl) (.nil fl)) (by simp) [97,32,78,79] (by decide) (by decide);have hl:=t1.len (by rw[ha.1];omega);refine⟨_,Cb,ms,nx,Cd,t1,t2,B7,t3,λ_ h=>h,dy hc h B5 λW1 h1=>?_⟩;refine tP (ac:=0) h1 c hc oQ [104,105] (by decide) (by decide) (by decide) ⟨#[97]⟩ ⟨#[102]⟩ hl.2 hN (λf B6 w _ hS=>?_) B5 Cj;rw[Cf]at hS;have:=Ak 97 ⟨#[102]⟩ hS rfl (by decide) B7 Ca (by omega) (λB8 e=>by injection e with e;subst e;omega) (by have:=hl.1;simp[aN]at this⊢;omega);rw[e1]at this;exact this
 ·have hn:ms.length<8:=by omega
  have Ce:nx<=99:=by omega
  obtain⟨k,Ci,Ch,Cc,Cg⟩:=pE ms hn;have hG:=B7.snoc hn Ce k Ci Ch Cg [102] [104,105] (by decide) (by decide);have B9:∀B8,bw B8 ms nx->bw B8 (ms++[⟨(k:Int),nx,[102],[102],[104,105]⟩]) (nx+1):=λB8 h2=>h2.snoc _ rfl
  obtain⟨Cd,Cb,e1,t1,t2,t3,_,_⟩:=cv 2 (Or.inr rfl) true (λ_=>rfl) hG (B9 ks hv) ha.mono (.cons (.plus fl) (.nil fl)) (by simp) [97,32,79,75] (by decide) (by decide);have hl:=t1.len (by rw[ha.1];omega);refine⟨_,Cb,_,_,Cd,t1,t2,hG,t3,B9,dy hc h B5 λW1 h1=>?_⟩;refine tP (ac:=0+10) h1 c hc oQ [104,105] (by decide) (by decide) (by decide) ⟨#[97]⟩ ⟨#[102]⟩ hl.2 hN (λf B6 w _ hS=>?_) B5 Cj;rw[Cf]at hS;have:=rB 97 ⟨#[102]⟩ (by decide) hS rfl (by decide) B7 hn Ce k Ci Ch Cc Cg (by omega) (λB8 e=>by injection e with e;subst e;omega) (by have:=hl.1;simp[aN]at this⊢;omega);simp only at this;rw[e1]at this;exact this
end
end Go.Proofs.YtbeahecjbokjjaaGreatDoor
