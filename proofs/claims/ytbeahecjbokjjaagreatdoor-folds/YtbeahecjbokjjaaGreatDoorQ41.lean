import Derived.Test.YtbeahecjbokjjaaGreatDoorQ40
set_option maxRecDepth 100000
set_option maxHeartbeats 16000000
namespace Go.Proofs.YtbeahecjbokjjaaGreatDoor
open Go.RowKit Go.Lib
section
variable {role role':Nat->Nat} {S:List Nat} {B:Nat} {W W':World} {f:Fs} {g:List UInt8} {tx:Bool} {z:Int} {ad:Array Value} {vw:Option (List ax)} {an:List UInt8} {ac:Nat} {ms:List ap} {nx:Int}
theorem xM(p:Nat)(Ca:1<=p)(B8:p<=99)(h:St role B f (ln3 [71,69,84] (Lib.itoa (p:Int)) [70]) false z ad (some []) an ac ms nx W)(B9:aP ms nx)(B5:an.length+(aS 1 ms (some [])).length<=700000):
  Nl f W λw'=>∃role',St role' B f [] false 0 ad (bQ 1 ms (some [])) (an++aS 1 ms (some [])++[97,32,78,79,10]) ac ms nx w'/\Stp role role' aY W w':=by
 obtain⟨Ce,Cb⟩:=cW p B8;refine dV (ok:=false) (Q:=λs k w=>(∃g c,s=.slice (some ⟨g,0,none⟩) 1 c/\cX w g (p:Int) (p:Int))/\k=.slice none 0 0) h ⟨#[97]⟩ 8 1 ⟨#[]⟩ ⟨#[]⟩ ⟨#[70]⟩ rfl (by decide) (λW1 hE hR=>?_) ?_ (by have:=B9.len;simp;omega) (λm hm=>by have:=(B9.fl m hm).2;omega) (by decide) B5
 ·refine(n6 97 (by decide) (by decide) (Lib.itoa (p:Int)) (by exact Cb) (p:Int) (p:Int) _ (eM (by simp;omega)) W1 hE hR (λw1 Cc=>iG p Ca B8 _ (by simp) w1 Cc) (by simpa using dZ (by decide) (Mb.itoa_ne32 _ (by omega)) (by decide))).mono ?_;rintro e w' ⟨⟨g,sc,rfl,_,hs⟩,hb⟩;exact⟨some ⟨g,0,none⟩,1,sc,none,0,0,rfl,⟨⟨g,sc,rfl,hs⟩,rfl⟩,hb⟩
 ·intro sa sn sc ka kn kc w1 W3 B6 hQ hb h3;obtain⟨⟨g,c,e1,hs⟩,e2⟩:=hQ;injection e1 with e1 e3 e4
  injection e2 with e2 e5 e6
  subst e1 e2 e3 e4 e5 e6;have Cd:=hs.kept (hb.block g hs.lt);refine sh h3 ⟨#[97]⟩ ⟨#[]⟩ ⟨#[]⟩ ⟨#[70]⟩ λV W1 B7 hv h1 Cf=>?_
  exact(h1.getNone (sg:=g) (sc:=sc) hv ⟨#[97]⟩).mono λe w' ⟨he,role',h4,h5⟩=>⟨he,role',h4,h5.mono (by decide)⟩
theorem vA(p:Nat)(Ca:1<=p)(B8:p<=99)(h:St role B f (ln3 [80,76,85,83] (Lib.itoa (p:Int)) [100]) false z ad (some []) an ac ms nx W)(B9:aP ms nx)(B5:an.length+(aS 1 ms (some [])).length<=700000):
  Nl f W λw'=>∃role',St role' B f [] false 0 ad (bQ 1 ms (some [])) (an++aS 1 ms (some [])++[97,32,78,79,10]) ac ms nx w'/\Stp role role' aY W w':=by
 obtain⟨Ce,Cb⟩:=cW p B8;refine dV (ok:=false) (Q:=λs k w=>(∃g c,s=.slice (some ⟨g,0,none⟩) 1 c/\cX w g (p:Int) (p:Int))/\k=.slice none 0 0) h ⟨#[97]⟩ 9 1 ⟨#[]⟩ ⟨#[100]⟩ ⟨#[]⟩ rfl (by decide) (λW1 hE hR=>?_) ?_ (by have:=B9.len;simp;omega) (λm hm=>by have:=(B9.fl m hm).2;omega) (by decide) B5
 ·refine(s7 97 (by decide) (by decide) (Lib.itoa (p:Int)) (by exact Cb) (p:Int) (p:Int) _ (eM (by simp;omega)) W1 hE hR (λw1 Cc=>iG p Ca B8 _ (by simp) w1 Cc) (by simpa using dZ (by decide) (Mb.itoa_ne32 _ (by omega)) (by decide))).mono ?_;rintro e w' ⟨⟨g,sc,rfl,_,hs⟩,hb⟩;exact⟨some ⟨g,0,none⟩,1,sc,none,0,0,rfl,⟨⟨g,sc,rfl,hs⟩,rfl⟩,hb⟩
 ·intro sa sn sc ka kn kc w1 W3 B6 hQ hb h3;obtain⟨⟨g,c,e1,hs⟩,e2⟩:=hQ;injection e1 with e1 e3 e4
  injection e2 with e2 e5 e6
  subst e1 e2 e3 e4 e5 e6;have Cd:=hs.kept (hb.block g hs.lt);refine wA h3 ⟨#[97]⟩ ⟨#[]⟩ ⟨#[100]⟩ ⟨#[]⟩ λV W1 B7 hv h1 Cf=>?_
  exact(sS h1 hv ⟨#[97]⟩ 9 1 ⟨#[]⟩ ⟨#[100]⟩ 0 ⟨#[]⟩ g sc ⟨#[]⟩ (.slice none 0 0) _).mono λe w' ⟨he,role',h4,h5⟩=>⟨he,role',h4,h5.mono (by decide)⟩
theorem tu(p:Nat)(Ca:1<=p)(B8:p<=99)(h:St role B f (ln3 [77,73,78,85,83] (Lib.itoa (p:Int)++[58,42]) [100,102]) false z ad (some []) an ac ms nx W)(B9:aP ms nx)(B5:an.length+(aS 1 ms (some [])).length<=700000):
  Nl f W λw'=>∃role',St role' B f [] false 0 ad (bQ 1 ms (some [])) (an++aS 1 ms (some [])++[97,32,78,79,10]) ac ms nx w'/\Stp role role' aY W w':=by
 obtain⟨Cd,Ce⟩:=cW p B8;refine dV (ok:=false) (Q:=λs k w=>(∃g c,s=.slice (some ⟨g,0,none⟩) 1 c/\cX w g (p:Int) 0)/\k=.slice none 0 0) h ⟨#[97]⟩ 10 1 ⟨#[]⟩ ⟨#[100,102]⟩ ⟨#[]⟩ rfl (by decide) (λW1 hE hR=>?_) ?_ (by have:=B9.len;simp;omega) (λm hm=>by have:=(B9.fl m hm).2;omega) (by decide) B5
 ·refine(qR 97 (by decide) (by decide) (Lib.itoa (p:Int)++[58,42]) (by simp) (p:Int) 0 _ (eM (by simp;omega)) W1 hE hR (λw1 Cb=>lD p Ca B8 _ (by simp) w1 Cb) (by simpa using dZ (by decide) (kp p) (by decide))).mono ?_;rintro e w' ⟨⟨g,sc,rfl,_,hs⟩,hb⟩;exact⟨some ⟨g,0,none⟩,1,sc,none,0,0,rfl,⟨⟨g,sc,rfl,hs⟩,rfl⟩,hb⟩
 ·intro sa sn sc ka kn kc w1 W3 B6 hQ hb h3;obtain⟨⟨g,c,e1,hs⟩,e2⟩:=hQ;injection e1 with e1 e3 e4
  injection e2 with e2 e5 e6
  subst e1 e2 e3 e4 e5 e6;have Cc:=hs.kept (hb.block g hs.lt);refine tV h3 ⟨#[97]⟩ ⟨#[]⟩ ⟨#[100,102]⟩ ⟨#[]⟩ λV W1 B7 hv h1 Cf=>?_
  exact(sS h1 hv ⟨#[97]⟩ 10 1 ⟨#[]⟩ ⟨#[100,102]⟩ 0 ⟨#[]⟩ g sc ⟨#[]⟩ (.slice none 0 0) _).mono λe w' ⟨he,role',h4,h5⟩=>⟨he,role',h4,h5.mono (by decide)⟩
theorem vD(p:Nat)(Ca:1<=p)(B8:p<=99)(h:St role B f (ln3 [67,79,80,89] (Lib.itoa (p:Int)) [105,110]) false z ad (some []) an ac ms nx W)(B9:aP ms nx)(B5:an.length+(aS 2 ms (some [])).length<=700000):
  Nl f W λw'=>∃role',St role' B f [] false 0 ad (bQ 2 ms (some [])) (an++aS 2 ms (some [])++[97,32,78,79,10]) ac ms nx w'/\Stp role role' aY W w':=by
 obtain⟨Ce,Cb⟩:=cW p B8;refine dV (ok:=false) (Q:=λs k w=>(∃g c,s=.slice (some ⟨g,0,none⟩) 1 c/\cX w g (p:Int) (p:Int))/\k=.slice none 0 0) h ⟨#[97]⟩ 12 2 av ⟨#[]⟩ ⟨#[]⟩ rfl (by decide) (λW1 hE hR=>?_) ?_ (by have:=B9.len;simp;omega) (λm hm=>by have:=(B9.fl m hm).2;omega) (by decide) B5
 ·refine(lL 97 (by decide) (by decide) (Lib.itoa (p:Int)) (by exact Cb) (p:Int) (p:Int) _ (eM (by simp;omega)) W1 hE hR (λw1 Cc=>iG p Ca B8 _ (by simp) w1 Cc) (by simpa using dZ (by decide) (Mb.itoa_ne32 _ (by omega)) (by decide))).mono ?_;rintro e w' ⟨⟨g,sc,rfl,_,hs⟩,hb⟩;exact⟨some ⟨g,0,none⟩,1,sc,none,0,0,rfl,⟨⟨g,sc,rfl,hs⟩,rfl⟩,hb⟩
 ·intro sa sn sc ka kn kc w1 W3 B6 hQ hb h3;obtain⟨⟨g,c,e1,hs⟩,e2⟩:=hQ;injection e1 with e1 e3 e4
  injection e2 with e2 e5 e6
  subst e1 e2 e3 e4 e5 e6;have Cd:=hs.kept (hb.block g hs.lt);refine oh h3 ⟨#[97]⟩ av ⟨#[]⟩ ⟨#[]⟩ λV W1 B7 hv h1 Cf=>?_
  exact(wP h1 hv ⟨#[97]⟩ 12 2 ⟨#[]⟩ 0 ⟨#[]⟩ g sc ⟨#[]⟩ (.slice none 0 0)).mono λe w' ⟨he,role',h4,h5⟩=>⟨he,role',h4,h5.mono (by decide)⟩
theorem yx{q:cw}{k:Int}(B5:aP ms nx)(hq:q.m∈ms):∀m∈ms++[(⟨k,nx,q.m.flags,q.m.flags,q.m.text⟩:ap)],m.flags.length<=1000:=λm hm=>by
 rcases List.mem_append.1 hm with hm|hm
 ·have:=(B5.fl m hm).2;omega
 ·have:=(B5.fl _ hq).2;simp at hm;subst hm;simp only;omega
theorem zS{ks:List ax}{W1 W2:World}{B5:Nat->Nat}{a':Option Addr}{c':Nat}(h1:St B5 B f [] false 0 ad (some ks) an ac ms nx W1)(B6:aP ms nx)(hn:ms.length<8)(hx:nx<=99)(k:Nat)(Ca:1<=k)(B9:k<=8)(B7:∀j:Nat,1<=j->j<k->aU (j:Int) ms=true)(B8:aU (k:Int) ms=false)(q:cw)(hq:q.m∈ms)(hb:Below W1.heap.size W1 W2)(hm:dB W2 a' [q.m]):
  Calls Tryz.prog 225 #[.pointer (some ⟨f.kf,0,none⟩),.slice a' 1 c'] W2 λe w'=>∃va ys role',e=.returned (.tuple #[va,.bool true])/\ed w' W1.heap.size va ys/\ys.length<=10/\St role' B f [] false 0 ad (some ks) an ac (ms++[⟨(k:Int),nx,q.m.flags,q.m.flags,q.m.text⟩]) (nx+1) w'/\Stp B5 role' [8,9] W1 w':=by
 obtain⟨b,off,rfl,_,_⟩:∃b off,a'=some ⟨b,off,none⟩/\b<W2.heap.size/\fu W2 b off [q.m]:=by
  rcases hm with h|h
  ·cases h
  ·exact h
 refine((h1.below hb).copyOne B6 hn hx k Ca B9 B7 B8 b off c' q.m hm (B6.fl _ hq) (B6.came _ hq).2).mono ?_;rintro e w' ⟨va,ys,role',rfl,h2,h3,h4,h5⟩;exact⟨va,ys,role',rfl,h2.base hb.size,h3,h4,(Stp.of_below _ _ hb).trans h5⟩
theorem p6{ks:List ax}(p:Nat)(Ce:1<=p)(Cb:p<=99)(h:St role B f (ln3 [67,79,80,89] (Lib.itoa (p:Int)) [105,110]) false z ad (some ks) an ac ms nx W)(B6:aP ms nx)(hl:ks.length+ms.length<=990)(Ch:ac<=1000)(Cd:p<=ks.length)(hM:(aA (p-1) p (ar ks ms))=[])(B7:an.length+(aS 2 ms (some ks)).length<=700000):
  Nl f W λw'=>∃role',St role' B f [] false 0 ad (bQ 2 ms (some ks)) (an++aS 2 ms (some ks)++[97,32,79,75,10]) (ac+10) ms nx w'/\Stp role role' aY W w':=by
 obtain⟨Cj,Cf⟩:=cW p Cb;refine dV (ok:=true) (Q:=λs k w=>(∃g c,s=.slice (some ⟨g,0,none⟩) 1 c/\cX w g (p:Int) (p:Int))/\k=.slice none 0 0) h ⟨#[97]⟩ 12 2 av ⟨#[]⟩ ⟨#[]⟩ rfl (by decide) (λW1 hE hR=>?_) ?_ (by omega) (λm hm=>by have:=(B6.fl m hm).2;omega) (by decide) B7
 ·refine(lL 97 (by decide) (by decide) (Lib.itoa (p:Int)) (by exact Cf) (p:Int) (p:Int) _ (eM (by simp;omega)) W1 hE hR (λw1 Ci=>iG p Ce Cb _ (by simp) w1 Ci) (by simpa using dZ (by decide) (Mb.itoa_ne32 _ (by omega)) (by decide))).mono ?_;rintro e w' ⟨⟨g,sc,rfl,_,hs⟩,hb⟩;exact⟨some ⟨g,0,none⟩,1,sc,none,0,0,rfl,⟨⟨g,sc,rfl,hs⟩,rfl⟩,hb⟩
 ·intro sa sn sc ka kn kc w1 W3 B9 hQ hb h3;obtain⟨⟨g,c,e1,hs⟩,e2⟩:=hQ;injection e1 with e1 e3 e4
  injection e2 with e2 e5 e6
  subst e1 e2 e3 e4 e5 e6;have Ca:=hs.kept (hb.block g hs.lt);refine oh h3 ⟨#[97]⟩ av ⟨#[]⟩ ⟨#[]⟩ λV W1 B5 hv h1 Cg=>?_
  have Cc:=Ca.kept (Cg.block g Ca.lt);exact(yO (lo:=p-1) (hi:=p) h1 hv B6.len Ch (by omega) ⟨#[97]⟩ 12 2 ⟨#[]⟩ 0 ⟨#[]⟩ g sc ⟨#[]⟩ (.slice none 0 0) Cc (by omega) (by rw[if_neg (by omega)]) (by omega) Cd (λw2 a' c' B8 hm=>by rw[hM];exact((h1.below B8).copyNone B6 a' c').mono λe w' ⟨he,hw⟩=>⟨_,[],B5,he,alG _ _ _ _,by simp,by rw[hw];exact h1.below B8,by rw[hw];exact Stp.of_below _ _ B8⟩)).mono λe w' ⟨he,role',h4,h5⟩=>⟨he,role',h4,h5.mono (by decide)⟩
theorem p7{ks:List ax}(p:Nat)(Cf:1<=p)(Cc:p<=99)(h:St role B f (ln3 [67,79,80,89] (Lib.itoa (p:Int)) [105,110]) false z ad (some ks) an ac ms nx W)(B7:aP ms nx)(hl:ks.length+ms.length<=990)(Ci:ac<=1000)(Ce:p<=ks.length)(q:cw)(hM:(aA (p-1) p (ar ks ms))=[q])(B6:ms.length=8∨nx=100)(B8:an.length+(aS 2 ms (some ks)).length<=700000):
  Nl f W λw'=>∃role',St role' B f [] false 0 ad (bQ 2 ms (some ks)) (an++aS 2 ms (some ks)++[97,32,78,79,10]) (ac+10) ms nx w'/\Stp role role' aY W w':=by
 obtain⟨Ck,Cg⟩:=cW p Cc;refine dV (ok:=false) (Q:=λs k w=>(∃g c,s=.slice (some ⟨g,0,none⟩) 1 c/\cX w g (p:Int) (p:Int))/\k=.slice none 0 0) h ⟨#[97]⟩ 12 2 av ⟨#[]⟩ ⟨#[]⟩ rfl (by decide) (λW1 hE hR=>?_) ?_ (by omega) (λm hm=>by have:=(B7.fl m hm).2;omega) (by decide) B8
 ·refine(lL 97 (by decide) (by decide) (Lib.itoa (p:Int)) (by exact Cg) (p:Int) (p:Int) _ (eM (by simp;omega)) W1 hE hR (λw1 Cj=>iG p Cf Cc _ (by simp) w1 Cj) (by simpa using dZ (by decide) (Mb.itoa_ne32 _ (by omega)) (by decide))).mono ?_;rintro e w' ⟨⟨g,sc,rfl,_,hs⟩,hb⟩;exact⟨some ⟨g,0,none⟩,1,sc,none,0,0,rfl,⟨⟨g,sc,rfl,hs⟩,rfl⟩,hb⟩
 ·intro sa sn sc ka kn kc w1 W3 Ca hQ hb h3;obtain⟨⟨g,c,e1,hs⟩,e2⟩:=hQ;injection e1 with e1 e3 e4
  injection e2 with e2 e5 e6
  subst e1 e2 e3 e4 e5 e6;have Cb:=hs.kept (hb.block g hs.lt);refine oh h3 ⟨#[97]⟩ av ⟨#[]⟩ ⟨#[]⟩ λV W1 B5 hv h1 Ch=>?_
  have Cd:=Cb.kept (Ch.block g Cb.lt);exact(yO (lo:=p-1) (hi:=p) h1 hv B7.len Ci (by omega) ⟨#[97]⟩ 12 2 ⟨#[]⟩ 0 ⟨#[]⟩ g sc ⟨#[]⟩ (.slice none 0 0) Cd (by omega) (by rw[if_neg (by omega)]) (by omega) Ce (λw2 a' c' B9 hm=>by rw[hM];exact((h1.below B9).copyFull B6 B7.len a' c').mono λe w' ⟨he,hw⟩=>⟨_,[],B5,he,alG _ _ _ _,by simp,by rw[hw];exact h1.below B9,by rw[hw];exact Stp.of_below _ _ B9⟩)).mono λe w' ⟨he,role',h4,h5⟩=>⟨he,role',h4,h5.mono (by decide)⟩
theorem rR{ks:List ax}(p:Nat)(Ce:1<=p)(Cb:p<=99)(h:St role B f (ln3 [67,79,80,89] (Lib.itoa (p:Int)) [105,110]) false z ad (some ks) an ac ms nx W)(B5:aP ms nx)(hl:ks.length+ms.length<=990)(Cl:ac<=1000)(Cd:p<=ks.length)(q:cw)(hM:(aA (p-1) p (ar ks ms))=[q])(hq:q.m∈ms)(hn:ms.length<8)(hx:nx<=99)(k:Nat)(Ch:1<=k)(Cg:k<=8)(B7:∀j:Nat,1<=j->j<k->aU (j:Int) ms=true)(Cf:aU (k:Int) ms=false)(B6:an.length+(aS 2 (ms++[⟨(k:Int),nx,q.m.flags,q.m.flags,q.m.text⟩]) (some ks)).length<=700000):
  Nl f W λw'=>∃role',St role' B f [] false 0 ad (bQ 2 (ms++[⟨(k:Int),nx,q.m.flags,q.m.flags,q.m.text⟩]) (some ks)) (an++aS 2 (ms++[⟨(k:Int),nx,q.m.flags,q.m.flags,q.m.text⟩]) (some ks)++[97,32,79,75,10]) (ac+10) (ms++[⟨(k:Int),nx,q.m.flags,q.m.flags,q.m.text⟩]) (nx+1) w'/\Stp role role' aY W w':=by
 obtain⟨Cn,Ci⟩:=cW p Cb;refine dV (ok:=true) (Q:=λs k w=>(∃g c,s=.slice (some ⟨g,0,none⟩) 1 c/\cX w g (p:Int) (p:Int))/\k=.slice none 0 0) h ⟨#[97]⟩ 12 2 av ⟨#[]⟩ ⟨#[]⟩ rfl (by decide) (λW1 hE hR=>?_) ?_ (by simp;omega) (yx B5 hq) (by decide) B6
 ·refine(lL 97 (by decide) (by decide) (Lib.itoa (p:Int)) (by exact Ci) (p:Int) (p:Int) _ (eM (by simp;omega)) W1 hE hR (λw1 Cm=>iG p Ce Cb _ (by simp) w1 Cm) (by simpa using dZ (by decide) (Mb.itoa_ne32 _ (by omega)) (by decide))).mono ?_;rintro e w' ⟨⟨g,sc,rfl,_,hs⟩,hb⟩;exact⟨some ⟨g,0,none⟩,1,sc,none,0,0,rfl,⟨⟨g,sc,rfl,hs⟩,rfl⟩,hb⟩
 ·intro sa sn sc ka kn kc w1 W3 B8 hQ hb h3;obtain⟨⟨g,c,e1,hs⟩,e2⟩:=hQ;injection e1 with e1 e3 e4
  injection e2 with e2 e5 e6
  subst e1 e2 e3 e4 e5 e6;have Ca:=hs.kept (hb.block g hs.lt);refine oh h3 ⟨#[97]⟩ av ⟨#[]⟩ ⟨#[]⟩ λV W1 B9 hv h1 Ck=>?_
  have Cc:=Ca.kept (Ck.block g Ca.lt);exact(yO (lo:=p-1) (hi:=p) h1 hv B5.len Cl (by omega) ⟨#[97]⟩ 12 2 ⟨#[]⟩ 0 ⟨#[]⟩ g sc ⟨#[]⟩ (.slice none 0 0) Cc (by omega) (by rw[if_neg (by omega)]) (by omega) Cd (λw2 a' c' Cj hm=>by rw[hM]at hm⊢;exact zS h1 B5 hn hx k Ch Cg B7 Cf q hq Cj hm)).mono λe w' ⟨he,role',h4,h5⟩=>⟨he,role',h4,h5.mono (by decide)⟩
end
theorem wJ{w:World}{N:Nat}{tag:ByteArray}{ask upd:Int}{fo fl:ByteArray}{sz:Int}{tx:ByteArray}{st:Value}{it:ByteArray}{ky:Value}(h:bX w N tag ask upd fo fl sz tx st it ky)(wd me:ByteArray)(hM:∀w1,Calls Tryz.prog 204 #[.string wd] w1 λe w'=>e=.returned (.string me)/\Below w1.heap.size w1 w')(hR:∀w1,Calls Tryz.prog 107 #[.string me] w1 λe w'=>e=.returned (.bool true)/\w'=w1):
  Calls Tryz.prog 146 #[.pointer (some ⟨N,0,none⟩),.int .u8 70,.string wd] w λe w'=>e=.returned (.bool true)/\bX w' N tag ask upd fo me sz tx st it ky/\But N none w w':=by
 have gM:=hM w;have gR:=hR;have H:=hid h;have HR:=hid gR;clear h gR hM hR;go_enter Tryz.func146,Tryz.ntmps146;go_wp2_with fail;refine gM.mono ?_;rintro e w1 ⟨rfl,B5⟩;have h1:bX w1 N tag ask upd fo fl sz tx st it ky:=(B5.block N H.out.lt).trans H.out;have c4:=ae (o:=4) h1 rfl;have f4:=az h1 4;have gR:=HR.out (w1.setCell ⟨N,4,none⟩ (.string me));have H1:=hid h1;have B6:=hid B5;clear gM h1 B5 HR;go_wp2_with fail;refine gR.mono ?_;rintro e w' ⟨rfl,B7⟩;subst w';clear gR;go_wp2_with fail;go_ret;refine⟨rfl,?_,(But.of_below B6.out).setCell (p:=⟨N,4,none⟩) (Or.inl rfl) _⟩;have h2:=ah (o:=4) (.string me) H1.out;unfold bX;simpa using h2
theorem wl(wd me:ByteArray)(B5:wd.data.toList≠[])(hM:∀w1,Calls Tryz.prog 204 #[.string wd] w1 λe w'=>e=.returned (.string me)/\Below w1.heap.size w1 w')(B8:∀w1,Calls Tryz.prog 107 #[.string me] w1 λe w'=>e=.returned (.bool true)/\w'=w1)(c:UInt8)(hc1:97<=c.toNat)(hc2:c.toNat<=122)(opened:Bool)(n:Nat)(hn:n<=40)(text:ByteArray)(hts:text.size<=1000)(B6:Mb.splitC 32 text.data.toList=[[c],[65,68,68],[105,110],wd.data.toList,Lib.itoa (n:Int)])(w:World)(hE:Env w)(hR:cz w):
  Calls Tryz.prog 93 #[.string text,.bool opened] w λe w'=>e=.returned (.tuple #[.agg (ay ⟨#[c]⟩ 7 2 eV me (n:Int) ⟨#[]⟩ (.slice none 0 0) ⟨#[]⟩ (.slice none 0 0)),.bool true])/\Below w.heap.size w w':=by
 have hi:Lib.itoa (n:Int)≠[]:=by
  have h:∀k:Fin 41,Lib.itoa (k.val:Int)≠[]:=by decide+kernel
  exact h ⟨n,by omega⟩
 refine(iK text opened c [65,68,68] [[105,110],wd.data.toList,Lib.itoa (n:Int)] hE hR hts B6 hc1 hc2 (by simp[hi,B5]) 7 lx rfl rfl BF rfl rfl
  (λN i w1=>bX w1 N ⟨#[c]⟩ 7 2 (if i=0 then⟨#[]⟩else eV) (if i<=1 then⟨#[]⟩else me) (if i=3 then(n:Int)else 0) ⟨#[]⟩ (.slice none 0 0) ⟨#[]⟩ (.slice none 0 0)) (λfo fl sz st it _=>fo=eV/\fl=me/\sz=(n:Int)/\st=.slice none 0 0/\it=⟨#[]⟩)
  (λ_ _ _ _ h=>h) yD (λ_ _ _ _ h hb=>fh h hb) (λN i k p w1 B7 _ hk hp h=>?_) (λ_ _ h=>⟨_,_,_,_,_,_,_,h,rfl,rfl,rfl,rfl,rfl⟩) (λ_ _ _ _ _ _ _ h _=>h)).mono ?_
 ·match i,hk,hp with
  |0,hk,hp=>
   have hk':(102:UInt8)=k:=by simpa using hk
   have hp':[105,110]=p:=by simpa using hp
   subst hk';subst hp';exact iE h eV
  |1,hk,hp=>
   have hk':(70:UInt8)=k:=by simpa using hk
   have hp':wd.data.toList=p:=by simpa using hp
   subst hk';subst hp';exact wJ h wd me hM B8
  |2,hk,hp=>
   have hk':(110:UInt8)=k:=by simpa using hk
   have hp':Lib.itoa (n:Int)=p:=by simpa using hp
   subst hk';subst hp';exact wL h ⟨(Lib.itoa (n:Int)).toArray⟩ (n:Int) true (ld (n:Int) 0 40 (by omega) (by omega) (by omega) (by omega) _ rfl w1 (hE.below B7 (alU)))
  |i+3,hk,_=>simp at hk
 ·rintro e w' ⟨⟨fo,fl,sz,st,it,rfl,rfl,rfl,rfl,rfl,rfl⟩,hb⟩;exact⟨rfl,hb⟩
end Go.Proofs.YtbeahecjbokjjaaGreatDoor
