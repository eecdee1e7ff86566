import Derived.Test.YtbeahecjbokjjaaGreatDoorQ41
set_option maxRecDepth 100000
set_option maxHeartbeats 16000000
namespace Go.Proofs.YtbeahecjbokjjaaGreatDoor
open Go.RowKit Go.Lib
section
variable {role role':Nat->Nat} {S:List Nat} {B:Nat} {W W':World} {f:Fs} {g:List UInt8} {tx:Bool} {z:Int} {ad:Array Value} {vw:Option (List ax)} {an:List UInt8} {ac:Nat} {ms:List ap} {nx:Int}
def iq (c:UInt8):List UInt8:=[c,32,79,80,69,78,32,105,110]
def lj:List UInt8:=[97,32,76,79,79,75,32,105,110]
def li:List UInt8:=[99,32,83,72,85,84]
theorem qU{nx:Int}{n:Nat}(h0:0<=nx)(h1:nx<=100)(hn:n<=8):(dm nx n).length<=10000:=by
 have h1:=ew nx (by omega) (by omega);have h2:=ew (n:Int) (by omega) (by omega);simp[dm];omega
theorem qZ(c:UInt8)(Cc:c=97∨c=99)(h:St role B f (iq c) false z ad none an ac ms nx W)(Ca:f.lk=false)(B5:aP ms nx)(hl:an.length<=600000):
  Nl f W λw'=>∃role',St role' B f [] false 0 ad (some (ak [] ms)) (an++dm nx (ak [] ms).length++[c,32,79,75,10]) ac ms nx w'/\Stp role role' aY W w':=by
 have hc1:97<=c.toNat/\c.toNat<=122/\Mb.splitC 32 (iq c)=[[c],[79,80,69,78],[105,110]]:=by rcases Cc with rfl|rfl<;>decide
 have h8:=B5.len;have Ce:=B5.lo;have Cb:=B5.hi;have B9:(ak [] ms).length<=8:=alS (dO [] ms) (by simpa using h8);have Cd:=qU (by omega) Cb B9;refine iW h λW1 B8 h1=>?_
 refine l5 (Q:=λs k _=>s=.slice none 0 0/\k=.slice none 0 0) h1 ⟨(iq c).toArray⟩ ⟨#[c]⟩ 4 0 av ⟨#[]⟩ 0 ⟨#[]⟩ ⟨#[]⟩ rfl ?_ ?_
 ·refine(xj c hc1.1 hc1.2.1 false ⟨(iq c).toArray⟩ (by simp[iq,ByteArray.size]) (by simpa using hc1.2.2) W1 h1.bs.e h1.bs.r).mono ?_;rintro e w' ⟨rfl,hb⟩;exact⟨none,0,0,none,0,0,rfl,⟨rfl,rfl⟩,hb⟩
 ·intro sa sn sc ka kn kc w1 w2 B7 hQ Cf h2;obtain⟨e1,e2⟩:=hQ;injection e1 with e1 e3 e4
  injection e2 with e2 e5 e6
  subst e1 e2 e3 e4 e5 e6;have hc:=eF (ok:=true) (vw':=some (ak [] ms)) (an':=an++dm nx (ak [] ms).length) (ac':=ac) (ms':=ms) (nx':=nx) h2 ⟨#[c]⟩ 4 0 av ⟨#[]⟩ 0 ⟨#[]⟩ (.slice none 0 0) ⟨#[]⟩ (.slice none 0 0) (Or.inl rfl) (λW3 B6 h3 _=>AR h3 (by omega) (by omega) (by omega) (by omega) ⟨#[c]⟩ Ca) (λks e=>by injection e with e;subst e;omega) (λm hm=>by have:=(B5.fl m hm).2;omega) (by simp) (by simp[aS];omega);refine hc.mono ?_;rintro e w' ⟨rfl,role',h5,h6⟩;refine⟨rfl,role',?_,h6⟩;simpa[bQ,aS,eG]using h5
theorem xK(h:St role B f lj false z ad none an ac ms nx W)(Ca:f.lk=true)(B5:aP ms nx)(hl:an.length<=600000):
  Nl f W λw'=>∃role',St role' B f [] false 0 ad (some (ak [] ms)) (an++dm nx (ak [] ms).length++[97,32,79,75,10]) ac ms nx w'/\Stp role role' aY W w':=by
 have h8:=B5.len;have Cd:=B5.lo;have Cb:=B5.hi;have B9:(ak [] ms).length<=8:=alS (dO [] ms) (by simpa using h8);have Cc:=qU (by omega) Cb B9;refine iW h λW1 B8 h1=>?_
 refine l5 (Q:=λs k _=>s=.slice none 0 0/\k=.slice none 0 0) h1 ⟨lj.toArray⟩ ⟨#[97]⟩ 5 0 av ⟨#[]⟩ 0 ⟨#[]⟩ ⟨#[]⟩ rfl ?_ ?_
 ·refine(xl 97 (by decide) (by decide) false ⟨lj.toArray⟩ (by decide) (by decide) W1 h1.bs.e h1.bs.r).mono ?_;rintro e w' ⟨rfl,hb⟩;exact⟨none,0,0,none,0,0,rfl,⟨rfl,rfl⟩,hb⟩
 ·intro sa sn sc ka kn kc w1 w2 B7 hQ Ce h2;obtain⟨e1,e2⟩:=hQ;injection e1 with e1 e3 e4
  injection e2 with e2 e5 e6
  subst e1 e2 e3 e4 e5 e6;have hc:=eF (ok:=true) (vw':=some (ak [] ms)) (an':=an++dm nx (ak [] ms).length) (ac':=ac) (ms':=ms) (nx':=nx) h2 ⟨#[97]⟩ 5 0 av ⟨#[]⟩ 0 ⟨#[]⟩ (.slice none 0 0) ⟨#[]⟩ (.slice none 0 0) (Or.inl rfl) (λW3 B6 h3 _=>AT h3 (by omega) (by omega) (by omega) (by omega) ⟨#[97]⟩ Ca) (λks e=>by injection e with e;subst e;omega) (λm hm=>by have:=(B5.fl m hm).2;omega) (by decide) (by simp[aS];omega);refine hc.mono ?_;rintro e w' ⟨rfl,role',h5,h6⟩;refine⟨rfl,role',?_,h6⟩;simpa[bQ,aS,eG]using h5
theorem xH{ks:List ax}(h:St role B f li false z ad (some ks) an ac ms nx W)(B8:∀m∈ms,m.flags.length<=1000)(hl:an.length<=600000):
  Nl f W λw'=>∃role',St role' B f [] false 0 ad none (an++[99,32,79,75,10]) ac ms nx w'/\Stp role role' aY W w':=by
 refine iW h λW1 B7 h1=>?_
 refine lZ (Q:=λs k _=>s=.slice none 0 0/\k=.slice none 0 0) h1 ⟨li.toArray⟩ ⟨#[99]⟩ 6 0 ⟨#[]⟩ ⟨#[]⟩ 0 ⟨#[]⟩ ⟨#[]⟩ rfl ?_ ?_
 ·refine(oB 6 ⟨[83,72,85,84],6,[],false,true,0⟩ rfl rfl rfl (iH (by decide)) (by decide) 99 (by decide) (by decide) ⟨li.toArray⟩ (by decide) (by decide) W1 h1.bs.e h1.bs.r).mono ?_;rintro e w' ⟨rfl,hb⟩;exact⟨none,0,0,none,0,0,rfl,⟨rfl,rfl⟩,hb⟩
 ·intro sa sn sc ka kn kc w1 w2 B6 hQ B9 h2;obtain⟨e1,e2⟩:=hQ;injection e1 with e1 e3 e4
  injection e2 with e2 e5 e6
  subst e1 e2 e3 e4 e5 e6;have hc:=eF (ok:=true) (vw':=none) (an':=an) (ac':=ac) (ms':=ms) (nx':=nx) h2 ⟨#[99]⟩ 6 0 ⟨#[]⟩ ⟨#[]⟩ 0 ⟨#[]⟩ (.slice none 0 0) ⟨#[]⟩ (.slice none 0 0) (Or.inl rfl) (λW3 B5 h3 _=>AQ h3 ⟨#[99]⟩) (λks e=>by cases e) B8 (by decide) (by simp[aS];omega);refine hc.mono ?_;rintro e w' ⟨rfl,role',h5,h6⟩;refine⟨rfl,role',?_,h6⟩;simpa[bQ,aS,eG]using h5
theorem oS{L:List UInt8}(c:UInt8)(hc1:97<=c.toNat)(hc2:c.toNat<=122)(wd me:ByteArray)(B6:wd.data.toList≠[])(hM:∀w1,Calls Tryz.prog 204 #[.string wd] w1 λe w'=>e=.returned (.string me)/\Below w1.heap.size w1 w')(B8:∀w1,Calls Tryz.prog 107 #[.string me] w1 λe w'=>e=.returned (.bool true)/\w'=w1)(n:Nat)(hn:n<=40)(hts:L.length<=1000)(B7:Mb.splitC 32 L=[[c],[65,68,68],[105,110],wd.data.toList,Lib.itoa (n:Int)])(h:St role B f L false z adZ vw an ac ms nx W)(hl:an.length<=600000):
  Nl f W λw'=>∃role',St role' B f [] true (n:Int) (adL ⟨#[c]⟩ me (n:Int)) vw (an++[43,10]) ac ms nx w'/\Stp role role' aY W w':=by
 refine iW h λW1 B5 h1=>?_
 cases vw with
 |none=>exact qb h1 ⟨L.toArray⟩ ⟨#[c]⟩ me (n:Int) (by omega) (wl wd me B6 hM B8 c hc1 hc2 false n hn ⟨L.toArray⟩ (by simp[ByteArray.size];omega) (by simpa using B7) W1 h1.bs.e h1.bs.r)
 |some ks=>exact p9 h1 ⟨L.toArray⟩ ⟨#[c]⟩ me (n:Int) (by omega) (wl wd me B6 hM B8 c hc1 hc2 true n hn ⟨L.toArray⟩ (by simp[ByteArray.size];omega) (by simpa using B7) W1 h1.bs.e h1.bs.r)
theorem rB(c:UInt8)(fl:ByteArray)(Ce:Mb.flagsOk fl.data.toList=true/\fl.data.toList.length<=4)(h:St role B f g true z (adL ⟨#[c]⟩ fl z) vw an ac ms nx W)(hz:(g.length:Int)=z)(hg:g.length<=40)(Ca:aP ms nx)(hn:ms.length<8)(hx:nx<=99)(k:Nat)(Cd:1<=k)(Cc:k<=8)(B7:∀j:Nat,1<=j->j<k->aU (j:Int) ms=true)(Cb:aU (k:Int) ms=false)(Cg:ac<=1000)(Cf:∀ks,vw=some ks->ks.length+ms.length<=990)(B6:an.length+(aS 2 (ms++[⟨(k:Int),nx,fl.data.toList,fl.data.toList,g⟩]) vw).length<=700000):
  Nl f W λw'=>∃role',St role' B f [] false 0 adZ (bQ 2 (ms++[⟨(k:Int),nx,fl.data.toList,fl.data.toList,g⟩]) vw) (an++aS 2 (ms++[⟨(k:Int),nx,fl.data.toList,fl.data.toList,g⟩]) vw++[c,32,79,75,10]) (ac+10) (ms++[⟨(k:Int),nx,fl.data.toList,fl.data.toList,g⟩]) (nx+1) w'/\Stp role role' aY W w':=by
 have B5:=Ca.snoc hn hx k Cd Cc Cb fl.data.toList g Ce hg;refine qK h hz λW1 B9 h1=>?_
 exact eF (ok:=true) h1 ⟨#[c]⟩ 7 2 av fl z ⟨g.toArray⟩ (.slice none 0 0) ⟨#[]⟩ (.slice none 0 0) (Or.inr (Or.inr rfl)) (λW3 B8 h3 _=>by
  have:=ym h3 Ca hn hx k Cd Cc B7 Cb fl ⟨g.toArray⟩ Ce (by simpa using hg) Cg ⟨#[c]⟩ z;simpa using this) (λks e=>by have:=Cf ks e;simp;omega) (λm hm=>by have:=(B5.fl m hm).2;omega) (by simp) B6
theorem Ak(c:UInt8)(fl:ByteArray)(h:St role B f g true z (adL ⟨#[c]⟩ fl z) vw an ac ms nx W)(hz:(g.length:Int)=z)(hg:g.length<=40)(B9:aP ms nx)(B5:ms.length=8∨nx=100)(Cb:ac<=1000)(Ca:∀ks,vw=some ks->ks.length+ms.length<=990)(B6:an.length+(aS 2 ms vw).length<=700000):
  Nl f W λw'=>∃role',St role' B f [] false 0 adZ (bQ 2 ms vw) (an++aS 2 ms vw++[c,32,78,79,10]) ac ms nx w'/\Stp role role' aY W w':=by
 refine qK h hz λW1 B8 h1=>?_
 exact eF (ok:=false) h1 ⟨#[c]⟩ 7 2 av fl z ⟨g.toArray⟩ (.slice none 0 0) ⟨#[]⟩ (.slice none 0 0) (Or.inr (Or.inr rfl)) (λW3 B7 h3 _=>yo h3 B5 B9.len fl ⟨g.toArray⟩ (by simpa using hg) Cb ⟨#[c]⟩ z) (λks e=>by have:=Ca ks e;omega) (λm hm=>by have:=(B9.fl m hm).2;omega) (by simp) B6
end
def dw:List (List UInt8×(List UInt8->World->Prop))->(World->Prop)->Nat->World->Prop
 |[],F,i,w=>i=0/\F w
 |(L,X)::r,F,i,w=>if i<=L.length then X (L.take i) w else dw r F (i-L.length-1) w
def cR (segs:List (List UInt8×(List UInt8->World->Prop))):List UInt8:=segs.flatMap λs=>s.1++[10]
def Af (T:UInt8->World->(World->Prop)->Prop):List (List UInt8×(List UInt8->World->Prop))->(World->Prop)->Prop
 |[],_=>True
 |(L,X)::r,F=>(∀(i:Nat) (h:i<L.length) (w:World),X (L.take i) w->T L[i] w (X (L.take (i+1))))/\(∀w,X L w->T 10 w (dw r F 0))/\Af T r F
theorem dw.step{T:UInt8->World->(World->Prop)->Prop}{F:World->Prop}:∀(B5:List (List UInt8×(List UInt8->World->Prop))),Af T B5 F->∀(i:Nat) (h:i<(cR B5).length) (w:World),dw B5 F i w->T (cR B5)[i] w (dw B5 F (i+1))
 |[],_,i,h,_,_=>by simp[cR]at h
 |(L,X)::r,hg,i,h,w,hI=>by
  have e:cR ((L,X)::r)=L++10::cR r:=by simp[cR]
  unfold dw at hI
  by_cases h1:i<L.length
  ·rw[if_pos (by omega)]at hI;have hT:=hg.1 i h1 w hI;have eb:(cR ((L,X)::r))[i]=L[i]:=by simp only[e];rw[List.getElem_append_left h1]
   rw[eb];have eI:dw ((L,X)::r) F (i+1)=X (L.take (i+1)):=by funext w';unfold dw;rw[if_pos (by omega)]
   rw[eI];exact hT
  ·by_cases h2:i=L.length
   ·subst h2;rw[if_pos (by omega),List.take_length]at hI;have hT:=hg.2.1 w hI;have eb:(cR ((L,X)::r))[L.length]=10:=by simp only[e];rw[List.getElem_append_right (alU)];simp
    rw[eb];have eI:dw ((L,X)::r) F (L.length+1)=dw r F 0:=by
     funext w'
     show(if L.length+1<=L.length then X (L.take (L.length+1)) w' else dw r F (L.length+1-L.length-1) w')=_;rw[if_neg (by omega),show L.length+1-L.length-1=0 by omega]
    rw[eI];exact hT
   ·rw[if_neg (by omega)]at hI;have hl:i-L.length-1<(cR r).length:=by rw[e]at h;simp at h;omega
    have hT:=dw.step r hg.2.2 (i-L.length-1) hl w hI;have eb:(cR ((L,X)::r))[i]=(cR r)[i-L.length-1]:=by
     simp only[e];rw[List.getElem_append_right (by omega),List.getElem_cons];rw[dif_neg (by omega)]
    rw[eb];have eI:dw ((L,X)::r) F (i+1)=dw r F (i-L.length-1+1):=by
     funext w'
     show(if i+1<=L.length then X (L.take (i+1)) w' else dw r F (i+1-L.length-1) w')=_;rw[if_neg (by omega),show i+1-L.length-1=i-L.length-1+1 by omega]
    rw[eI];exact hT
theorem dw.last{F:World->Prop}:∀(B5:List (List UInt8×(List UInt8->World->Prop))) (w:World),dw B5 F (cR B5).length w->F w
 |[],w,h=>h.2
 |(L,X)::r,w,h=>by
  have e:(cR ((L,X)::r)).length=L.length+1+(cR r).length:=by simp[cR];omega
  rw[e]at h;unfold dw at h;rw[if_neg (by omega),show L.length+1+(cR r).length-L.length-1=(cR r).length by omega]at h;exact dw.last r w h
theorem dw.all{F G:World->Prop}:∀(B5:List (List UInt8×(List UInt8->World->Prop))),(∀s∈B5,∀g w,s.2 g w->G w)->(∀w,F w->G w)->∀i w,dw B5 F i w->G w
 |[],_,hF,i,w,h=>hF w h.2
 |(L,X)::r,hs,hF,i,w,h=>by
  unfold dw at h
  split at h
  ·exact hs _ (List.mem_cons_self ..) _ w h
  ·exact dw.all r (λs hm=>hs s (List.mem_cons_of_mem _ hm)) hF _ w h
section
variable {role role':Nat->Nat} {S:List Nat} {B:Nat} {W W':World} {f:Fs} {g:List UInt8} {tx:Bool} {z:Int} {ad:Array Value} {vw:Option (List ax)} {an:List UInt8} {ac:Nat} {ms:List ap} {nx:Int}
def zZ (f:Fs) (b:UInt8) (w:World) (Q:World->Prop):Prop:=Calls Tryz.prog 27 #[.pointer (some ⟨f.P,0,none⟩),.pointer (some ⟨f.P,f.o,none⟩),.int .u8 (b.toNat:Int),.pointer (some ⟨f.A,0,none⟩)] w λe w'=>e=.returned (.tuple #[])/\Q w'
def XSt (role0:Nat->Nat) (W0:World) (B:Nat) (f:Fs) (tx:Bool) (z:Int) (ad:Array Value) (vw:Option (List ax)) (an:List UInt8) (ac:Nat) (ms:List ap) (nx:Int) (g:List UInt8) (w:World):Prop:=∃role,St role B f g tx z ad vw an ac ms nx w/\Stp role0 role aY W0 w
theorem XSt.byte{B5:Nat->Nat}{W0:World}(L:List UInt8)(hL:(tx=true/\(L.length:Int)=z)∨(tx=false/\L.length<=80/\∀b∈L,b≠10))(hl:L.length<=1000000)(i:Nat)(hi:i<L.length)(w:World)(h:XSt B5 W0 B f tx z ad vw an ac ms nx (L.take i) w):zZ f L[i] w (XSt B5 W0 B f tx z ad vw an ac ms nx (L.take (i+1))):=by
 obtain⟨role,hS,hp⟩:=h;refine(wM hS L[i] (by simp;omega) ?_).mono ?_
 ·rcases hL with⟨rfl,rfl⟩|⟨rfl,h2,h3⟩
  ·exact Or.inl ⟨rfl,by simp;omega⟩
  ·exact Or.inr ⟨rfl,by simp;omega,h3 _ (List.getElem_mem hi)⟩
 ·rintro e w' ⟨rfl,role',h1,h2⟩;refine⟨rfl,role',?_,hp.trans h2⟩;rw[alL hi];exact h1
theorem XSt.nl{B5:Nat->Nat}{W0:World}{L:List UInt8}{tx':Bool}{z':Int}{ad':Array Value}{vw':Option (List ax)}{an':List UInt8}{ac':Nat}{ms':List ap}{nx':Int}{w:World}(h:XSt B5 W0 B f tx z ad vw an ac ms nx L w)(hn:∀role w,St role B f L tx z ad vw an ac ms nx w->Nl f w λw'=>∃role',St role' B f [] tx' z' ad' vw' an' ac' ms' nx' w'/\Stp role role' aY w w'):zZ f 10 w (XSt B5 W0 B f tx' z' ad' vw' an' ac' ms' nx' []):=by
 obtain⟨role,hS,hp⟩:=h;refine(hn role w hS).mono ?_;rintro e w' ⟨rfl,role',h1,h2⟩;exact⟨rfl,role',h1,hp.trans h2⟩
theorem XSt.c16{B5:Nat->Nat}{W0 w:World}(h:XSt B5 W0 B f tx z ad vw an ac ms nx g w):w.cell? ⟨f.P,f.o+15,none⟩=some (.bool false):=by
 obtain⟨role,hS,_⟩:=h;exact hS.tk.cells.2.2.1
end
def VwC (role:Nat->Nat) (B kf c:Nat) (lk:Bool) (vw:Option (List ax)) (vp:Value) (W:World):Prop:=
 match vw with
 |none=>vp=.pointer none
 |some ks=>∃V kv,vp=.pointer (some ⟨V,0,none⟩)/\ce W V kf lk kv/\dW W B kv ks/\role V=30+c/\∀b,kv.ownBlock=some b->role b=40+c
def B4 (role:Nat->Nat) (B kf:Nat) (cs:Array Value) (c:Nat) (lk:Bool) (vw:Option (List ax)) (W:World):Prop:=
 ∃gv vp,cs[1+c*16]?=some gv/\cs[1+c*16+1]?=some (.bool false)/\cs[1+c*16+2]?=some (.int .i64 0)/\cs[1+c*16+3]?=some (.bool false)/\(∀i,i<10->cs[1+c*16+4+i]?=adZ[i]?)/\cs[1+c*16+14]?=some vp/\cs[1+c*16+15]?=some (.bool false)/\W.ownsRow B 5 1 gv 0 []/\(∀b,gv.ownBlock=some b->role b=20+c)/\VwC role B kf c lk vw vp W
structure Dv where
 P:Nat
 kt:Nat
 fr:Nat
 fc:Nat
 kf:Nat
def Dv.fs (d:Dv) (A o:Nat) (ot:Nat->Option Value) (lk:Bool):Fs:=⟨d.P,d.kt,d.fr,d.fc,d.kf,A,o,ot,lk⟩
structure iC (role:Nat->Nat) (B:Nat) (d:Dv) (lk:Nat->Bool) (vw:Nat->Option (List ax)) (ms:List ap) (nx:Int) (W:World):Prop where
 bs:BsR role B W
 tk:∃cs,W.heap[d.P]?=some (.cells cs 88 (0,0))/\cs[0]?=some (.pointer (some ⟨d.kt,0,none⟩))/\∀c,c<3->B4 role B d.kf cs c (lk c) (vw c) W
 rP:role d.P=1
 fo:FoR role B (d.fs 0 0 (λ_=>none) false) ms nx W
 nr:∀b,role b<2∨7<role b
def inR (c r:Nat):Nat:=if r=20+c then 2 else if r=30+c then 6 else if r=40+c then 7 else r
def fe (c r:Nat):Nat:=if r=2 then 20+c else if r=6 then 30+c else if r=7 then 40+c else if r=3∨r=4∨r=5 then 0 else r
theorem Bn{c r:Nat}(h:r<2∨7<r):fe c (inR c r)=r:=by
 unfold inR fe
 by_cases h1:r=20+c
 ·simp[h1]
 ·by_cases h2:r=30+c
  ·simp[h2]
  ·by_cases h3:r=40+c
   ·simp[h3]
   ·simp only[if_neg h1,if_neg h2,if_neg h3];rw[if_neg (by omega),if_neg (by omega),if_neg (by omega),if_neg (by omega)]
theorem jS{c r:Nat}(h:r≠20+c/\r≠30+c/\r≠40+c):inR c r=r:=by
 unfold inR;rw[if_neg h.1,if_neg h.2.1,if_neg h.2.2]
theorem Bm(c r:Nat):fe c r<2∨7<fe c r:=by
 unfold fe
 split
 ·omega
 ·split
  ·omega
  ·split
   ·omega
   ·split
    ·omega
    ·omega
def dK:Obj:=.cells #[.pointer none,.slice none 0 0,.slice none 0 0] 96 (0,0)
section
variable {role:Nat->Nat} {B:Nat} {d:Dv} {lk:Nat->Bool} {vw:Nat->Option (List ax)} {ms:List ap} {nx:Int} {W:World}
noncomputable def eg (role:Nat->Nat) (W:World) (c b:Nat):Nat:=if b=W.heap.size then 3 else if b<W.heap.size then inR c (role b)else 0
theorem iC.start(h:iC role B d lk vw ms nx W)(c:Nat)(hc:c<3):∃cs,W.heap[d.P]?=some (.cells cs 88 (0,0))/\St (eg role W c) B (d.fs W.heap.size (1+c*16) (λj=>cs[j]?) (lk c)) [] false 0 adZ (vw c) [] 0 ms nx (W.alloc dK):=by
 obtain⟨cs,h1,h2,h3⟩:=h.tk;refine⟨cs,h1,?_⟩;have hb:Below W.heap.size W (W.alloc dK):=aw;have B7:∀b,b<W.heap.size->eg role W c b=inR c (role b):=λb hb=>by unfold eg;rw[if_neg (by omega),if_pos hb]
 have Ca:d.P<W.heap.size:=(alJ.1 h1).1;obtain⟨gv,vp,k0,k1,k2,k3,k4,k5,k6,k7,k8,k9⟩:=h3 c hc;have hA:eg role W c W.heap.size=3:=by unfold eg;rw[if_pos rfl]
 have hs:Stp (λb=>inR c (role b)) (eg role W c) [] W (W.alloc dK):=⟨hb.os,hb.tape,hb.output,hb.size,B7,λb B5 _=>hb.block b B5⟩;have B9:BsR (λb=>inR c (role b)) B W:=⟨h.bs.base,h.bs.env,h.bs.rul,λb hB=>by show inR c (role b)=0;rw[h.bs.low b hB];exact jS ⟨by omega,by omega,by omega⟩⟩;have B6:TkR (λb=>inR c (role b)) B (d.fs W.heap.size (1+c*16) (λj=>cs[j]?) (lk c)) [] false 0 adZ (vw c) W:=by
  refine⟨cs,gv,vp,h1,⟨by show 1<=1+c*16;omega,h2,k0,k1,k2,k3,rfl,k4,k5,k6,λj _=>rfl⟩,k7,?_,λb B5=>?_,?_⟩
  ·show inR c (role d.P)=1;rw[h.rP];exact jS ⟨by omega,by omega,by omega⟩
  ·show inR c (role b)=2;rw[k8 b B5];simp[inR]
  ·show VwR (λb=>inR c (role b)) B d.kf (lk c) (vw c) vp W;unfold VwC at k9;unfold VwR
   cases hv:vw c with
   |none=>rw[hv]at k9;exact k9
   |some ks=>
    rw[hv]at k9;obtain⟨V,kv,e1,e2,e3,e4,e5⟩:=k9;refine⟨V,kv,e1,e2,e3,?_,λb B5=>?_⟩
    ·show inR c (role V)=6;rw[e4];simp[inR]
    ·show inR c (role b)=7;rw[e5 b B5];simp[inR]
 have B8:FoR (λb=>inR c (role b)) B (d.fs W.heap.size (1+c*16) (λj=>cs[j]?) (lk c)) ms nx W:=by
  obtain⟨mv,q1,q2,q3⟩:=h.fo.fol;refine⟨h.fo.sto,h.fo.row,⟨mv,q1,q2,λb B5=>?_⟩,?_,?_,?_⟩
  ·show inR c (role b)=9;rw[q3 b B5];exact jS ⟨by omega,by omega,by omega⟩
  ·show inR c (role d.kt)=10;have:=h.fo.rt;rw[show role d.kt=10 from this];exact jS ⟨by omega,by omega,by omega⟩
  ·show inR c (role d.fr)=11;have:=h.fo.rr;rw[show role d.fr=11 from this];exact jS ⟨by omega,by omega,by omega⟩
  ·show inR c (role d.kf)=8;have:=h.fo.rf;rw[show role d.kf=8 from this];exact jS ⟨by omega,by omega,by omega⟩
 refine⟨B9.kept hs (by simp),B6.kept hs (by simp) (by simp) (by simp) (by simp),⟨.pointer none,.slice none 0 0,.slice none 0 0,[],⟨⟨h.bs.base,?_,alA W _,Or.inl rfl,alG _ _ _ _,by simp[Value.ownBlock]⟩,hA,λb hb=>by simp[Value.ownBlock]at hb⟩,alG _ _ _ _,alU,λb hb=>by simp[Value.ownBlock]at hb⟩,B8.kept hs (by simp) (by simp) (by simp) (by simp)⟩;have:=h.bs.base;have:=hb.size;omega
theorem St.rest{B5:Nat->Nat}{A c:Nat}{cs:Array Value}{an:List UInt8}{ac:Nat}{W1 W2:World}{vw':Option (List ax)}{ms':List ap}{nx':Int}(h0:iC role B d lk vw ms nx W)(hc:c<3)(Ch:W.heap[d.P]?=some (.cells cs 88 (0,0)))(h:St B5 B (d.fs A (1+c*16) (λj=>cs[j]?) (lk c)) [] false 0 adZ vw' an ac ms' nx' W1)(hp:Stp (λb=>inR c (role b)) B5 aY W W1)(hq:Stp B5 B5 [4] W1 W2):
  iC (λb=>fe c (B5 b)) B d lk (λj=>if j=c then vw' else vw j) ms' nx' W2/\(∀b,b<W.heap.size->fe c (B5 b)=role b)/\(∀b,b<W.heap.size->inR c (role b)∉aY->W2.heap[b]?=W.heap[b]?)/\W.heap.size<=W2.heap.size:=by
 have B8:∀b,b<W.heap.size->B5 b=inR c (role b):=λb hb=>hp.same b hb
 have B6:∀b,b<W.heap.size->fe c (B5 b)=role b:=λb hb=>by rw[B8 b hb];exact Bn (h0.nr b)
 have B7:∀b,b<W.heap.size->inR c (role b)∉aY->W2.heap[b]?=W.heap[b]?:=λb hb hr=>(hq.block b (alH hb hp.size) (by rw[B8 b hb];intro e;exact hr (by simp at e;rw[e];decide))).trans (hp.block b hb hr)
 have Ca:=h.bs.kept hq (by simp);have Cg:=h.tk.kept hq (by simp) (by simp) (by simp) (by simp);have B9:=h.fo.kept hq (by simp) (by simp) (by simp) (by simp);obtain⟨Cb,Cj,Cf,t1,t2,t3,t4,t5,t6⟩:=Cg;obtain⟨Cc,s1,s2,s3⟩:=h0.tk;have Ci:Cc=cs:=by
  rw[Ch]at s1;injection s1 with s1
  injection s1 with s1
  exact s1.symm
 subst Ci;refine⟨⟨⟨Ca.base,Ca.env,Ca.rul,λb hB=>by show fe c (B5 b)=0;rw[Ca.low b hB];simp[fe]⟩,⟨Cb,t1,t2.st,λj hj=>?_⟩,?_,?_,λb=>Bm c (B5 b)⟩,B6,B7,alS hp.size hq.size⟩
 ·by_cases Cd:j=c
  ·subst Cd;refine⟨Cj,Cf,t2.got,t2.txt,t2.sz,t2.dr,t2.ad,t2.vp,t2.en,t3,λb hb=>?_,?_⟩
   ·show fe j (B5 b)=20+j;rw[t5 b hb];simp[fe]
   ·rw[if_pos rfl];unfold VwC;unfold VwR at t6
    cases vw' with
    |none=>exact t6
    |some ks=>
     obtain⟨V,kv,e1,e2,e3,e4,e5⟩:=t6;refine⟨V,kv,e1,e2,e3,?_,λb hb=>?_⟩
     ·show fe j (B5 V)=30+j;rw[e4];simp[fe]
     ·show fe j (B5 b)=40+j;rw[e5 b hb];simp[fe]
  ·obtain⟨gv,vp,k0,k1,k2,k3,k4,k5,k6,k7,k8,k9⟩:=s3 j hj;have ho:∀i,i<16->Cb[1+j*16+i]?=Cc[1+j*16+i]?:=λi hi=>t2.oth _ (by show 1+j*16+i<1+c*16∨1+c*16+16<=1+j*16+i;omega)
   have hn:∀r,r=20+j∨r=30+j∨r=40+j->inR c r∉aY:=λr hr=>by
    rw[jS ⟨by omega,by omega,by omega⟩];simp[aY];omega
   refine⟨gv,vp,(ho 0 (by decide)).trans k0,(ho 1 (by decide)).trans k1,(ho 2 (by decide)).trans k2,(ho 3 (by decide)).trans k3,λi hi=>(by rw[Nat.add_assoc];exact ho (4+i) (by omega):Cb[1+j*16+4+i]?=Cc[1+j*16+(4+i)]?).trans (by rw[←Nat.add_assoc];exact k4 i hi),(ho 14 (by decide)).trans k5,(ho 15 (by decide)).trans k6,au (λb hb=>B7 b (k7.lt b hb).2 (hn _ (Or.inl (k8 b hb)))) k7,λb hb=>by show fe c (B5 b)=20+j;rw[B6 b (k7.lt b hb).2];exact k8 b hb,?_⟩;rw[if_neg Cd];unfold VwC at k9⊢
   cases hv:vw j with
   |none=>rw[hv]at k9;exact k9
   |some ks=>
    rw[hv]at k9;obtain⟨V,kv,e1,e2,e3,e4,e5⟩:=k9;have Ce:=e2.cells.2.2.2.2;exact⟨V,kv,e1,(B7 V Ce (hn _ (Or.inr (Or.inl e4)))).trans e2,au (λb hb=>B7 b (e3.lt b hb).2 (hn _ (Or.inr (Or.inr (e5 b hb))))) e3,by show fe c (B5 V)=30+j;rw[B6 V Ce];exact e4,λb hb=>by show fe c (B5 b)=40+j;rw[B6 b (e3.lt b hb).2];exact e5 b hb⟩
 ·show fe c (B5 d.P)=1;rw[show B5 d.P=1 from t4];simp[fe]
 ·obtain⟨mv,q1,q2,q3⟩:=B9.fol;refine⟨B9.sto,B9.row,⟨mv,q1,q2,λb hb=>?_⟩,?_,?_,?_⟩
  ·show fe c (B5 b)=9;rw[q3 b hb];simp[fe]
  ·show fe c (B5 d.kt)=10;rw[show B5 d.kt=10 from B9.rt];simp[fe]
  ·show fe c (B5 d.fr)=11;rw[show B5 d.fr=11 from B9.rr];simp[fe]
  ·show fe c (B5 d.kf)=8;rw[show B5 d.kf=8 from B9.rf];simp[fe]
end
end Go.Proofs.YtbeahecjbokjjaaGreatDoor
