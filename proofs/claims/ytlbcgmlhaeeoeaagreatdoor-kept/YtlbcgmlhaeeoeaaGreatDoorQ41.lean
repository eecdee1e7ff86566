import Derived.Test.YtlbcgmlhaeeoeaaGreatDoorQ40
set_option maxRecDepth 100000
set_option maxHeartbeats 16000000
namespace Go.Proofs.YtlbcgmlhaeeoeaaGreatDoor
open Go.RowKit Go.Lib
theorem zz{I:Nat->World->Prop}{Z:World->(Nat->Nat)->Value->List UInt8->Prop}{P B:Nat}{W:World}(B1:ByteArray)(hc:B1.data.toList.length<=2000)(Co:W.cell? ⟨P,16,none⟩=some (.bool false))(_hPw:P<W.heap.size)
  (h0:I 0 (W.alloc (.cells #[.pointer none,.slice none 0 0,.slice none 0 0] 153)))
  (B9:∀i w,I i w->w.cell? ⟨P,16,none⟩=some (.bool false))
  (B3:∀(i:Nat) (hi:i<B1.data.toList.length) (w:World),I i w->Calls Tryz.prog 53 #[.pointer (some ⟨P,0,none⟩),.pointer (some ⟨P,1,none⟩),.int .u8 ((B1.data.toList[i]).toNat:Int),.pointer (some ⟨W.heap.size,0,none⟩)] w λe w'=>e=.returned (.tuple #[])/\I (i+1) w')
  (B4:∀w,I B1.data.toList.length w->∃role p v a an,AnR role B W.heap.size p v a an w/\an≠[]/\Z w role a an/\∃aa an' ac',a=.slice aa an' ac'):
  Calls Tryz.prog 33 #[.pointer (some ⟨P,0,none⟩),.int .i64 0,.string B1] W λe w'=>∃w1 role a an,Z w1 role a an/\e=.returned (.tuple #[.string ⟨an.toArray⟩,a,.int .i64 0])/\Stp role role [4] w1 w':=by
 have Ca:B1.size=B1.data.toList.length:=Lib.size_eq B1;have Cn:¬(2000:Int)<(B1.size:Int):=by omega
 have HC:=hid Ca;have H0:=hid h0;have Cm:=hid B9;have Cj:=hid B3;have B7:=hid B4;clear h0 B9 B3 B4 Ca;go_enter Tryz.func33,Tryz.ntmps33;go_wp2_with fail;generalize(W.alloc (.cells #[.pointer none,.slice none 0 0,.slice none 0 0] 153))=w0 at*;go_loopw [11] (λi wr=>∃(k:Nat),k<=B1.size/\i=.int .i64 k/\Hid (I k wr)) (λi _=>B1.size-(RowKit.intOf i).toNat)
 case atStart=>exact⟨0,alT _,rfl,H0⟩
 case round=>
  obtain⟨k,hk,rfl,hI⟩:=hrel;have Ci:=Cm.out k wr hI.out
  by_cases Ce:k<B1.size
  ·have B8:k<B1.data.toList.length:=by rw[←HC.out];exact Ce
   have Cg:=yQ (it:=B1) B8;have gT:=Cj.out k B8 wr hI.out;generalize B1.data.toList[k]=ck at*;clear hI;go_wp2_with fail;refine gT.mono ?_;rintro e w1 ⟨rfl,Cb⟩;have Cl:=hid Cb;clear gT Cb Ci Cg;go_wp2_with fail;exact⟨⟨k+1,by omega,by simp,Cl⟩,by simp[RowKit.intOf];omega⟩
  ·have Cf:k=B1.data.toList.length:=by rw[←HC.out];omega
   obtain⟨role,p,v,a,an,hA,Cd,hZ,aa,an',ac',ha⟩:=B7.out wr (by rw[←Cf];exact hI.out);subst ha;have c2:=hA.at'.blk.cells.2.2.1;have Ch:W.heap.size<wr.heap.size:=hA.at'.blk.cells.2.2.2.2;have Cc:=hA.blk;have gS:=zK (W:=wr.drew) (role:=role) (hA.kept (Stp.of_below role [] ((Below.refl _ wr).drew)) (by simp) (by simp)) Cd;have HZ:=hid hZ;clear hA hZ;go_wp2_with fail;refine aA 11 (λw':World=>w'.cell? ⟨W.heap.size,2,none⟩=some (.slice aa an' ac')) 11 rfl (by kernel_rfl) c2 (λa' Q hA hQ hP hS=>?_);have z:a'.tmps.size=65:=by rw[hA.out];rfl
   have B6:a'.eval (.tmp 10)=Value.pointer (some ⟨W.heap.size,0,none⟩):=by rw[hA.out];rfl
   refine tkA 0 (some 57) rfl rfl hP (λwx hw=>ah rfl B6) hS ?_;refine tkA 1 (some 58) rfl rfl hP (λwx hw=>aS rfl (evz z)) hS ?_;refine tkA 2 (some 59) rfl rfl hP (λwx hw=>aj ⟨W.heap.size,0,none⟩ rfl (evz (szq z))) hS ?_;refine tkA 4 (some 61) rfl rfl hP (λwx hw=>ah rfl (ev2 (ev1 B6))) hS ?_;refine tkA 5 (some 62) rfl rfl hP (λwx hw=>aS rfl (evz (sz2 (szq z)))) hS ?_;refine tkA 6 (some 63) rfl rfl hP (λwx hw=>aj ⟨W.heap.size,2,none⟩ rfl (evz (sz4 z))) hS ?_;refine tkA 7 (some 64) rfl rfl hP (λwx hw=>aq rfl (evz (sz4 (szq z))) (aH hw)) hS ?_;refine cE (i:=3) (d:=some 60) (by kernel_rfl) rfl rfl rfl rfl Tryz.func54 (by kernel_rfl) rfl (mF (ev4 (evz (sz2 z)))) gS ?_;rintro e w5 ⟨rfl,B5⟩;have hS:w5.cell? ⟨W.heap.size,2,none⟩=some (.slice aa an' ac'):=(B5.cell (o:=2) Cc (by decide) Ch).trans c2;refine⟨_,rfl,λ_=>hS,?_⟩;refine tkA 8 (some 6) rfl rfl hP (λwx hw=>aR rfl (evz (sz4 (sz2 (szq z))))) hS ?_;refine tkA 9 (some 7) rfl rfl hP (λwx hw=>aR rfl (ev2 (evz (sz4 (sz2 z))))) hS ?_;refine tkA 10 (some 8) rfl rfl hP (λwx hw=>aR rfl rfl) hS ?_;refine aB (by kernel_rfl) (hQ.out _ _ ?_) _;rw[hA.out];simp only[Act.put,List.setIfInBounds_toArray];dsimp only[List.set];clear hQ hP hA z hS Q a' B6;have Ck:Hid (Stp role role [4] wr w5):=(Stp.of_below role _ ((Below.refl _ wr).drew)).trans B5;clear B5 gS c2;go_wp2_with fail;go_ret3;exact⟨wr,role,_,an,HZ.out,rfl,Ck.out⟩
theorem o6{n:Nat}{w:List UInt8}(h:(cB.take n).all (λx=>decide (x.word≠w))=true):∀(j:Nat) (x:dd),j<n->cB[j]?=some x->x.word≠w:=λj x hj hx=>by
 have:=List.all_eq_true.1 h x (List.mem_of_getElem? (by rw[List.getElem?_take_of_lt hj];exact hx));simpa using this
section
variable {role role':Nat->Nat} {S:List Nat} {B:Nat} {W W':World} {f:Fs} {g:List UInt8} {tx:Bool} {z:Int} {ad:Array Value} {vw:Option (List aQ)} {an:List UInt8} {ac:List bL} {ms:List al} {nx:Int}
def fu:List UInt8:=[97,32,79,80,69,78,32,105,110]
def jh:List UInt8:=[98,32,71,69,84,32,49,58,42,32,85,84]
def lB:List UInt8:=[98,32,80,76,85,83,32,49,32,100]
def jE:List UInt8:=[99,32,83,87,69,69,80]
def eR (c:UInt8):List UInt8:=[c,32,83,72,85,84]
def Nl (f:Fs) (W:World) (Q:World->Prop):Prop:=Calls Tryz.prog 53 #[.pointer (some ⟨f.P,0,none⟩),.pointer (some ⟨f.P,1,none⟩),.int .u8 10,.pointer (some ⟨f.A,0,none⟩)] W λe w'=>e=.returned (.tuple #[])/\Q w'
theorem nk(h:St role B f fu false z ad none an ac ms nx W)(B1:aF ms nx)(hl:an.length<=600000):
  Nl f W λw'=>∃role',St role' B f [] false 0 ad (some (bb ms)) (an++bZ nx ms.length++[97,32,79,75,10]) ac ms nx w'/\Stp role role' bO W w':=by
 have h8:=B1.len;have B7:=B1.lo;have B8:=B1.hi;have hv:=sQ B1;have B6:(bZ nx ms.length).length<=10000:=by
  have h1:=cY nx (by omega) (by omega);have h2:=cY (ms.length:Int) (by omega) (by omega);simp[bZ];omega
 refine fg h λW1 B5 h1=>?_
 refine sh (Q:=λse _=>se=.slice none 0 0) h1 ⟨fu.toArray⟩ ⟨#[97]⟩ 4 0 aw ⟨#[]⟩ 0 ⟨#[]⟩ ⟨#[]⟩ rfl ?_ ?_
 ·refine(xh 97 (by decide) (by decide) false ⟨fu.toArray⟩ (by decide) (by decide) W1 h1.bs.e h1.bs.r).mono ?_;rintro e w' ⟨rfl,hb⟩;exact⟨none,0,0,rfl,rfl,hb⟩
 ·intro sa sn sc w1 w2 B4 hQ B9 h2;injection hQ with e1 e2 e3
  subst e1 e2 e3;have hc:=dO (ok:=true) (vw':=some (bb ms)) (an':=an++bZ nx ms.length) (ac':=ac) (ms':=ms) (nx':=nx) h2 ⟨#[97]⟩ 4 0 aw ⟨#[]⟩ 0 ⟨#[]⟩ (.slice none 0 0) ⟨#[]⟩ (.slice none 0 0) (Or.inl rfl) (λW3 B3 h3 _=>by
   have:=AL h3 (by omega) (by omega) (by omega) (by omega) ⟨#[97]⟩;rw[hv,dF]at this;exact this) (λks e=>by injection e with e;subst e;rw[dF];omega) (λm hm=>by have:=(B1.fl m hm).2;omega) (by decide) (by simp[cP];omega)
  refine hc.mono ?_;rintro e w' ⟨rfl,role',h5,h6⟩;refine⟨rfl,role',?_,h6⟩;simpa[eg,cP,dQ]using h5
theorem zd(h:St role B f jh false z ad (some (bb ms)) an ac ms nx W)(B1:aF ms nx)(B7:ms≠[])(hl:an.length+(aZ [85,84] (aP ms)).length<=600000):
  Nl f W λw'=>∃role',St role' B f [] false 0 ad (some (bb ms)) (an++aZ [85,84] (aP ms)++[98,32,79,75,10]) ac ms nx w'/\Stp role role' bO W w':=by
 have h8:=B1.len;have hu:=wm B1;refine fg h λW1 B5 h1=>?_
 refine fv (Q:=λse w=>∃sg sc,se=.slice (some ⟨sg,0,none⟩) 1 sc/\eG w sg 1 0) h1 ⟨jh.toArray⟩ ⟨#[98]⟩ 8 1 ⟨#[]⟩ ⟨#[]⟩ 0 ⟨#[]⟩ ⟨#[85,84]⟩ rfl ?_ ?_
 ·refine(tA 98 (by decide) (by decide) ⟨jh.toArray⟩ (by decide) (by decide) W1 h1.bs.e h1.bs.r).mono ?_;rintro e w' ⟨⟨sg,sc,rfl,_,hs⟩,hb⟩;exact⟨some ⟨sg,0,none⟩,1,sc,rfl,⟨sg,sc,rfl,hs⟩,hb⟩
 ·rintro sa sn sc w1 w2 B4 ⟨sg,Ca,hQ,hs⟩ B9 h2;injection hQ with e1 e2 e3
  subst e1 e2 e3;have B6:=hs.kept (B9.block sg hs.lt);have hc:=dO (ok:=true) (vw':=some (bb ms)) (an':=an++aZ [85,84] (aP ms)) (ac':=ac) (ms':=ms) (nx':=nx) h2 ⟨#[98]⟩ 8 1 ⟨#[]⟩ ⟨#[]⟩ 0 ⟨#[]⟩ (.slice (some ⟨sg,0,none⟩) 1 sc) ⟨#[85,84]⟩ (.slice none 0 0) (Or.inr (Or.inl rfl)) (λW3 B3 h3 B8=>Bz h3 B1 B7 (B6.kept (B8.block sg B6.lt)) ⟨#[98]⟩ (by omega)) (λks e=>by injection e with e;subst e;rw[dF];omega) (λm hm=>by have:=(B1.fl m hm).2;omega) (by decide) (by simp[cP,hu,bg];omega);refine hc.mono ?_;rintro e w' ⟨rfl,role',h5,h6⟩;refine⟨rfl,role',?_,h6⟩;simpa[eg,cP,dQ,hu,bg]using h5
theorem qE(h:St role B f jh false z ad (some []) an ac [] nx W)(hl:an.length<=600000):
  Nl f W λw'=>∃role',St role' B f [] false 0 ad (some []) (an++[98,32,78,79,10]) ac [] nx w'/\Stp role role' bO W w':=by
 have hu:cq false [] []=([],[]):=rfl;refine fg h λW1 B4 h1=>?_
 refine fv (Q:=λse w=>∃sg sc,se=.slice (some ⟨sg,0,none⟩) 1 sc/\eG w sg 1 0) h1 ⟨jh.toArray⟩ ⟨#[98]⟩ 8 1 ⟨#[]⟩ ⟨#[]⟩ 0 ⟨#[]⟩ ⟨#[85,84]⟩ rfl ?_ ?_
 ·refine(tA 98 (by decide) (by decide) ⟨jh.toArray⟩ (by decide) (by decide) W1 h1.bs.e h1.bs.r).mono ?_;rintro e w' ⟨⟨sg,sc,rfl,_,hs⟩,hb⟩;exact⟨some ⟨sg,0,none⟩,1,sc,rfl,⟨sg,sc,rfl,hs⟩,hb⟩
 ·rintro sa sn sc w1 w2 B3 ⟨sg,B5,hQ,hs⟩ B7 h2;injection hQ with e1 e2 e3
  subst e1 e2 e3;have hc:=dO (ok:=false) (vw':=some []) (an':=an) (ac':=ac) (ms':=[]) (nx':=nx) h2 ⟨#[98]⟩ 8 1 ⟨#[]⟩ ⟨#[]⟩ 0 ⟨#[]⟩ (.slice (some ⟨sg,0,none⟩) 1 sc) ⟨#[85,84]⟩ (.slice none 0 0) (Or.inr (Or.inl rfl)) (λW3 B1 h3 B6=>ue h3 ⟨#[98]⟩) (λks e=>by injection e with e;subst e;simp) (by simp) (by decide) (by simp[cP,hu,bg];omega);refine hc.mono ?_;rintro e w' ⟨rfl,role',h5,h6⟩;refine⟨rfl,role',?_,h6⟩;simpa[eg,cP,dQ,hu,bg]using h5
theorem nj{ks:List aQ}(c:UInt8)(B7:c=99∨c=100)(h:St role B f (eR c) false z ad (some ks) an ac ms nx W)(B6:∀m∈ms,m.flags.length<=1000)(hl:an.length<=600000):
  Nl f W λw'=>∃role',St role' B f [] false 0 ad none (an++[c,32,79,75,10]) ac ms nx w'/\Stp role role' bO W w':=by
 have B1:97<=c.toNat/\c.toNat<=122/\Mb.splitC 32 (eR c)=[[c],[83,72,85,84]]:=by rcases B7 with rfl|rfl<;>decide
 refine fg h λW1 B5 h1=>?_
 refine fv (Q:=λse _=>se=.slice none 0 0) h1 ⟨(eR c).toArray⟩ ⟨#[c]⟩ 6 0 ⟨#[]⟩ ⟨#[]⟩ 0 ⟨#[]⟩ ⟨#[]⟩ rfl ?_ ?_
 ·refine(o9 6 ⟨[83,72,85,84],6,[],false,true,0⟩ rfl rfl rfl (o6 (by decide)) (by decide) c B1.1 B1.2.1 ⟨(eR c).toArray⟩ (by simp[eR,ByteArray.size]) (by simpa using B1.2.2) W1 h1.bs.e h1.bs.r).mono ?_;rintro e w' ⟨rfl,hb⟩;exact⟨none,0,0,rfl,rfl,hb⟩
 ·intro sa sn sc w1 w2 B4 hQ B8 h2;injection hQ with e1 e2 e3
  subst e1 e2 e3;have hc:=dO (ok:=true) (vw':=none) (an':=an) (ac':=ac) (ms':=ms) (nx':=nx) h2 ⟨#[c]⟩ 6 0 ⟨#[]⟩ ⟨#[]⟩ 0 ⟨#[]⟩ (.slice none 0 0) ⟨#[]⟩ (.slice none 0 0) (Or.inl rfl) (λW3 B3 h3 _=>AJ h3 ⟨#[c]⟩) (λks e=>by cases e) B6 (by simp) (by simp[cP];omega);refine hc.mono ?_;rintro e w' ⟨rfl,role',h5,h6⟩;refine⟨rfl,role',?_,h6⟩;simpa[eg,cP,dQ]using h5
theorem xH{x:al}{r:List al}(h:St role B f lB false z ad (some (bb (x::r))) an ac (x::r) nx W)(B1:aF (x::r) nx)(B6:x.flags=[])(Ca:ac.length<=1000)(hl:an.length<=600000):
  Nl f W λw'=>∃role',St role' B f [] false 0 ad (some (⟨x.uid,[100]⟩::bb r)) (an++(el.data.toList++[10]++[98,32,79,75,10])) (ac++aK [105,110,47,108,105,115,116] (Mb.textOf 1 nx ((⟨x.key,x.uid,[100],x.came,x.text⟩::r:List al).map az))) (⟨x.key,x.uid,[100],x.came,x.text⟩::r) nx w'/\Stp role role' bO W w':=by
 have h8:=B1.len;have hu:=uo B1 B6;refine fg h λW1 B5 h1=>?_
 refine fv (Q:=λse w=>∃sg sc,se=.slice (some ⟨sg,0,none⟩) 1 sc/\eG w sg 1 1) h1 ⟨lB.toArray⟩ ⟨#[98]⟩ 9 1 ⟨#[]⟩ ⟨#[100]⟩ 0 ⟨#[]⟩ ⟨#[]⟩ rfl ?_ ?_
 ·refine(xg 98 (by decide) (by decide) ⟨lB.toArray⟩ (by decide) (by decide) W1 h1.bs.e h1.bs.r).mono ?_;rintro e w' ⟨⟨sg,sc,rfl,_,hs⟩,hb⟩;exact⟨some ⟨sg,0,none⟩,1,sc,rfl,⟨sg,sc,rfl,hs⟩,hb⟩
 ·rintro sa sn sc w1 w2 B4 ⟨sg,Cb,hQ,hs⟩ B9 h2;injection hQ with e1 e2 e3
  subst e1 e2 e3;have B7:=hs.kept (B9.block sg hs.lt);have hc:=dO (ok:=true) (vw':=some (bb (x::r))) (an':=an) (ac':=ac++aK [105,110,47,108,105,115,116] (Mb.textOf 1 nx ((⟨x.key,x.uid,[100],x.came,x.text⟩::r:List al).map az))) (ms':=⟨x.key,x.uid,[100],x.came,x.text⟩::r) (nx':=nx) h2 ⟨#[98]⟩ 9 1 ⟨#[]⟩ ⟨#[100]⟩ 0 ⟨#[]⟩ (.slice (some ⟨sg,0,none⟩) 1 sc) ⟨#[]⟩ (.slice none 0 0) (Or.inr (Or.inl rfl)) (λW3 B3 h3 B8=>AK h3 B1 B6 Ca (B7.kept (B8.block sg B7.lt)) ⟨#[98]⟩) (λks e=>by injection e with e;subst e;rw[dF];simp at h8⊢;omega) (λm hm=>by have:=((B1.head [100] (by decide) (by decide)).fl m hm).2;omega) (by decide) (by simp[cP,hu,bg,el];omega);refine hc.mono ?_;rintro e w' ⟨rfl,role',h5,h6⟩;refine⟨rfl,role',?_,h6⟩;simpa[eg,cP,dQ,hu,bg]using h5
theorem vG{x:al}{r:List al}{fk:List UInt8}(h:St role B f jE false z ad (some (⟨x.uid,fk⟩::bb r)) an ac (x::r) nx W)(B1:aF (x::r) nx)(B7:x.flags=[100])(B6:∀m∈r,m.flags=[])(B8:ac.length<=1000)(hl:an.length<=600000):
  Nl f W λw'=>∃role',St role' B f [] false 0 ad (some (bb r)) (an++(gX.data.toList++[10]++[99,32,79,75,10])) (ac++(cV ([105,110,47]++Lib.itoa x.key++[46])++aK [105,110,47,108,105,115,116] (Mb.textOf 1 nx (r.map az)))) r nx w'/\Stp role role' bO W w':=by
 have h8:=B1.len;have hu:=sR B1 fk;refine fg h λW1 B5 h1=>?_
 refine fv (Q:=λse _=>se=.slice none 0 0) h1 ⟨jE.toArray⟩ ⟨#[99]⟩ 13 2 ⟨#[]⟩ ⟨#[]⟩ 0 ⟨#[]⟩ ⟨#[]⟩ rfl ?_ ?_
 ·refine(o9 13 ⟨[83,87,69,69,80],13,[],false,true,2⟩ rfl rfl rfl (o6 (by decide)) (by decide) 99 (by decide) (by decide) ⟨jE.toArray⟩ (by decide) (by decide) W1 h1.bs.e h1.bs.r).mono ?_;rintro e w' ⟨rfl,hb⟩;exact⟨none,0,0,rfl,rfl,hb⟩
 ·intro sa sn sc w1 w2 B4 hQ B9 h2;injection hQ with e1 e2 e3
  subst e1 e2 e3;have hc:=dO (ok:=true) (vw':=some (⟨x.uid,fk⟩::bb r)) (an':=an) (ac':=ac++(cV ([105,110,47]++Lib.itoa x.key++[46])++aK [105,110,47,108,105,115,116] (Mb.textOf 1 nx (r.map az)))) (ms':=r) (nx':=nx) h2 ⟨#[99]⟩ 13 2 ⟨#[]⟩ ⟨#[]⟩ 0 ⟨#[]⟩ (.slice none 0 0) ⟨#[]⟩ (.slice none 0 0) (Or.inr (Or.inr rfl)) (λW3 B3 h3 _=>zF h3 B1 B7 B6 B8 ⟨#[99]⟩) (λks e=>by injection e with e;subst e;simp[dF]at h8⊢;omega) (λm hm=>by rw[B6 m hm];simp) (by decide) (by simp[cP,hu,bg,gX];omega);refine hc.mono ?_;rintro e w' ⟨rfl,role',h5,h6⟩;refine⟨rfl,role',?_,h6⟩;simpa[eg,cP,dQ,hu,bg]using h5
end
section
variable {role role':Nat->Nat} {S:List Nat} {B:Nat} {W W':World} {f:Fs} {g:List UInt8} {tx:Bool} {z:Int} {ad:Array Value} {vw:Option (List aQ)} {an:List UInt8} {ac:List bL} {ms:List al} {nx:Int}
def dY (n:Nat):List UInt8:=[97,32,65,68,68,32,105,110,32,45,32]++Lib.itoa (n:Int)
theorem nW(n:Nat):Mb.splitC 32 (dY n)=[[97],[65,68,68],[105,110],[45],Lib.itoa (n:Int)]:=by
 have h:dY n=[97]++32::([65,68,68]++32::([105,110]++32::([45]++32::Lib.itoa (n:Int)))):=rfl;rw[h,Mb.splitC_app 32 _ _ (by decide),Mb.splitC_app 32 _ _ (by decide),Mb.splitC_app 32 _ _ (by decide),Mb.splitC_app 32 _ _ (by decide),Mb.splitC_free 32 _ (Mb.itoa_ne32 _ (by omega))]
theorem fH(n:Nat)(hn:n<9223372036854775808):(dY n).length<=30:=by
 have:=Mb.itoa_len 19 (n:Int) (by decide) (by omega) (by have:((10^19:Nat):Int)=10000000000000000000:=rfl;omega);simp[dY];omega
theorem pu(n:Nat):∀b∈dY n,b≠10:=λb hb=>by
 rcases List.mem_append.1 hb with hb|hb
 ·exact(by decide:∀b∈([97,32,65,68,68,32,105,110,32,45,32]:List UInt8),b≠10) b hb
 ·exact Mb.itoa_ne10 _ (by omega) b hb
theorem ze(n:Nat)(hn:n<=40)(h:St role B f (dY n) false z adZ none an ac ms nx W)(hl:an.length<=600000):
  Nl f W λw'=>∃role',St role' B f [] true (n:Int) (adL ⟨#[97]⟩ (n:Int)) none (an++[43,10]) ac ms nx w'/\Stp role role' bO W w':=by
 have B3:=nW n;have B4:=fH n (by omega);refine fg h λW1 B1 h1=>?_
 refine zu h1 ⟨(dY n).toArray⟩ ⟨#[97]⟩ (n:Int) (by omega) ?_;exact yZ 97 (by decide) (by decide) false n hn ⟨(dY n).toArray⟩ (by simp[ByteArray.size];omega) (by simpa using B3) W1 h1.bs.e h1.bs.r
theorem r9(n:Nat)(hn:40<n)(B3:n<9223372036854775808)(h:St role B f (dY n) false z ad none an ac ms nx W)(hi:Lib.itoa (n:Int)≠[])(hl:an.length<=600000):
  Nl f W λw'=>∃role',St role' B f [] false 0 ad none (an++[97,32,66,65,68,10]) ac ms nx w'/\Stp role role' bO W w':=by
 have B5:=nW n;have B4:=fH n B3;refine fg h λW1 B1 h1=>?_
 refine zt h1 ⟨(dY n).toArray⟩ ⟨#[97]⟩ (by decide) (by omega) ?_;exact rQ 97 (by decide) (by decide) false n hn B3 (by simp[dY]at B4;omega) hi ⟨(dY n).toArray⟩ (by simp[ByteArray.size];omega) (by simpa using B5) W1 h1.bs.e h1.bs.r
theorem zW(h:St role B f g true z (adL ⟨#[97]⟩ z) none an ac ms nx W)(hz:(g.length:Int)=z)(hg:g.length<=40)(B6:aF ms nx)(hn:ms.length<8)(hx:nx<=99)(k:Nat)(B9:1<=k)(B8:k<=8)(B3:∀j:Nat,1<=j->j<k->bo (j:Int) ms=true)(B7:bo (k:Int) ms=false)(Ca:ac.length<=1000)(hl:an.length<=600000):
  Nl f W λw'=>∃role',St role' B f [] false 0 adZ none (an++[97,32,79,75,10]) (ac++dV k g ms nx) (ms++[⟨(k:Int),nx,[],[],g⟩]) (nx+1) w'/\Stp role role' bO W w':=by
 have B1:=B6.snoc hn hx k B9 B8 B7 g hg;refine q9 h hz λW1 B5 h1=>?_
 have hc:=dO (ok:=true) (vw':=none) (an':=an) (ac':=ac++dV k g ms nx) (ms':=ms++[⟨(k:Int),nx,[],[],g⟩]) (nx':=nx+1) h1 ⟨#[97]⟩ 7 2 aw ⟨#[]⟩ z ⟨g.toArray⟩ (.slice none 0 0) ⟨#[]⟩ (.slice none 0 0) (Or.inr (Or.inr rfl)) (λW3 B4 h3 _=>by
  have:=yl h3 B6 hn hx k B9 B8 B3 B7 ⟨g.toArray⟩ (by simpa using hg) Ca ⟨#[97]⟩ z;simpa using this) (λks e=>by cases e) (λm hm=>by have:=(B1.fl m hm).2;omega) (by decide) (by simp[cP,bg];omega)
 refine hc.mono ?_;rintro e w' ⟨rfl,role',h5,h6⟩;refine⟨rfl,role',?_,h6⟩;simpa[eg,cP,dQ,bg]using h5
theorem zX(h:St role B f g true z (adL ⟨#[97]⟩ z) none an ac ms nx W)(hz:(g.length:Int)=z)(hg:g.length<=40)(B5:aF ms nx)(B1:ms.length=8∨nx=100)(B6:ac.length<=1000)(hl:an.length<=600000):
  Nl f W λw'=>∃role',St role' B f [] false 0 adZ none (an++[97,32,78,79,10]) ac ms nx w'/\Stp role role' bO W w':=by
 refine q9 h hz λW1 B4 h1=>?_
 have hc:=dO (ok:=false) (vw':=none) (an':=an) (ac':=ac) (ms':=ms) (nx':=nx) h1 ⟨#[97]⟩ 7 2 aw ⟨#[]⟩ z ⟨g.toArray⟩ (.slice none 0 0) ⟨#[]⟩ (.slice none 0 0) (Or.inr (Or.inr rfl)) (λW3 B3 h3 _=>ym h3 B1 B5.len ⟨g.toArray⟩ (by simpa using hg) B6 ⟨#[97]⟩ z) (λks e=>by cases e) (λm hm=>by have:=(B5.fl m hm).2;omega) (by decide) (by simp[cP,bg];omega);refine hc.mono ?_;rintro e w' ⟨rfl,role',h5,h6⟩;refine⟨rfl,role',?_,h6⟩;simpa[eg,cP,dQ,bg]using h5
end
end Go.Proofs.YtlbcgmlhaeeoeaaGreatDoor
