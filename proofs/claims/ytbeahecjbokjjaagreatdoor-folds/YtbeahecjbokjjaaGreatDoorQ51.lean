import Derived.Test.YtbeahecjbokjjaaGreatDoorQ45
import Derived.Test.YtbeahecjbokjjaaGreatDoorQ50
set_option maxRecDepth 100000
set_option maxHeartbeats 16000000
namespace Go.Proofs.YtbeahecjbokjjaaGreatDoor
open Go.RowKit Go.Lib
def Bb (w:World) (b off n:Nat):Prop:=∀i,i<n->∃(o:Bool) (y z:Int),w.cell? ⟨b,off+i*3,none⟩=some (.bool o)/\w.cell? ⟨b,off+i*3+1,none⟩=some (.int .i64 y)/\w.cell? ⟨b,off+i*3+2,none⟩=some (.int .i64 z)/\(-9223372036854775808<=y/\y<=9223372036854775807)/\(-9223372036854775808<=z/\z<=9223372036854775807)
def BS (w:World) (a:Option Addr) (n:Nat):Prop:=n=0∨∃b off,a=some ⟨b,off,none⟩/\b<w.heap.size/\Bb w b off n
theorem vb{g off n cap k:Nat}{w:World}(hk:k<n):(Instr.indexAt 22 (.slice (some ⟨g,off,none⟩) n cap) (.int .i64 (k:Int))).run Tryz.prog w=.ok (.pointer (some ⟨g,off+k*3,none⟩)) w:=by
 have h1:¬(k:Int)<0:=by omega
 have h2:((k:Int)).toNat=k:=by omega
 go_simp
theorem AY:(⟨BE.toArray⟩:ByteArray)=⟨#[43,10,97,32,79,75,10,43,10,98,32,79,75,10,42,32,69,80,79,67,72,32,49,10,42,32,78,69,88,84,32,51,10,42,32,67,79,85,78,84,32,50,10,99,32,79,75,10]⟩:=by decide+kernel
def rg:List (List UInt8):=[[45],[115]]
def ir (W:World):World:=(((W.alloc (.cells #[.string ⟨#[45]⟩,.string ⟨#[115]⟩] 9)).alloc (.cells #[.slice (some ⟨W.heap.size,0,none⟩) 2 2,.bool false] 35)).alloc (.cells #[.string ⟨#[45]⟩,.string ⟨#[115]⟩] 9)).alloc (.cells #[.slice (some ⟨W.heap.size+1+1,0,none⟩) 2 2,.bool false] 35)
theorem tE(W:World):Below W.heap.size W (ir W)/\(ir W).heap[W.heap.size]?=some (.cells #[.string ⟨#[45]⟩,.string ⟨#[115]⟩] 9 (0,0))/\(ir W).heap[W.heap.size+1]?=some (.cells #[.slice (some ⟨W.heap.size,0,none⟩) 2 2,.bool false] 35 (0,0))/\(ir W).heap[W.heap.size+1+1]?=some (.cells #[.string ⟨#[45]⟩,.string ⟨#[115]⟩] 9 (0,0))/\(ir W).heap[W.heap.size+1+1+1]?=some (.cells #[.slice (some ⟨W.heap.size+1+1,0,none⟩) 2 2,.bool false] 35 (0,0))/\(ir W).heap.size=W.heap.size+4:=by
 refine⟨((aw.alloc (by simp) _).alloc (by simp;omega) _).alloc (by simp;omega) _,?_,?_,?_,?_,?_⟩
 ·exact((alB _ _ (by simp;omega)).trans (alB _ _ (by simp;omega))).trans ((alB _ _ (by simp)).trans (alA W _))
 ·refine((alB _ _ (by simp)).trans (alB _ _ (by simp))).trans ?_;have:=alA (W.alloc (.cells #[.string ⟨#[45]⟩,.string ⟨#[115]⟩] 9)) (.cells #[.slice (some ⟨W.heap.size,0,none⟩) 2 2,.bool false] 35);simpa using this
 ·refine(alB _ _ (by simp)).trans ?_;have:=alA ((W.alloc (.cells #[.string ⟨#[45]⟩,.string ⟨#[115]⟩] 9)).alloc (.cells #[.slice (some ⟨W.heap.size,0,none⟩) 2 2,.bool false] 35)) (.cells #[.string ⟨#[45]⟩,.string ⟨#[115]⟩] 9);simpa using this
 ·have:=alA (((W.alloc (.cells #[.string ⟨#[45]⟩,.string ⟨#[115]⟩] 9)).alloc (.cells #[.slice (some ⟨W.heap.size,0,none⟩) 2 2,.bool false] 35)).alloc (.cells #[.string ⟨#[45]⟩,.string ⟨#[115]⟩] 9)) (.cells #[.slice (some ⟨W.heap.size+1+1,0,none⟩) 2 2,.bool false] 35);rw[show(((W.alloc (.cells #[.string ⟨#[45]⟩,.string ⟨#[115]⟩] 9)).alloc (.cells #[.slice (some ⟨W.heap.size,0,none⟩) 2 2,.bool false] 35)).alloc (.cells #[.string ⟨#[45]⟩,.string ⟨#[115]⟩] 9)).heap.size=W.heap.size+1+1+1 by simp]at this;exact this
 ·simp[ir]
theorem iV.begin{role:Nat->Nat}{B K:Nat}{d:Dv}{q:Int}{vw:Nat->Option (List ax)}{W:World}(h:gj role B K d q lkF vw oL 3 W)(B6:vw=vwF λ_=>nw):
  ∃(Qf:Nat->Nat) (vf:Nat->Value) (role':Nat->Nat),Qf 0=W.heap.size+1/\Qf 1=W.heap.size+1+1+1/\iV B K d q Qf vf (λ_=>rg) (λ_=>nw) oL 3 role' (ir W)/\cK [] rg nw:=by
 subst B6;obtain⟨hb,b0,b1,b2,b3,_⟩:=tE W;have hB:=h.rt.bs.base;have hs:Stp role (λb=>if b<W.heap.size then role b else if b=W.heap.size then 62 else if b=W.heap.size+1 then 60 else if b=W.heap.size+1+1 then 63 else if b=W.heap.size+1+1+1 then 61 else 0) [] W (ir W):=⟨hb.os,hb.tape,hb.output,hb.size,λb B5=>if_pos B5,λb B5 _=>hb.block b B5⟩;refine⟨λi=>if i=0 then W.heap.size+1 else W.heap.size+1+1+1,λi=>if i=0 then .slice (some ⟨W.heap.size,0,none⟩) 2 2 else .slice (some ⟨W.heap.size+1+1,0,none⟩) 2 2,_,rfl,rfl,⟨h.keptG hs (by simp) (λb=>?_),λi hi=>?_,oK,λi hi=>?_⟩,?_⟩
 ·show(if b<W.heap.size then role b else if b=W.heap.size then 62 else if b=W.heap.size+1 then 60 else if b=W.heap.size+1+1 then 63 else if b=W.heap.size+1+1+1 then 61 else 0)<2∨7<(if b<W.heap.size then role b else if b=W.heap.size then 62 else if b=W.heap.size+1 then 60 else if b=W.heap.size+1+1 then 63 else if b=W.heap.size+1+1+1 then 61 else 0)
  split
  ·exact h.rt.nr b
  ·split
   ·omega
   ·split
    ·omega
    ·split
     ·omega
     ·split<;>omega
 ·have h2:i=0∨i=1:=by omega
  rcases h2 with rfl|rfl
  ·refine⟨⟨b1,⟨rfl,Or.inr ⟨W.heap.size,2,_,rfl,hB,b0,by decide,by decide,by decide,rfl⟩⟩,by simp[Value.ownBlock]⟩,?_,λb B5=>?_⟩
   ·show(if W.heap.size+1<W.heap.size then role (W.heap.size+1)else if W.heap.size+1=W.heap.size then 62 else if W.heap.size+1=W.heap.size+1 then 60 else if W.heap.size+1=W.heap.size+1+1 then 63 else if W.heap.size+1=W.heap.size+1+1+1 then 61 else 0)=60;rw[if_neg (by omega),if_neg (by omega),if_pos rfl]
   ·have e:W.heap.size=b:=by simpa[Value.ownBlock]using B5
    subst e;simp
  ·refine⟨⟨b3,⟨rfl,Or.inr ⟨W.heap.size+1+1,2,_,rfl,by omega,b2,by decide,by decide,by decide,rfl⟩⟩,by simp[Value.ownBlock]⟩,?_,λb B5=>?_⟩
   ·show(if W.heap.size+1+1+1<W.heap.size then role (W.heap.size+1+1+1)else if W.heap.size+1+1+1=W.heap.size then 62 else if W.heap.size+1+1+1=W.heap.size+1 then 60 else if W.heap.size+1+1+1=W.heap.size+1+1 then 63 else if W.heap.size+1+1+1=W.heap.size+1+1+1 then 61 else 0)=61;rw[if_neg (by omega),if_neg (by omega),if_neg (by omega),if_neg (by omega),if_pos rfl]
   ·have e:W.heap.size+1+1=b:=by simpa[Value.ownBlock]using B5
    subst e;show(if W.heap.size+1+1<W.heap.size then role (W.heap.size+1+1)else if W.heap.size+1+1=W.heap.size then 62 else if W.heap.size+1+1=W.heap.size+1 then 60 else if W.heap.size+1+1=W.heap.size+1+1 then 63 else if W.heap.size+1+1=W.heap.size+1+1+1 then 61 else 0)=63;rw[if_neg (by omega),if_neg (by omega),if_neg (by omega),if_pos rfl]
 ·refine⟨by decide,by decide,λm hm=>Or.inl ?_⟩;simp[oL]at hm
  rcases hm with rfl|rfl<;>decide
 ·refine⟨rfl,λi f k h1 h2=>Or.inr (Or.inl ?_)⟩
  match i with
  |0=>simp[rg,nw]at h1 h2;subst h1 h2;rfl
  |1=>simp[rg,nw]at h1 h2;subst h1 h2;rfl
  |i+2=>simp[rg]at h1
theorem xB{w:World}{b o:Nat}{t:Bool}{x y:Int}(h0:w.cell? ⟨b,o,none⟩=some (.bool t))(h1:w.cell? ⟨b,o+1,none⟩=some (.int .i64 x))(h2:w.cell? ⟨b,o+2,none⟩=some (.int .i64 y)):
  (Instr.loadAt 37 (.pointer (some ⟨b,o,none⟩))).run Tryz.prog w=.ok (.agg #[.bool t,.int .i64 x,.int .i64 y]) w:=by
 go_simp
theorem Low.mono{B B':Nat}{W W':World}(h:Low B W W')(hb:B'<=B):Low B' W W':=⟨h.os,h.tape,h.output,h.size,λb B5=>h.block b (by omega)⟩
def BJ (B K:Nat) (d:Dv) (q:Int) (Qf:Nat->Nat) (w wr:World):Prop:=∃vf fl ks ms nx role,iV B K d q Qf vf fl ks ms nx role wr/\(∀i,i<2->cK [] (fl i) (ks i))/\Low w.heap.size w wr
theorem vO{w:World}{a:Option Addr}{n cap:Nat}(hp:BS w a n)(Di:n<=maxLen)(hE:jC w)(hR:cz w):
  Calls Tryz.prog 3 #[.slice a n cap] w λe w'=>e=.returned (.bool true)/\Below w.heap.size w w':=by
 have HP:=hid hp;have HE:=hid hE;have HR:=hid hR;have hnl':n<=9223372036854775807:=alS Di (by decide);clear hp hE hR;have gE:=yf w;go_enter Tryz.func3,Tryz.ntmps3;go_wp2_with fail;refine gE.mono ?_;rintro e w1 ⟨⟨fb,rfl,CY,CW⟩,Cu⟩;have gO:=Bo (w:=w1) (a:=some ⟨fb,0,none⟩) (cap:=1) lkF (Or.inr ⟨fb,0,rfl,CY,CW⟩) (HE.out.below Cu (alU)) (Rules.heap HR.out Cu.block);have Cx:=hid Cu;clear gE Cu CW CY;go_wp2_with fail;refine gO.mono ?_;rintro e w2 ⟨⟨K,d,CP,rfl,Cy,_⟩,CZ⟩;have gF:=pQ Cy rfl rfl ⟨Bz.toArray⟩ rfl;unfold qD at gF;rw[AY]at gF;have Db:=hid Cy;have Ce:Hid (Below w.heap.size w w2):=Cx.out.trans (CZ.mono Cx.out.size);have Cr:Hid (w.heap.size<=w1.heap.size):=Cx.out.size;clear gO Cy CZ Cx;go_wp2_with fail;refine gF.mono ?_;rintro e w3 ⟨Dq,CO,rfl,B9,Ci⟩;have gG:=uH B9 rfl (by simp) oK ⟨(iq 97++[10]).toArray⟩ rfl;unfold qD at gG;have Cn:=hid B9;have De:Hid (Low w1.heap.size w2 w3):=Low.of_sd Db.out Ci;clear gF B9 Ci Db;go_wp2_with fail;refine gG.mono ?_;rintro e w4 ⟨Dp,CN,rfl,B8,Ch⟩;obtain⟨Qf,Dn,CM,CR,CQ,C4,C7⟩:=iV.begin B8 (by
  funext j
  by_cases h1:j=1
  ·subst h1;rfl
  ·by_cases h0:j=0
   ·subst h0;rfl
   ·have h2:¬j<2:=by omega
    simp[vwF,h1,h0,h2])
 have Cd:Hid (Low w1.heap.size w2 (ir w4)):=(De.out.trans (Low.of_sd Cn.out Ch)).trans (Low.of_below B8.rt.bs.base (tE w4).1);have Df:=hid C4;have Dg:Hid (∀i,i<2->cK [] ((λ_=>rg) i) ((λ_=>nw) i)):=λ_ _=>C7
 have HQ:=hid (And.intro CR CQ);have Da:Hid (ir w4=ir w4):=rfl;unfold ir at Da;clear gG B8 Ch Cn De C4 C7 CR CQ;go_wp2_with fail
 change Code.wp _ _ _ _ (ir w4)
 generalize ir w4=w5 at*;rw[←HQ.out.2,←HQ.out.1];clear HQ Da;have Dc:Hid (Low w.heap.size w w5):=⟨Cd.out.os.trans Ce.out.os,Cd.out.tape.trans Ce.out.tape,Cd.out.output.trans Ce.out.output,alS Ce.out.size Cd.out.size,λb hb=>(Cd.out.block b (alH hb Cr.out)).trans (Ce.out.block b hb)⟩;clear Cd Ce;have Cb:Hid (BJ w1.heap.size K d 0 Qf w w5):=⟨_,_,_,_,_,_,Df.out,Dg.out,Dc.out⟩;clear Df Dg Dc;go_loopw [10] (λi wr=>∃k:Nat,k<=n/\i=.int .i64 (k:Int)/\Hid (BJ w1.heap.size K d 0 Qf w wr)) (λi _=>n-(RowKit.intOf i).toNat)
 case atStart=>exact⟨0,alT _,rfl,Cb⟩
 case round=>
  clear Cb;obtain⟨k,hk,rfl,Cb⟩:=hrel
  by_cases CU:k<n
  ·obtain⟨pb,po,ha,CT,CS⟩:∃b off,a=some ⟨b,off,none⟩/\b<w.heap.size/\Bb w b off n:=by
    rcases HP.out with hz|hz
    ·omega
    ·exact hz
   subst ha;obtain⟨o,x,y,p0,p1,p2,_,hy⟩:=CS k CU;have C2:=λw=>vb (g:=pb) (off:=po) (cap:=cap) (w:=w) CU
   obtain⟨vf,fl,ks,ms,nx,role,hF,hA,hL⟩:=Cb.out;have Ct:=hL.block pb CT;have q0:=(aF ⟨pb,po+k*3,none⟩ Ct).trans p0;have q1:=(aF ⟨pb,po+k*3+1,none⟩ Ct).trans p1;have q2:=(aF ⟨pb,po+k*3+2,none⟩ Ct).trans p2;have HF:=hid hF;have HA:=hid hA;have HL:=hid hL;have HY:=hid hy;clear CS p0 p1 p2 hF hA hL hy Ct Cb;go_upto_if 64 with fail
   go_cut [11,12] (λme cn wx=>∃c:Nat,c<2/\me=.pointer (some ⟨Qf c,0,none⟩)/\cn=.int .i64 (c:Int)/\wx=wr)
   case first=>
    cases o with
    |false=>
     go_wp2_with fail;go_meet;exact⟨0,by decide,rfl,rfl,rfl⟩
    |true=>
     go_wp2_with fail;go_meet;exact⟨1,by decide,rfl,rfl,rfl⟩
   case rest=>
    obtain⟨c,hc,rfl,rfl,Dt⟩:=hcut;subst wc;obtain⟨Cv,_,_⟩:=HF.out.cl c hc;obtain⟨c0,c1,_⟩:=Cv.cells;obtain⟨CK,CJ,B6⟩:=eX Cv.own;have CX:(fl c).length<=100:=by
     rw[(HA.out c hc).1];have:=(HF.out.vw c hc).len HF.out.ok;omega
    obtain⟨m,Hm⟩:∃m,Hid ((fl c).length=m):=⟨_,hid rfl⟩;rw[Hm.out]at B6 CX;rw[B6]at c0;have Cz:Below wr.heap.size wr wr.drew:=(Below.refl _ _).drew;have gL:=zq o x y HY.out m (by omega) wr.drew (HE.out.env.heap λb hb=>(Cz.block b (alH hb HL.out.size)).trans (HL.out.block b hb));have C5:=Cv.lt;have Cs:pb<wr.heap.size:=alH CT HL.out.size;have CH:=hid Cz;generalize Cm:Qf c=Cq at*;have Cw:=hid Cm;clear Cm;clear Cv B6 Cz;go_wp2_with fail;refine aC 14 (λw':World=>w'.cell? ⟨Cq,0,none⟩=some (.slice CK m CJ)/\w'.cell? ⟨pb,po+k*3,none⟩=some (.bool o)/\w'.cell? ⟨pb,po+k*3+1,none⟩=some (.int .i64 x)/\w'.cell? ⟨pb,po+k*3+2,none⟩=some (.int .i64 y)) 15 rfl (by kernel_rfl) ⟨c0,q0,q1,q2⟩ (λa' Q hA hQ hP hS=>?_);have z:a'.tmps.size=109:=by rw[hA.out];rfl
    have e0:a'.eval (.tmp 0)=Value.slice (some ⟨pb,po,none⟩) n cap:=by rw[hA.out];rfl
    have C9:a'.eval (.tmp 10)=Value.int .i64 (k:Int):=by rw[hA.out];rfl
    have C8:a'.eval (.tmp 11)=Value.pointer (some ⟨Cq,0,none⟩):=by rw[hA.out];rfl
    refine tkA 0 (some 67) rfl rfl hP (λwx hw=>ag rfl e0) hS ?_;refine tkA 1 (some 68) rfl rfl hP (λwx hw=>ag rfl (ev1 C9)) hS ?_;refine tkA 2 (some 69) rfl rfl hP (λwx hw=>bB (v:=.pointer (some ⟨pb,po+k*3,none⟩)) rfl (ev1 (evz z)) (evz (szq z)) (C2 _)) hS ?_;refine tkA 3 (some 70) rfl rfl hP (λwx hw=>aq rfl (evz (sz2 z)) (xB hw.2.1 hw.2.2.1 hw.2.2.2)) hS ?_;refine tkA 4 (some 71) rfl rfl hP (λwx hw=>ag rfl (ev4 C8)) hS ?_;refine tkA 5 (some 72) rfl rfl hP (λwx hw=>aI rfl (evz (sz4 z))) hS ?_;refine tkA 6 (some 73) rfl rfl hP (λwx hw=>ai ⟨Cq,0,none⟩ rfl (evz (sz4 (szq z)))) hS ?_;refine tkA 7 (some 74) rfl rfl hP (λwx hw=>aq rfl (evz (sz4 (sz2 z))) (aO hw.1)) hS ?_;refine tkA 8 (some 75) rfl rfl hP (λwx hw=>ke (v:=.int .i64 (m:Int)) rfl (evz (sz4 (sz2 (szq z)))) (λρ hρ=>(by go_simp))) hS ?_;refine bG (i:=9) (d:=some 76) (by kernel_rfl) rfl rfl rfl rfl Tryz.func7 (by kernel_rfl) rfl (eH (ev4 (ev1 (evz (sz2 (szq z))))) (evz (sz8 z))) gL ?_;rintro e w6 ⟨⟨text,gn,rfl,CV⟩,Cc⟩;have CA:w6.cell? ⟨Cq,0,none⟩=some (.slice CK m CJ)/\w6.cell? ⟨pb,po+k*3,none⟩=some (.bool o)/\w6.cell? ⟨pb,po+k*3+1,none⟩=some (.int .i64 x)/\w6.cell? ⟨pb,po+k*3+2,none⟩=some (.int .i64 y):=⟨(Cc.cell (p:=⟨Cq,0,none⟩) C5).trans c0,(Cc.cell (p:=⟨pb,_,none⟩) Cs).trans q0,(Cc.cell (p:=⟨pb,_,none⟩) Cs).trans q1,(Cc.cell (p:=⟨pb,_,none⟩) Cs).trans q2⟩;have Dl:=hid CV;have CI:Hid (Below wr.heap.size wr w6):=CH.out.trans (Cc.mono CH.out.size);refine⟨_,rfl,λ_=>CA,?_⟩;clear hS;have hS:=CA;refine bb (i:=10) (d:=some 66) (by kernel_rfl) rfl rfl rfl (ag rfl (evz (sz8 (szq z)))) (λ_=>hS) ?_;refine tkA 11 (some 77) rfl rfl hP (λwx hw=>cd (v:=.string text) rfl (evz (sz8 (sz2 z))) (by go_simp)) hS ?_;refine tkA 12 (some 78) rfl rfl hP (λwx hw=>cd (v:=.bool gn) rfl (ev1 (evz (sz8 (sz2 z)))) (by go_simp)) hS ?_;refine bb (i:=13) (d:=some 13) (by kernel_rfl) rfl rfl rfl (aL rfl (ev1 (evz (sz8 (sz2 (szq z)))))) (λ_=>hS) ?_;refine bb (i:=14) (d:=some 14) (by kernel_rfl) rfl rfl rfl (aL rfl (ev1 (evz (sz8 (sz4 z))))) (λ_=>hS) ?_;refine aD (by kernel_rfl) (hQ.out _ _ ?_) _;rw[hA.out];simp only[Act.put,List.setIfInBounds_toArray];dsimp only[List.set];clear hQ hP hA z hS Q a' e0 C9 C8 CA CV Cc gL q0 q1 q2 c0 C5 Cs;clear C2;obtain⟨CL,Cl⟩:=HF.out.below CI.out;obtain⟨an,Ds,ms',nx',Dx,t1,t2,t3,t4,t5,gF⟩:=Bq (c:=c) Cl.sd (by omega) (by simp[lkF];omega) (by simp[vwF,hc]) Cl.ok (Cl.vw c hc) (HA.out c hc) text (by rw[Hm.out];exact Dl.out) rfl;unfold qD at gF;obtain⟨out,CD,B5⟩:=aj an;rw[←CD.out]at gF;have Du:(out.toList==([]:List UInt8))=false:=by
     rw[ByteArray.toList_eq,B5.out];simpa using(t1.len (by rw[Hm.out];omega)).2
    have CG:=hid Cl;have HT:=hid (And.intro t1 (And.intro t2 (And.intro t3 (And.intro t4 t5))));have Dd:Hid (Low w.heap.size w w6):=HL.out.trans (Low.of_below HL.out.size CI.out);clear Cl t1 t2 t3 t4 t5 HF HL CI CH;go_wp2_with fail;refine gF.mono ?_;rintro e w7 ⟨Do,Cg,rfl,Cj,B7⟩;obtain⟨t1,t2,t3,t4,t5⟩:=HT.out;have Ca:=CG.out.fed hc Cj B7 t3 t4 t5;obtain⟨CC,_,_⟩:=Ca.cl c hc;rw[Cw.out]at CC;have gD:=tH CC Ca.sd.rt.bs.base (by rw[Hm.out];exact CX) t1 out B5.out;have CF:=hid Ca;have Cp:Hid (Low w.heap.size w w7):=Dd.out.trans ((Low.of_sd CG.out.sd B7).mono Cr.out);clear gF Cj B7 Ca CC t1 t2 t3 t4 t5 CG Dd;go_wp2_with fail;refine gD.mono ?_;rintro e w8 ⟨rfl,v8,CB,Ck⟩;have d1:=CB.cells.2.1;obtain⟨Cf,C3⟩:=CF.out.folded hc (by rw[Cw.out];exact CB) (by rw[Cw.out];exact Ck);have CE:Hid (BJ w1.heap.size K d 0 Qf w w8):=by
     refine⟨_,_,_,_,_,Cf,C3,λi hi=>?_,Cp.out.trans ((Low.of_cl CF.out hc (by rw[Cw.out];exact Ck)).mono Cr.out)⟩
     by_cases e:i=c
     ·subst e;rw[eE,eE];exact HT.out.2.1
     ·rw[eT _ _ _ _ e,eT _ _ _ _ e];exact HA.out i hi
    clear gD CB Ck C3 CF Cp HT HA;go_wp2_with fail;exact⟨⟨k+1,by omega,by simp,CE⟩,by simp[RowKit.intOf];omega⟩
  ·have Dh:¬(k:Int)<(n:Int):=by omega
   obtain⟨vf,fl,ks,ms,nx,role,hF,hA,hL⟩:=Cb.out;have gA:=ov hF hA 0 (by decide) (Qf 0) rfl;have HL:=hid hL;clear hF hA hL Cb;go_wp2_with fail;refine gA.mono ?_;rintro e w7 ⟨rfl,Dj⟩;obtain⟨Dm,Dw,Dr,Cg,Ca,C6,C1⟩:=Dj;have gB:=ov Ca C6 1 (by decide) (Qf 1) rfl;have Cp:Hid (Low w.heap.size w w7):=HL.out.trans (C1.mono Cr.out);clear gA Ca C6 C1 HL;go_wp2_with fail;refine gB.mono ?_;rintro e w8 ⟨rfl,Ck⟩;obtain⟨_,_,_,_,_,_,C0⟩:=Ck;have Co:Hid (Low w.heap.size w w8):=Cp.out.trans (C0.mono Cr.out);clear gB C0 Cp;go_wp2_with fail;go_ret;exact⟨rfl,⟨Co.out.os,Co.out.tape,Co.out.output,Co.out.size,Co.out.block⟩⟩
end Go.Proofs.YtbeahecjbokjjaaGreatDoor
