import Derived.Test.YtlbcgmlhaeeoeaaGreatDoorQ48
import Derived.Test.YtlbcgmlhaeeoeaaGreatDoorQ44
set_option maxRecDepth 100000
set_option maxHeartbeats 16000000
namespace Go.Proofs.YtlbcgmlhaeeoeaaGreatDoor
open Go.RowKit Go.Lib
theorem ov{ms:List al}(x:al)(h:x∈(ce (cL ms)).map dj.ms):∃m∈ms,x=⟨((m.key.toNat:Nat):Int),0,[],[],m.text⟩:=by
 obtain⟨l,hl,rfl⟩:=List.mem_map.1 h;unfold ce at hl;obtain⟨p,hp,rfl⟩:=List.mem_map.1 hl;obtain⟨m,hm,rfl⟩:=List.mem_map.1 ((dR ms).mem_iff.1 hp);exact⟨m,hm,rfl⟩
theorem ws{ms:List al}(m:al)(h:m∈ms):(⟨((m.key.toNat:Nat):Int),0,[],[],m.text⟩:al)∈(ce (cL ms)).map dj.ms:=by
 have hp:(m.key.toNat,m.text)∈cL ms:=(dR ms).mem_iff.2 (List.mem_map.2 ⟨m,h,rfl⟩);refine List.mem_map.2 ⟨⟨ar m.key.toNat,(m.key.toNat:Int),m.text⟩,?_,rfl⟩;unfold ce;exact List.mem_map.2 ⟨_,hp,rfl⟩
theorem oV{ms:List al}{nx:Int}(B1:aF ms nx){m:al}(h:m∈ms):((m.key.toNat:Nat):Int)=m.key:=by
 have:=B1.key m h;omega
theorem ur(ms:List al){nx:Int}(B1:aF ms nx):∀x∈(ce (cL ms)).map dj.ms,gY x.key (ms.map az):=λx hx=>by
 obtain⟨m,hm,rfl⟩:=ov x hx;obtain⟨i,hi⟩:=List.getElem?_of_mem hm;exact⟨i,az m,by simp[hi],by show m.key=_;rw[oV B1 hm]⟩
theorem wq(ms:List al){nx:Int}(B1:aF ms nx):∀(i:Nat) (e:Mb.Ent),(ms.map az)[i]?=some e->(∃x∈(ce (cL ms)).map dj.ms,x.key=e.key)/\∀x∈(ce (cL ms)).map dj.ms,x.key=e.key->ms[i]?=some ⟨x.key,e.uid,e.flags,x.came,x.text⟩:=λi e he=>by
 rw[List.getElem?_map]at he;obtain⟨m,hm,rfl⟩:=Option.map_eq_some_iff.1 he;have B3:=List.mem_of_getElem? hm;refine⟨⟨_,ws m B3,oV B1 B3⟩,λx hx hk=>?_⟩;obtain⟨m2,B4,rfl⟩:=ov x hx;have B5:m2.key=m.key:=by rw[←oV B1 B4];exact hk
 have he:m2=m:=by
  obtain⟨j,hj⟩:=List.getElem?_of_mem B4
  rcases Nat.lt_trichotomy i j with h|h|h
  ·have:=List.pairwise_iff_getElem.1 B1.dis i j (alK.1 hm).1 (alK.1 hj).1 h;rw[(alK.1 hm).2,(alK.1 hj).2]at this;exact absurd B5.symm this
  ·subst h;rw[hm]at hj;injection hj with hj
   exact hj.symm
  ·have:=List.pairwise_iff_getElem.1 B1.dis j i (alK.1 hj).1 (alK.1 hm).1 h;rw[(alK.1 hj).2,(alK.1 hm).2]at this;exact absurd B5 this
 subst he;rw[hm];have hc:=(B1.came m2 B3).1;simp only[oV B1 B3,az];rw[←hc]
theorem Env.heap{w W:World}(h:Env w)(hb:∀b,b<w.heap.size->W.heap[b]?=w.heap[b]?):Env W:=by
 have hs:w.heap.size<=W.heap.size:=by
  rcases Nat.eq_zero_or_pos w.heap.size with h0|h0
  ·omega
  ·have h1:=hb (w.heap.size-1) (by omega);rw[Array.getElem?_eq_getElem (show w.heap.size-1<w.heap.size by omega)]at h1;have:=(alJ.1 h1).1;omega
 have B1:Below w.heap.size w {W with os:=w.os,tape:=w.tape,output:=w.output}:=⟨rfl,rfl,rfl,hs,hb⟩;have h2:=h.below B1 (alU);exact⟨h2.tab,h2.max,h2.es,h2.er⟩
theorem Rules.heap{w W:World}(h:cw w)(hb:∀b,b<w.heap.size->W.heap[b]?=w.heap[b]?):cw W:=λj u hu=>(aC ⟨_,j,none⟩ (hb _ h.lt)).trans (h j u hu)
theorem tp{w:World}{a:Option Addr}{cap:Nat}{ms:List al}{nx:Int}(hm:nM w a (dq (cL ms) (Mb.textOf 1 nx (ms.map az))))(B1:aF ms nx)(hE:gZ w):
  Calls Tryz.prog 20 #[.slice a (ms.length+1) cap] w λe w'=>(∃T r c G v,e=.returned (.tuple #[.pointer (some ⟨T,0,none⟩),.slice none 0 0,.int .i64 0])/\nL w.heap.size T r c G v nx ms w')/\Below w.heap.size w w':=by
 have hn:=B1.len;have Cb:=lO B1;have Cc:(cL ms).length=ms.length:=by rw[(dR ms).length_eq,List.length_map]
 have B3:(dq (cL ms) (Mb.textOf 1 nx (ms.map az))).length=ms.length+1:=by rw[jP,Cc]
 have CD:=Mb.textOf_len (Mb.listOk_fine B1.list);have hd:∀x∈dq (cL ms) (Mb.textOf 1 nx (ms.map az)),x.name.length<=1000/\x.data.length<=400:=λx hx=>by
  unfold dq at hx
  rcases List.mem_append.1 hx with hx|hx
  ·obtain⟨p,hp,rfl⟩:=List.mem_map.1 hx;have h8:∀k:Fin 9,(ar k.val).length<=1000:=by decide+kernel
   have h1:=Cb.key p hp;have h2:=Cb.text p hp;exact⟨h8 ⟨p.1,by omega⟩,by show p.2.length<=_;omega⟩
  ·simp at hx;subst hx;exact⟨by show bG.length<=1000;decide,by show(Mb.textOf _ _ _).length<=_;omega⟩
 have gC:=qK a cap _ w hm (by rw[B3];omega) (λx hx=>(hd x hx).2);have gO:∀w1,Below w.heap.size w w1->Calls Tryz.prog 28 #[.slice a (ms.length+1) cap] w1 λe w'=>(∃v a' c',e=.returned v/\v=.slice a' (ms.length+1) c'/\nM w' a' (dq (cL ms) (Mb.textOf 1 nx (ms.map az))))/\Below w1.heap.size w1 w':=λw1 B5=>by
  have:=Al a cap _ w1 (hm.below B5) (by rw[B3];omega) (by rw[B3];omega) (λx hx=>⟨(hd x hx).1,by have:=(hd x hx).2;omega⟩);rw[B3]at this;refine this.mono ?_;rintro e w' ⟨⟨v,ys,rfl,hs,ho⟩,hb⟩;have Cs:=p8 B1 (kB B1 _) hs;subst Cs;obtain⟨a',c',h1,_,h2,_⟩:=dn.form ho;rw[B3]at h1;exact⟨⟨v,a',c',rfl,h1,h2⟩,hb⟩
 rw[B3]at gC;have HO:=hid gO;have HE:=hid hE;clear gO hE hd hm;go_enter Tryz.func20,Tryz.ntmps20;go_wp2_with fail;refine gC.mono ?_;rintro e w1 ⟨rfl,B5⟩;have gO:=HO.out w1 B5;have Cg:=hid B5;clear gC B5;go_wp2_with fail;refine gO.mono ?_;rintro e w2 ⟨⟨v,a',c',rfl,rfl,Cn⟩,Cp⟩;have B9:Hid (Below w.heap.size w w2):=Cg.out.trans (Cp.mono Cg.out.size);have gS:=rM (cap:=c') Cn Cb (HE.out.below B9.out (alU));rw[Cc]at gS;clear gO Cp Cg Cn;go_wp2_with fail;refine gS.mono ?_;rintro e w3 ⟨⟨D,fr,fc,F,v,rfl,hD,hR,hF,hO,Cw,B7,Ch⟩,Co⟩;have Ci:=B9.out.size;have B8:Hid (Below w.heap.size w w3):=B9.out.trans (Co.mono Ci);have B6:=B8.out.size;obtain⟨va,vc,Ct,_,Ck,Cu⟩:=cx.form hO;subst Ct;have Cj:Mb.readL (Mb.textOf 1 nx (ms.map az))=some (1,nx,ms.map az):=Mb.read_text B1.list;have Cl:∀b off,va=some ⟨b,off,none⟩->b≠F:=λb off e=>by
  subst e;have h1:=Ch.2.2;intro e;subst e;exact h1 rfl
 have Cm:((ce (cL ms)).map dj.ms).length=ms.length:=by rw[List.length_map];unfold ce;rw[List.length_map,Cc]
 have Ca:(ms.map az).length=ms.length:=List.length_map ..;have CE:=B1.lo;have CF:=B1.hi;have gT:=yR (B:=w.heap.size) hD hR hF B7.2.1 B7.2.2 Ck Cl (by rw[Cm];omega) (by rw[Lib.size_eq];show(Mb.textOf _ _ _).length<=_;omega) (by omega) B6 (λw' Cx=>HE.out.below (B8.out.trans Cx) (alU)) Cj (by rw[Ca];omega) (ur ms B1) (by omega) (by omega) ms (by rw[Ca]) (wq ms B1);have CA:=hD.cells.2.2.2.2.2;have Cy:=hR.2;have HD:=hid hD;have HR:=hid hR;have Cr:=hid B7;have Cz:w.heap.size<=F:=by omega
 clear gS Co B9 hD hR hF hO Cw B7 Ch Ck Cu Cj Cl Cm Ca;go_wp2_with fail;refine gT.mono ?_;rintro e w4 ⟨⟨T,r,c,G,v,rfl,hM⟩,⟨ev,Cq⟩,B4⟩;have Cv:=B4.size;have Ce:Below w.heap.size w w4:=B8.out.trans (B4.base (by omega) (by simp) B6);have gP:=rR (w:=w4) ((B4.block D CA Cr.out.2.1 (by simp)).trans HD.out) ⟨(aC ⟨fr,0,none⟩ (B4.block fr Cy Cr.out.2.2 (by simp))).trans HR.out.1,by omega⟩ Cq hM B1 (by simp) (HE.out.below Ce (alU)).env;have HM:Hid (nL w.heap.size T r c G v nx ms w4):=hM.base B6;have Cf:=hid Ce;clear gT hM Cq B4 Ce B8 B6 Cv Ci;go_wp2_with fail;refine gP.mono ?_;rintro e w5 ⟨rfl,Cd⟩;have CB:Hid (nL w.heap.size T r c G v nx ms w5):=HM.out.below Cd;have CC:Hid (Below w.heap.size w w5):=Cf.out.trans (Cd.mono Cf.out.size);clear gP Cd HM Cf;go_wp2_with fail;go_ret3;exact⟨⟨T,r,c,G,v,rfl,CB.out⟩,CC.out⟩
theorem BW(T:Nat)(w:World):Calls Tryz.prog 21 #[.pointer (some ⟨T,0,none⟩)] w λe w'=>(∃P cs,e=.returned (.pointer (some ⟨P,0,none⟩))/\w.heap.size<=P/\w'.heap[P]?=some (.cells cs 109 (0,0))/\TkC cs T (.slice none 0 0) false 0 adZ (.pointer none))/\Below w.heap.size w w':=by
 go_enter Tryz.func21,Tryz.ntmps21;go_wp2_with fail;go_ret;refine⟨⟨_,_,rfl,alU,alA w _,?_⟩,ax⟩;refine⟨rfl,rfl,rfl,rfl,rfl,rfl,λi hi=>?_,rfl,rfl⟩;have:i=0∨i=1∨i=2∨i=3∨i=4∨i=5∨i=6∨i=7∨i=8∨i=9:=by omega
 rcases this with rfl|rfl|rfl|rfl|rfl|rfl|rfl|rfl|rfl|rfl<;>rfl
theorem Br{w:World}{a:Option Addr}{cap:Nat}{ms:List al}{nx:Int}(hm:nM w a (dq (cL ms) (Mb.textOf 1 nx (ms.map az))))(Ce:aF ms nx)(hE:gZ w)(hR:cw w):
  Calls Tryz.prog 11 #[.slice a (ms.length+1) cap] w λe w'=>(∃K s,e=.returned (.tuple #[.pointer (some ⟨K,0,none⟩),.slice none 0 0,.int .i64 0])/\qQ w.heap.size K s 0 false 0 adZ ms nx w')/\Below w.heap.size w w':=by
 have gS:=tp (cap:=cap) hm Ce hE;have HE:=hid hE;have Ck:=hid hR;clear hm hE hR;go_enter Tryz.func11,Tryz.ntmps11;go_wp2_with fail;refine gS.mono ?_;rintro e w1 ⟨⟨T,r,c,G,v,rfl,hM⟩,Cb⟩;have HM:=hid hM;have B7:=hid Cb;clear gS hM Cb;go_wp2_with fail;refine(BW T w1).mono ?_;rintro e w2 ⟨⟨P,cs,rfl,hP,B3,B5⟩,B6⟩;have Cl:=hid (HM.out.below B6);have Cm:=HM;have Cc:=hid (B7.out.trans (B6.mono B7.out.size));have Cj:=hid (And.intro hP (And.intro B3 B5));clear B6 HM hP B3 B5;go_wp2_with fail;go_ret3;obtain⟨h1,h2,h3,h4,h5,h6,h7⟩:=Cl.out;obtain⟨g1,g2,g3,g4,_,_,_⟩:=Cm.out;obtain⟨hP,B3,B5⟩:=Cj.out;have Cn:=B7.out.size;have B9:=Cc.out.size;have B1:Below w2.heap.size w2 (w2.alloc (.cells #[.int .i32 0,.int .u32 0,.pointer (some ⟨T,0,none⟩),.pointer (some ⟨P,0,none⟩)] 82)):=ax;have B4:Below w.heap.size w (w2.alloc (.cells #[.int .i32 0,.int .u32 0,.pointer (some ⟨T,0,none⟩),.pointer (some ⟨P,0,none⟩)] 82)):=Cc.out.trans (B1.mono B9);have Cf:=g1.cells.2.2.2;have Ci:=g3.cells.2.2.2.2.2.2;have Cd:=g2.2;have Cg:=h1.cells.2.2.2;have Co:=h3.cells.2.2.2.2.2.2;have Ca:=h2.2;have Ch:P<w2.heap.size:=(alJ.1 B3).1;have B8:∀b,v.ownBlock=some b->w.heap.size<=b/\b<w1.heap.size:=λb hb=>g4.lt b hb
 refine⟨⟨w2.heap.size,⟨P,T,r,c,G,.slice none 0 0,v⟩,rfl,alA w2 _,⟨?_,?_,?_,⟨cs,(B1.block P Ch).trans B3,B5⟩,alG _ _ _ _,(B1.block T Cg).trans h1,⟨(B1.cell (p:=⟨r,0,none⟩) Ca).trans h2.1,alH Ca B1.size⟩,h3.below B1,bQ h4 B1,?_,⟨by show P≠T;omega,by show P≠r;omega,by show P≠G;omega,h6.1,h6.2.1,h6.2.2⟩,?_,?_⟩,B9,?_⟩,B4⟩
 ·exact B4.size
 ·exact λW hW=>HE.out.env.heap λb hb=>(hW b hb).trans (B4.block b hb)
 ·exact λW hW=>Rules.heap Ck.out λb hb=>(hW b hb).trans (B4.block b hb)
 ·rintro b (e|e|e|e|e|e)
  ·have:b=P:=e;omega
  ·have:b=T:=e;omega
  ·have:b=r:=e;omega
  ·have:b=G:=e;omega
  ·simp[Value.ownBlock]at e
  ·exact(B8 b e).1
 ·intro b hb;simp[Value.ownBlock]at hb
 ·intro b hb;have:=(B8 b hb).2;exact⟨by show b≠P;omega,λe=>h7.1 ((show b=T from e)▸hb),λe=>h7.2.1 ((show b=r from e)▸hb),λe=>h7.2.2 ((show b=G from e)▸hb),by simp[Value.ownBlock]⟩
 ·rintro(e|e|e|e|e|e)
  ·have:w2.heap.size=P:=e;omega
  ·have:w2.heap.size=T:=e;omega
  ·have:w2.heap.size=r:=e;omega
  ·have:w2.heap.size=G:=e;omega
  ·simp[Value.ownBlock]at e
  ·have:=(h4.lt _ e).2;omega
theorem cC.flt{role:Nat->Nat}{B K:Nat}{V:DkV}{D:bP}{W:World}(h:cC role B K V D W):∀b,V.foot K b->B<=b/\b<W.heap.size:=by
 rintro b (rfl|hb|hb|hb|hb|hb)
 ·exact⟨h.low,h.lt⟩
 ·exact h.on.1.lt b hb
 ·exact h.os.1.lt b hb
 ·exact h.od.1.lt b hb
 ·exact h.oi.1.lt b hb
 ·exact h.om.1.lt b hb
theorem cC.base{role:Nat->Nat}{B B' K:Nat}{V:DkV}{D:bP}{W:World}(h:cC role B' K V D W)(hB:B<=B'):cC role B K V D W:=
 ⟨alS hB h.low,h.blk,h.rk,⟨cR h.on.1 hB,h.on.2⟩,⟨cR h.os.1 hB,h.os.2⟩,⟨cR h.od.1 hB,h.od.2⟩,⟨cR h.oi.1 hB,h.oi.2⟩,⟨cR h.om.1 hB,h.om.2⟩⟩
theorem cC.same{role:Nat->Nat}{B K:Nat}{V:DkV}{D:bP}{W W':World}(h:cC role B K V D W)(hb:∀b,V.foot K b->W'.heap[b]?=W.heap[b]?):cC role B K V D W':=
 ⟨h.low,(hb K (Or.inl rfl)).trans h.blk,h.rk,⟨ay (λb e=>hb b (Or.inr (Or.inl e))) h.on.1,h.on.2⟩,⟨ay (λb e=>hb b (Or.inr (Or.inr (Or.inl e)))) h.os.1,h.os.2⟩,⟨ay (λb e=>hb b (Or.inr (Or.inr (Or.inr (Or.inl e))))) h.od.1,h.od.2⟩,⟨ay (λb e=>hb b (Or.inr (Or.inr (Or.inr (Or.inr (Or.inl e)))))) h.oi.1,h.oi.2⟩,⟨ay (λb e=>hb b (Or.inr (Or.inr (Or.inr (Or.inr (Or.inr e)))))) h.om.1,h.om.2⟩⟩
theorem pY.lower{B B' K:Nat}{s:Sv}{ts:List (List UInt8)}{w:World}(h:pY B' K s ts w)(hB:B<=B'):pY B K s ts w:=
 ⟨h.srv,h.sto,h.row,h.fol,cR h.own hB,⟨alS hB h.base.1,alS hB h.base.2.1,alS hB h.base.2.2.1,alS hB h.base.2.2.2⟩,h.ne,h.mne⟩
theorem v8{K:Nat}(w:World):Calls Tryz.prog 12 #[.pointer (some ⟨K,0,none⟩),.slice none 0 0] w λe w'=>e=.returned (.bool true)/\w'=w:=by
 go_enter Tryz.func12,Tryz.ntmps12;go_wp2_with fail;go_loopw [5] (λi wr=>i=.int .i64 0/\wr=w) (λ_ _=>0)
 case atStart=>exact⟨rfl,rfl⟩
 case round=>
  obtain⟨rfl,hw⟩:=hrel;subst wr;go_wp2_with fail;go_ret;exact⟨rfl,rfl⟩
theorem zR:iJ 0=[49,32,49,10,53,55,51,57,56,10]:=by decide+kernel
theorem xZ(w:World):Calls Tryz.prog 5 #[] w λe w'=>(∃b,e=.returned (.slice (some ⟨b,0,none⟩) 1 1)/\b<w'.heap.size/\iV w' b 0 (eZ [] (iJ 0)))/\Below w.heap.size w w':=by
 go_enter Tryz.func5,Tryz.ntmps5;go_wp2_with fail;go_ret;have hv:=alA w (.cells #[.string ⟨#[105,110,47,108,105,115,116]⟩,.string ⟨#[49,32,49,10,53,55,51,57,56,10]⟩] 46);refine⟨⟨w.heap.size,rfl,by simp,?_⟩,ax⟩;intro i x hx;rw[zR]at hx
 rcases qV [] _ i x hx with⟨h,_⟩|⟨h,he⟩
 ·simp at h
 ·subst he;have h0:i=0:=h;subst h0;exact⟨by unfold World.cell?;rw[hv];rfl,by unfold World.cell?;rw[hv];rfl⟩
theorem zN:∀(xs:List bL) (i:Nat) (x:bL),xs[i]?=some x->(cn xs)[i*4]?=some (.int .i64 x.kind)/\(cn xs)[i*4+1]?=some (.string ⟨x.name.toArray⟩)/\(cn xs)[i*4+2]?=some (.string ⟨x.dst.toArray⟩)/\(cn xs)[i*4+3]?=some (.string ⟨x.data.toArray⟩)
 |[],i,x,h=>by simp at h
 |y::r,0,x,h=>by
  simp only[List.getElem?_cons_zero,Option.some.injEq]at h;subst h;simp[cn]
 |y::r,i+1,x,h=>by
  have:=zN r i x (by simpa using h);rw[show(i+1)*4=i*4+1+1+1+1 by omega];exact this
structure KSt (B Ks Kd:Nat) (s:Sv2) (q:Int) (tx:Bool) (z:Int) (ad:Array Value) (ms:List al) (nx:Int) (role:Nat->Nat) (V:DkV) (D:bP) (w:World):Prop where
 sv:qQ B Ks s q tx z ad ms nx w
 dk:cC role B Kd V D w
 ap:∀b,b=Ks∨s.foot b->¬V.foot Kd b
def iN (Ks Kd:Nat) (s:Sv2) (V:DkV) (b:Nat):Prop:=b=Ks∨s.foot b∨V.foot Kd b
structure dS (Ks Kd:Nat) (s s':Sv2) (V V':DkV) (w w':World):Prop where
 os:w'.os=w.os
 tape:w'.tape=w.tape
 output:w'.output=w.output
 size:w.heap.size<=w'.heap.size
 block:∀b,b<w.heap.size->¬iN Ks Kd s V b->w'.heap[b]?=w.heap[b]?
 foot:∀b,iN Ks Kd s' V' b->iN Ks Kd s V b∨w.heap.size<=b
section
variable {B Ks Kd:Nat} {s:Sv2} {q:Int} {tx:Bool} {z:Int} {ad:Array Value} {ms:List al} {nx:Int} {role:Nat->Nat} {V:DkV} {D:bP} {w w':World}
theorem KSt.lt(h:KSt B Ks Kd s q tx z ad ms nx role V D w):∀b,iN Ks Kd s V b->B<=b/\b<w.heap.size:=by
 rintro b (rfl|hb|hb)
 ·exact⟨h.sv.base,h.sv.srv.cells.2.2.2⟩
 ·exact⟨h.sv.rs.low b hb,h.sv.rs.lt b hb⟩
 ·exact h.dk.flt b hb
theorem qQ.lower{B':Nat}(h:qQ B' Ks s q tx z ad ms nx w)(hB:B<=B')(hE:jW B w)(hR:∀W':World,(∀b,b<B->W'.heap[b]?=w.heap[b]?)->cw W'):qQ B Ks s q tx z ad ms nx w:=by
 have hr:=h.rs;exact⟨h.srv,⟨alS hB hr.base,hE,hR,hr.tk,fZ hr.got hB,hr.sto,hr.row,hr.fol,fZ hr.own hB,λb hb=>alS hB (hr.low b hb),hr.ne,hr.gne,hr.mne⟩,alS hB h.base,h.ne⟩
theorem dS.trans{s' B3:Sv2}{V' V'':DkV}{B1:World}(h:dS Ks Kd s s' V V' w w')(k:dS Ks Kd s' B3 V' V'' w' B1):dS Ks Kd s B3 V V'' w B1:=by
 refine⟨k.os.trans h.os,k.tape.trans h.tape,k.output.trans h.output,alS h.size k.size,λb hb hf=>(k.block b (alH hb h.size) (λB4=>?_)).trans (h.block b hb hf),λb hf=>?_⟩
 ·rcases h.foot b B4 with h1|h1
  ·exact hf h1
  ·omega
 ·rcases k.foot b hf with h1|h1
  ·exact h.foot b h1
  ·exact Or.inr (alS h.size h1)
theorem dS.below(h:Below w.heap.size w w'):dS Ks Kd s s V V w w':=⟨h.os,h.tape,h.output,h.size,λb hb _=>h.block b hb,λ_ hf=>Or.inl hf⟩
theorem KSt.far(h:KSt B Ks Kd s q tx z ad ms nx role V D w)(hb:Below w.heap.size w w'):KSt B Ks Kd s q tx z ad ms nx role V D w':=
 ⟨h.sv.kept (hb.block Ks h.sv.srv.cells.2.2.2) (λb hf=>hb.block b (h.sv.rs.lt b hf)) (λb hB=>hb.block b (alH hB h.sv.rs.base)) hb.size,h.dk.same (λb hf=>hb.block b (h.dk.flt b hf).2),h.ap⟩
theorem ed.actsK{va:Value}{xs:List bL}{B':Nat}(h:ed w B' va xs)(hx:xs≠[]):∃ab ac,va=.slice (some ⟨ab,0,none⟩) xs.length ac/\ab<w.heap.size/\Bf w ab 0 xs/\B'<=ab:=by
 rcases h.2 with⟨h1,h2⟩|⟨g,c,B3,h1,h2,h3,h4,_⟩
 ·exact absurd (alN h2) hx
 ·have B1:=h.lt g (by rw[h1];rfl);subst h1;refine⟨g,c,rfl,B1.2,λi x hi=>?_,B1.1⟩;obtain⟨g0,g1,g2,g3⟩:=zN xs i x hi;rw[Nat.zero_add];exact⟨aE h g0,aE h g1,aE h g2,aE h g3⟩
theorem lH{tx':Bool}{z':Int}{ad':Array Value}{an:List UInt8}{ac:List bL}{ms':List al}{nx':Int}{E:bP}(h:KSt B Ks Kd s q tx z ad ms nx role V D w)(B1:ByteArray)(hF:∀W1,fL B s tx z ad ms nx W1->Fed B s W1 B1 tx' z' ad' an ac ms' nx')(Ce:dh D ac E)(Cf:eK 1000 D)(Cm:ac.length<=1000):
  Calls Tryz.prog 13 #[.pointer (some ⟨Ks,0,none⟩),.pointer (some ⟨Kd,0,none⟩),.int .i64 0,.string B1] w λe w'=>e=.returned (.tuple #[.string ⟨an.toArray⟩,.bool true])/\∃s' role' V',KSt B Ks Kd s' q tx' z' ad' ms' nx' role' V' E w'/\dS Ks Kd s s' V V' w w':=by
 have gF:=BL h.sv B1 hF;have HH:=hid h;have Ci:=hid Ce;have Cj:=hid Cf;clear h hF Ce Cf;generalize(⟨an.toArray⟩:ByteArray)=ab at*;go_enter Tryz.func13,Tryz.ntmps13;go_wp2_with fail;refine gF.mono ?_;rintro e w1 ⟨va,s1,rfl,hA,Cd,Cb,hN⟩;have B5:cC role B Kd V D w1:=HH.out.dk.same (λb hf=>Cb.block b (HH.out.dk.flt b hf).2 (λe=>HH.out.ap b (Or.inl e) hf) (λhs=>HH.out.ap b (Or.inr hs) hf));have gD:Calls Tryz.prog 12 #[.pointer (some ⟨Kd,0,none⟩),va] w1 λe w'=>e=.returned (.bool true)/\∃role' V',cC role' B Kd V' E w'/\dK Kd V V' w1 w':=by
  by_cases hx:ac=[]
  ·subst hx;obtain⟨a,cap,rfl,_⟩:=bv hA;have:=Ci.out
   cases this
   exact yo B5 a cap
  ·obtain⟨ab,B9,rfl,h2,h3,h4⟩:=ed.actsK hA hx;exact vZ B5 Cd.rs.base ab 0 B9 ac h2 (λhf=>by have:=(HH.out.dk.flt ab hf).2;omega) h3 Ci.out 1000 Cj.out (by omega)
 have B7:∀b,b=Ks∨s1.foot b->¬V.foot Kd b:=λb hf hv=>by
  rcases hf with hf|hf
  ·exact HH.out.ap b (Or.inl hf) hv
  ·rcases Cb.foot b hf with h1|h1
   ·exact HH.out.ap b (Or.inr h1) hv
   ·have:=(HH.out.dk.flt b hv).2;omega
 obtain⟨aa,B9,rfl,_⟩:=bv hA;have Ca:=hid Cd;have B4:=hid Cb;have Cl:=hid B7;clear gF hA Cd Cb hN B5 B7;go_wp2_with fail;refine gD.mono ?_;rintro e w2 ⟨rfl,B6,V2,Ch,Cg⟩;have Ck:=hid Ch;have B3:=hid Cg;clear gD Ch Cg;go_wp2_with fail;go_ret2;have B8:Ks<w1.heap.size:=Ca.out.srv.cells.2.2.2;have Cc:∀b,b<w1.heap.size->b=Ks∨s1.foot b->w2.heap[b]?=w1.heap[b]?/\¬V2.foot Kd b:=λb hb hf=>B3.out.block b hb (Cl.out b hf)
 refine⟨rfl,s1,B6,V2,⟨Ca.out.kept (Cc Ks B8 (Or.inl rfl)).1 (λb hf=>(Cc b (Ca.out.rs.lt b hf) (Or.inr hf)).1) (λb hB=>(B3.out.block b (alH hB Ca.out.rs.base) (λhf=>by have:=(HH.out.dk.flt b hf).1;omega)).1) B3.out.chg.size,Ck.out,λb hf=>?_⟩,⟨B3.out.chg.os.trans B4.out.os,B3.out.chg.tape.trans B4.out.tape,B3.out.chg.output.trans B4.out.output,alS B4.out.size B3.out.chg.size,λb hb hf=>?_,λb hf=>?_⟩⟩
 ·rcases hf with hf|hf
  ·subst hf;exact(Cc b B8 (Or.inl rfl)).2
  ·exact(Cc b (Ca.out.rs.lt b hf) (Or.inr hf)).2
 ·exact(B3.out.block b (alH hb B4.out.size) (λhv=>hf (Or.inr (Or.inr hv)))).1.trans (B4.out.block b hb (λe=>hf (Or.inl e)) (λhs=>hf (Or.inr (Or.inl hs))))
 ·rcases hf with hf|hf|hf
  ·exact Or.inl (Or.inl hf)
  ·rcases B4.out.foot b hf with h1|h1
   ·exact Or.inl (Or.inr (Or.inl h1))
   ·exact Or.inr h1
  ·rcases B3.out.foot b hf with h1|h1
   ·exact Or.inl (Or.inr (Or.inr h1))
   ·exact Or.inr (alS B4.out.size h1)
theorem wI{role:Nat->Nat}{B K:Nat}{V:DkV}{D:bP}{W:World}{ms:List al}{nx:Int}(h:cC role B K V D W)(B7:eh D ms nx)(Cg:aF ms nx)(hE:gZ W)(hR:cw W)(hB:B<=W.heap.size)(Ck:jW B W)(Ci:∀W':World,(∀b,b<B->W'.heap[b]?=W.heap[b]?)->cw W')(pa:Option Addr)(n pc:Nat)(hI:ig W pa n)(Cr:n<=maxLen):
  Calls Tryz.prog 6 #[.pointer (some ⟨K,0,none⟩),.slice pa n pc] W λe w'=>(∃Ks Kd s role' V',e=.returned (.tuple #[.pointer (some ⟨Ks,0,none⟩),.pointer (some ⟨Kd,0,none⟩)])/\KSt B Ks Kd s 0 false 0 adZ ms nx role' V' (fB (dq (cL ms) (Mb.textOf 1 nx (ms.map az)))) w'/\∀b,iN Ks Kd s V' b->W.heap.size<=b)/\Below W.heap.size W w':=by
 have hn:=Cg.len;have gC:=AP h B7.safe (by rw[B7.names];omega) pa n pc hI Cr;have B6:(dq (cL ms) (Mb.textOf 1 nx (ms.map az))).length=ms.length+1:=by rw[jP,(dR ms).length_eq,List.length_map]
 have HE:=hid hE;have Cv:=hid hR;have Cz:=hid B7;have Cl:=hid Cg;have Cy:=hid Ck;have Cw:=hid Ci;clear h B7 hI hE hR Ck Ci;generalize B5:dq (cL ms) (Mb.textOf 1 nx (ms.map az))=fs at*;have Cm:=hid B5;clear B5;go_enter Tryz.func6,Tryz.ntmps6;go_wp2_with fail;refine gC.mono ?_;rintro e w1 ⟨⟨v,ys,rfl,Cf,hO⟩,B9⟩;have Co:ys=fs:=by rw[←Cm.out];exact p8 Cl.out Cz.out.files Cf
 subst Co;obtain⟨fb,cap,Ce,_,Cc,_,Cb⟩:=dn.some hO (λe=>by rw[e]at B6;simp at B6);rw[B6]at Ce;subst Ce;have gO:=Br (cap:=cap) (ms:=ms) (nx:=nx) (a:=some ⟨fb,0,none⟩) (by rw[Cm.out];exact Or.inr ⟨fb,0,rfl,Cc,Cb⟩) Cl.out (HE.out.below B9 (alU)) (Cv.out.below B9 (alU));have HF:=hid Cb;have Cd:=hid B9;clear gC hO Cb B9 Cf;go_wp2_with fail;refine gO.mono ?_;rintro e w2 ⟨⟨Ks,s,rfl,hS⟩,B8⟩;have B1:=Cd.out.size;have Ca:=B8.size;have gN:=mi fb 0 cap ys w2 (by omega) (HF.out.below B8 Cc) (by rw[B6];omega);rw[B6]at gN;have HS:=hid hS;have Cn:=hid (Cd.out.trans (B8.mono B1));have Cu:=hid B1;have Ct:=hid Ca;clear gO hS B8 HF Cd B1 Ca Cc;go_wp2_with fail;refine gN.mono ?_;rintro e w3 ⟨rfl,⟨role',V',hD⟩,Ch⟩;have HD:=hid hD;have B3:=hid Ch;clear gN hD Ch;generalize Cj:w2.heap.size=Kd at*;have Cx:=hid Cj;clear Cj;go_wp2_with(go_at_call 12;refine(v8 w3).mono ?_;rintro e w' ⟨rfl,CA⟩;subst w');go_ret2;have B1:=Cu.out;have Ca:=Ct.out;have hk:=Cx.out;have Cs:Ks<w2.heap.size:=HS.out.srv.cells.2.2.2;have Cp:=B3.out.size;have B4:∀b,b<B->w3.heap[b]?=W.heap[b]?:=λb hb=>(B3.out.block b (by omega)).trans (Cn.out.block b (by omega))
 have Cq:=HS.out.kept (W':=w3) (B3.out.block Ks (by omega)) (λb hb=>B3.out.block b (by have:=HS.out.rs.lt b hb;omega)) (λb hb=>B3.out.block b (by omega)) (by omega);refine⟨⟨Ks,Kd,s,role',V',rfl,⟨Cq.lower (by omega) (Cy.out.step B4) (λW hW=>Cw.out W λb hb=>(hW b hb).trans (B4 b hb)),HD.out.base (by omega),λb hb hf=>?_⟩,λb hf=>?_⟩,Cn.out.trans (B3.out.mono (by omega))⟩
 ·have h2:=(HD.out.flt b hf).1
  rcases hb with hb|hb
  ·subst hb;omega
  ·have:=HS.out.rs.lt b hb;omega
 ·rcases hf with hb|hb|hb
  ·subst hb;exact alS B1 HS.out.base
  ·exact alS B1 (HS.out.rs.low b hb)
  ·have:=(HD.out.flt b hb).1;omega
end
end Go.Proofs.YtlbcgmlhaeeoeaaGreatDoor
