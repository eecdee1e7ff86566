import Derived.Test.YtbeahecjbokjjaaGreatDoorQ12
set_option maxRecDepth 100000
set_option maxHeartbeats 16000000
namespace Go.Proofs.YtbeahecjbokjjaaGreatDoor
open Go.RowKit Go.Lib
def aQ (m:ap):Mb.Ent:=⟨m.key,m.uid,m.flags⟩
theorem xF{ep nx:Int}{w:World}:(Instr.build 115 #[(0,.int .i64 ep),(1,.int .i64 nx)]).run Tryz.prog w=.ok (.agg #[.int .i64 ep,.int .i64 nx,.slice none 0 0]) w:=by go_simp
theorem vy{w:World}:(Instr.alloc 115 true (.tuple #[])).run Tryz.prog w=.ok (.pointer (some ⟨w.heap.size,0,none⟩)) (w.alloc (.cells #[.int .i64 0,.int .i64 0,.slice none 0 0] 115)):=by go_simp
theorem vv{w:World}{b:Nat}{ep nx:Int}{u0 u1 u2:Value}{a:Option Addr}{n c:Nat}{t:TypeId}(h:w.heap[b]?=some (.cells #[u0,u1,u2] t (0,0))):
  (Instr.storeAt 115 (.pointer (some ⟨b,0,none⟩)) (.agg #[.int .i64 ep,.int .i64 nx,.slice a n c])).run Tryz.prog w=.ok () (((w.setCell ⟨b,0,none⟩ (.int .i64 ep)).setCell ⟨b,1,none⟩ (.int .i64 nx)).setCell ⟨b,2,none⟩ (.slice a n c)):=by
 have c0:w.cell? ⟨b,0,none⟩=some u0:=by simp[World.cell?,h]
 have c1:w.cell? ⟨b,1,none⟩=some u1:=by simp[World.cell?,h]
 have c2:w.cell? ⟨b,2,none⟩=some u2:=by simp[World.cell?,h]
 have f0:w.frozen? ⟨b,0,none⟩=false:=by simp[World.frozen?,h]
 have f1:w.frozen? ⟨b,1,none⟩=false:=by simp[World.frozen?,h]
 have f2:w.frozen? ⟨b,2,none⟩=false:=by simp[World.frozen?,h]
 go_simp
theorem lm{w:World}{K:Nat}{name B7:ByteArray}{ep nx:Int}{a:Option Addr}{cap:Nat}{xs:List ap}(h:bg w K name B7 ep nx (.slice a xs.length cap))(hm:dB w a xs)(hl:xs.length<=1000)(Cf:B7.data.toList.length<=1048576)(hE:Env w)(Cv:Mb.listOk ep nx (xs.map aQ)=true)(Cw:∀x∈xs,x.flags.length<=1000):
  Calls Tryz.prog 47 #[.pointer (some ⟨K,0,none⟩)] w λe w'=>(∃bN bT:ByteArray,e=.returned (.agg #[.string bN,.string bT])/\bN.data.toList=B7.data.toList++[47,108,105,115,116]/\bT.data.toList=Mb.textOf ep nx (xs.map aQ))/\Below w.heap.size w w':=by
 have hK:K<w.heap.size:=h.cells.2.2.2.2.2.2;have Hh:=hid h;have Hm:=hid hm;have HE:=hid hE;have CY:=hid Cw;have CX:=hid Cv;clear h hm hE Cw Cv;obtain⟨i0,hi,CL,CK,CJ⟩:=alQ jz;have Cn:Below w.heap.size w (w.alloc (.cells #[.string ⟨#[]⟩,.string ⟨#[]⟩] 58)):=aw;have CB:(w.alloc (.cells #[.string ⟨#[]⟩,.string ⟨#[]⟩] 58)).heap[w.heap.size]?=some (.cells #[.string ⟨#[]⟩,.string ⟨#[]⟩] 58 (0,0)):=alA w _;have Cu:(w.alloc (.cells #[.string ⟨#[]⟩,.string ⟨#[]⟩] 58)).heap.size=w.heap.size+1:=by simp
 go_enter Tryz.func47,Tryz.ntmps47;go_wp2_with fail;generalize(w.alloc (.cells #[.string ⟨#[]⟩,.string ⟨#[]⟩] 58))=w1 at*;have CG:=Hh.out.below Cn;obtain⟨_,_,c2,c3,_,_,CF⟩:=CG.cells;refine aC 10 (λw':World=>w'.cell? ⟨K,2,none⟩=some (.int .i64 ep)/\w'.cell? ⟨K,3,none⟩=some (.int .i64 nx)) 11 rfl (by kernel_rfl) ⟨c2,c3⟩ (λa' Q hA hQ hP hS=>?_);have z:a'.tmps.size=51:=by rw[hA.out];rfl
 have e0:a'.eval (.tmp 0)=Value.pointer (some ⟨K,0,none⟩):=by rw[hA.out];rfl
 refine tkA 0 (some 8) rfl rfl hP (λwx hw=>ag rfl e0) hS ?_;refine tkA 1 (some 9) rfl rfl hP (λwx hw=>aI rfl (evz z)) hS ?_;refine tkA 2 (some 10) rfl rfl hP (λwx hw=>ai ⟨K,2,none⟩ rfl (evz (szq z))) hS ?_;refine tkA 3 (some 11) rfl rfl hP (λwx hw=>aq rfl (evz (sz2 z)) (aO hw.1)) hS ?_;refine tkA 4 (some 12) rfl rfl hP (λwx hw=>ag rfl (ev4 e0)) hS ?_;refine tkA 5 (some 13) rfl rfl hP (λwx hw=>aI rfl (evz (sz4 z))) hS ?_;refine tkA 6 (some 14) rfl rfl hP (λwx hw=>ai ⟨K,3,none⟩ rfl (evz (sz4 (szq z)))) hS ?_;refine tkA 7 (some 15) rfl rfl hP (λwx hw=>aq rfl (evz (sz4 (sz2 z))) (aO hw.2)) hS ?_;refine tkA 8 (some 16) rfl rfl hP (λwx hw=>fy (v:=.agg #[.int .i64 ep,.int .i64 nx,.slice none 0 0]) rfl (ev4 (evz (sz2 (szq z)))) (evz (sz4 (sz2 (szq z)))) xF) hS ?_;refine bb (i:=9) (d:=some 3) (v:=.pointer (some ⟨w1.heap.size,0,none⟩)) (w':=w1.drew.alloc (.cells #[.int .i64 0,.int .i64 0,.slice none 0 0] 115)) (by kernel_rfl) rfl rfl rfl (iY rfl vy) (λ_=>⟨(aF ⟨K,2,none⟩ (alB w1.drew _ CF)).trans c2,(aF ⟨K,3,none⟩ (alB w1.drew _ CF)).trans c3⟩) ?_;refine i6 (i:=10) (w':=(((w1.drew.alloc (.cells #[.int .i64 0,.int .i64 0,.slice none 0 0] 115)).setCell ⟨w1.heap.size,0,none⟩ (.int .i64 ep)).setCell ⟨w1.heap.size,1,none⟩ (.int .i64 nx)).setCell ⟨w1.heap.size,2,none⟩ (.slice none 0 0)) (by kernel_rfl) rfl rfl rfl rfl (evz (sz8 (szq z))) (ev1 (evz (sz8 z))) (vv (alA w1.drew _)) (λh=>absurd rfl h) ?_;refine aD (by kernel_rfl) (hQ.out _ _ ?_) _;rw[hA.out];simp only[Act.put,List.setIfInBounds_toArray];dsimp only[List.set];clear hQ hP hA z hS Q a' e0;have CE:((((w1.drew.alloc (.cells #[.int .i64 0,.int .i64 0,.slice none 0 0] 115)).setCell ⟨w1.heap.size,0,none⟩ (.int .i64 ep)).setCell ⟨w1.heap.size,1,none⟩ (.int .i64 nx)).setCell ⟨w1.heap.size,2,none⟩ (.slice none 0 0)).heap[w1.heap.size]?=some (.cells #[.int .i64 ep,.int .i64 nx,.slice none 0 0] 115 (0,0)):=by
  have h5:=ah (o:=2) (.slice none 0 0) (ah (o:=1) (.int .i64 nx) (ah (o:=0) (.int .i64 ep) (alA w1.drew (.cells #[.int .i64 0,.int .i64 0,.slice none 0 0] 115))));simpa using h5
 have Cm:Below w1.heap.size w1 ((((w1.drew.alloc (.cells #[.int .i64 0,.int .i64 0,.slice none 0 0] 115)).setCell ⟨w1.heap.size,0,none⟩ (.int .i64 ep)).setCell ⟨w1.heap.size,1,none⟩ (.int .i64 nx)).setCell ⟨w1.heap.size,2,none⟩ (.slice none 0 0)):=(((((Below.refl _ _).drew).alloc (alU) _).setCell (alU) _).setCell (alU) _).setCell (alU) _;have Ct:((((w1.drew.alloc (.cells #[.int .i64 0,.int .i64 0,.slice none 0 0] 115)).setCell ⟨w1.heap.size,0,none⟩ (.int .i64 ep)).setCell ⟨w1.heap.size,1,none⟩ (.int .i64 nx)).setCell ⟨w1.heap.size,2,none⟩ (.slice none 0 0)).heap.size=w1.heap.size+1:=by simp
 generalize((((w1.drew.alloc (.cells #[.int .i64 0,.int .i64 0,.slice none 0 0] 115)).setCell ⟨w1.heap.size,0,none⟩ (.int .i64 ep)).setCell ⟨w1.heap.size,1,none⟩ (.int .i64 nx)).setCell ⟨w1.heap.size,2,none⟩ (.slice none 0 0))=w2 at*;generalize CD:w1.heap.size=L at*;have CI:Hid (Below w.heap.size w w2):=Cn.trans (Cm.mono (by omega));have CS:Hid (w2.heap[w.heap.size]?=some (.cells #[.string ⟨#[]⟩,.string ⟨#[]⟩] 58 (0,0))):=(Cm.block w.heap.size (by omega)).trans CB;have C3:=hid CE;have k4:w2.cell? ⟨K,4,none⟩=some (.slice a xs.length cap):=(CI.out.cell (p:=⟨K,4,none⟩) hK).trans Hh.out.cells.2.2.2.2.1;have CM:w.heap.size<L:=by omega
 have hK1':K<L:=by omega
 have Da:=hid CD;have C9:=hid Cu;have C8:=hid Ct;clear CE Cm CB Cn CG c2 c3 Cu Ct CD;go_wp2_with fail;go_loopw [22] (λi wr=>∃(k:Nat) (ea:Option Addr) (ec:Nat),k<=xs.length/\i=.int .i64 k/\Hid (wr.heap[L]?=some (.cells #[.int .i64 ep,.int .i64 nx,.slice ea k ec] 115 (0,0)))/\Hid (ja wr (L+1) ea ec ((xs.take k).map aQ))/\Hid (Below w.heap.size w wr)/\Hid (wr.heap[w.heap.size]?=some (.cells #[.string ⟨#[]⟩,.string ⟨#[]⟩] 58 (0,0)))) (λi _=>xs.length-(RowKit.intOf i).toNat)
 case atStart=>exact⟨0,none,0,alT _,rfl,C3,alG _ _ _ _,CI,CS⟩
 case round=>
  obtain⟨k,ea,ec,hk,rfl,Cc,CC,B8,Cz⟩:=hrel;have Ce:((xs.take k).map aQ).length=k:=by simp;omega
  have Cr:=hid Ce;have CU:L<wr.heap.size:=(alJ.1 Cc.out).1;have l0:wr.cell? ⟨L,0,none⟩=some (.int .i64 ep):=by simp[World.cell?,Cc.out]
  have l1:wr.cell? ⟨L,1,none⟩=some (.int .i64 nx):=by simp[World.cell?,Cc.out]
  have l2:wr.cell? ⟨L,2,none⟩=some (.slice ea k ec):=by simp[World.cell?,Cc.out]
  have lf:wr.frozen? ⟨L,2,none⟩=false:=by simp[World.frozen?,Cc.out]
  clear Ce
  by_cases Cd:k<xs.length
  ·obtain⟨b,off,ha,hb,hc⟩:∃b off,a=some ⟨b,off,none⟩/\b<w.heap.size/\fu w b off xs:=by
    rcases Hm.out with hz|hz
    ·rw[hz]at Cd;simp at Cd
    ·exact hz
   subst ha;obtain⟨c0,c1,c2,c3,c5⟩:=hc k xs[k] (by simp[Cd]);have d0:=(B8.out.cell (p:=⟨b,off+k*5,none⟩) hb).trans c0;have d1:=(B8.out.cell (p:=⟨b,off+k*5+1,none⟩) hb).trans c1;have d2:=(B8.out.cell (p:=⟨b,off+k*5+2,none⟩) hb).trans c2;have d3:=(B8.out.cell (p:=⟨b,off+k*5+3,none⟩) hb).trans c3;have d4:=(B8.out.cell (p:=⟨b,off+k*5+4,none⟩) hb).trans c5;have hI:∀w,(Instr.indexAt 112 (.slice (some ⟨b,off,none⟩) xs.length cap) (.int .i64 (k:Int))).run Tryz.prog w=.ok (.pointer (some ⟨b,off+k*5,none⟩)) w:=λw=>cy Cd
   have HT:Hid ((xs.take (k+1)).map aQ=(xs.take k).map aQ++[aQ xs[k]]):=by unfold Hid;rw[alL Cd,List.map_append];rfl
   have B6:wr.ownsRow (L+1) 177 3 (.slice ea k ec) k (cC ((xs.take k).map aQ)):=by
    have:=CC.out;unfold ja at this;rwa [Cr.out]at this
   have B9:=(B6.alloc (.cells #[.int .i64 xs[k].key,.int .i64 xs[k].uid,.string ⟨xs[k].flags.toArray⟩,.string ⟨xs[k].came.toArray⟩,.string ⟨xs[k].text.toArray⟩] 165)).alloc (.cells #[.int .i64 xs[k].key,.int .i64 xs[k].uid,.string ⟨xs[k].flags.toArray⟩] 177);have CO:some L≠(Value.slice ea k ec).ownBlock:=λe=>by have:=(B6.lt _ e.symm).1;omega
   have CN:some w.heap.size≠(Value.slice ea k ec).ownBlock:=λe=>by have:=(B6.lt _ e.symm).1;omega
   have Cj:=B8.out.size;have C2:Hid (aQ xs[k]=⟨xs[k].key,xs[k].uid,xs[k].flags⟩):=rfl;clear c0 c1 c2 c3 c5 hc;generalize Cx:(⟨xs[k].flags.toArray⟩:ByteArray)=bf at*;generalize(⟨xs[k].came.toArray⟩:ByteArray)=b3 at*;generalize(⟨xs[k].text.toArray⟩:ByteArray)=b4 at*;have CZ:=hid Cx;clear Cx;go_wp2_with(at_builtin;refine wpList_append_lies _ rfl (.tmp 27) (.tmp 35) 113 rfl (L+1) 177 i0 (.agg #[.int .i64 0,.int .i64 0,.string ByteArray.empty]) 3 32 Tryz.underlying113 hi CL CK CJ rfl (by decide) (.slice ea k ec) k (cC ((xs.take k).map aQ)) rfl B9 ⟨wr.heap.size+1,0,none⟩ 1 1 [.int .i64 xs[k].key,.int .i64 xs[k].uid,.string bf] rfl rfl (alF (cs:=#[.int .i64 xs[k].key,.int .i64 xs[k].uid,.string bf]) (t:=177) (fr:=(0,0)) (by have:=alA (wr.alloc (.cells #[.int .i64 xs[k].key,.int .i64 xs[k].uid,.string bf,.string b3,.string b4] 165)) (.cells #[.int .i64 xs[k].key,.int .i64 xs[k].uid,.string bf] 177);simpa using this)) (by simp[Value.oneCell']) (by decide) (by unfold maxLen;omega) (by omega) (by simp;omega) (wr.heap.size+2) (by simp) ?_);intro g gc w3 Ca B5 Cg Ck;have Ci:=(B5.block L (by simp;omega) CO).trans ((alB _ _ (by simp;omega)).trans ((alB wr _ CU).trans Cc.out));have CA:=(B5.block w.heap.size (by simp;omega) CN).trans ((alB _ _ (by simp;omega)).trans ((alB wr _ (show w.heap.size<wr.heap.size by omega)).trans Cz.out));have m2:w3.cell? ⟨L,2,none⟩=some (.slice ea k ec):=by simp[World.cell?,Ci]
   have mf:w3.frozen? ⟨L,2,none⟩=false:=by simp[World.frozen?,Ci]
   have C7:g≠L:=by
    rcases Cg with h1|h1
    ·have:=(B6.lt g h1).1;omega
    ·omega
   have CV:Hid ((w3.setCell ⟨L,2,none⟩ (.slice (some ⟨g,0,none⟩) (k+1) gc)).heap[L]?=some (.cells #[.int .i64 ep,.int .i64 nx,.slice (some ⟨g,0,none⟩) (k+1) gc] 115 (0,0))):=by
    have h5:=ah (o:=2) (.slice (some ⟨g,0,none⟩) (k+1) gc) Ci;unfold Hid;simpa using h5
   have CR:Hid ((w3.setCell ⟨L,2,none⟩ (.slice (some ⟨g,0,none⟩) (k+1) gc)).heap[w.heap.size]?=some (.cells #[.string ⟨#[]⟩,.string ⟨#[]⟩] 58 (0,0))):=(alP _ _ _ _ (by show w.heap.size≠L;omega)).trans CA;have CW:Hid (Below w.heap.size w (w3.setCell ⟨L,2,none⟩ (.slice (some ⟨g,0,none⟩) (k+1) gc))):=(((B8.out.alloc Cj _).alloc (by simp;omega) _).grown B5 (by simp;omega) (λb' Co=>by have:=(B6.lt b' Co).1;omega)).setCell (Nat.le_of_lt CM) _;have CT:Hid (ja (w3.setCell ⟨L,2,none⟩ (.slice (some ⟨g,0,none⟩) (k+1) gc)) (L+1) (some ⟨g,0,none⟩) gc ((xs.take (k+1)).map aQ)):=by
    unfold Hid;rw[HT.out];unfold ja;have e:((xs.take k).map aQ++[aQ xs[k]]).length=k+1:=by simp;omega
    rw[e,kM];refine au (w:=w3) (λb' Co=>alP _ _ _ _ ?_) (by rw[C2.out,List.map_take];simp only[CZ.out];exact Ca);have e2:g=b':=alR Co;show b'≠L;omega
   clear Ca B5 Cg Ck B9 B6 Ci CA;go_wp2_with fail;exact⟨⟨k+1,some ⟨g,0,none⟩,gc,by omega,by simp,CV,CT,CW,CR⟩,by simp[RowKit.intOf];omega⟩
  ·have CQ:Hid (xs.take k=xs):=alO (by omega);have CP:Hid (k=xs.length):=by unfold Hid;omega
   obtain⟨Cs,Cb,_⟩:=gY (show wr.ownsRow (L+1) 177 3 (.slice ea (xs.map aQ).length ec) (xs.map aQ).length (cC (xs.map aQ))by have h1:=CC.out;rw[CQ.out]at h1;exact h1) rfl;have gW:=qE ep nx ea ec (xs.map aQ) wr (HE.out.below B8.out (alU)) Cs (by simp;unfold maxLen;omega) Cb (λx hx=>by simp at hx;obtain⟨y,hy,rfl⟩:=hx;have:=CY.out y hy;unfold maxLen;simp[aQ];omega) CX.out;obtain⟨bT,C0,Cp⟩:=aj (Mb.textOf ep nx (xs.map aQ));rw[←C0.out]at gW;have e1:(xs.map aQ).length=k:=by simp[CP.out]
   rw[e1]at gW;have Cj:=B8.out.size;clear Cs Cb e1;go_wp2_with fail;refine gW.mono ?_;rintro e w5 ⟨rfl,Cl⟩;have CH:Hid (Below w.heap.size w w5):=B8.out.trans (Cl.mono Cj);have Ch:Hid (w5.heap[w.heap.size]?=some (.cells #[.string ⟨#[]⟩,.string ⟨#[]⟩] 58 (0,0))):=(Cl.block w.heap.size (by omega)).trans Cz.out;have x1:w5.cell? ⟨K,1,none⟩=some (.string B7):=(CH.out.cell (p:=⟨K,1,none⟩) hK).trans Hh.out.cells.2.1;have y0:w5.cell? ⟨w.heap.size,0,none⟩=some (.string ⟨#[]⟩):=by simp[World.cell?,Ch.out]
   have y1:w5.cell? ⟨w.heap.size,1,none⟩=some (.string ⟨#[]⟩):=by simp[World.cell?,Ch.out]
   have C5:w5.frozen? ⟨w.heap.size,0,none⟩=false:=by simp[World.frozen?,Ch.out]
   have C4:w5.frozen? ⟨w.heap.size,1,none⟩=false:=by simp[World.frozen?,Ch.out]
   have gL:=uX B7 Cf w5;clear Cl gW l0 l1 l2 lf;go_wp2_with fail;refine gL.mono ?_;rintro e w6 ⟨⟨bN,rfl,Cy⟩,C6⟩;subst w6;have C1:=hid Cy;clear Cy;go_wp2_with fail;have z0:=(alC (w5.setCell ⟨w.heap.size,0,none⟩ (.string bN)) ⟨w.heap.size,1,none⟩ ⟨w.heap.size,0,none⟩ (.string bT) (by simp)).trans (alD w5 ⟨w.heap.size,0,none⟩ (.string bN) y0);have z1:=alD (w5.setCell ⟨w.heap.size,0,none⟩ (.string bN)) ⟨w.heap.size,1,none⟩ (.string bT) ((alC _ _ _ _ (by simp)).trans y1);refine bodyPost_ret (v:=.agg #[.string bN,.string bT]) (by simp[results,Tryz.results47,go_sem,z0,z1]) rfl ⟨⟨bN,bT,rfl,C1.out,Cp.out⟩,((CH.out.setCell (alU) _).setCell (alU) _)⟩
def de:Nat->List (List UInt8)->List ap
 |_,[]=>[]
 |k,t::r=>⟨(k:Int),(k:Int),[],[],t⟩::de (k+1) r
def cU (ts:List (List UInt8)):List ap:=de 1 ts
theorem jA:∀(k:Nat) (ts:List (List UInt8)),(de k ts).length=ts.length
 |_,[]=>rfl
 |k,_::r=>by simp[de,jA (k+1) r]
theorem iS(ts:List (List UInt8)):(cU ts).length=ts.length:=jA 1 ts
theorem gq:∀(k:Nat) (ts:List (List UInt8)) (i:Nat) (x:ap),(de k ts)[i]?=some x->x.key=((k+i:Nat):Int)/\x.uid=((k+i:Nat):Int)/\x.flags=[]/\x.came=[]/\ts[i]?=some x.text
 |k,[],i,x,h=>by simp[de]at h
 |k,t::r,0,x,h=>by simp[de]at h;subst h;simp
 |k,t::r,i+1,x,h=>by
  have:=gq (k+1) r i x (by simpa[de]using h);have e:k+1+i=k+(i+1):=by omega
  rw[e]at this;simpa using this
def cZ (k:Nat):Nat->List Mb.Ent
 |0=>[]
 |n+1=>⟨(k:Int),(k:Int),[]⟩::cZ (k+1) n
theorem jm:∀(k:Nat) (ts:List (List UInt8)),(de k ts).map aQ=cZ k ts.length
 |_,[]=>rfl
 |k,_::r=>by simp[de,cZ,aQ,jm (k+1) r]
def dq (n:Nat):List UInt8:=Mb.textOf 1 ((n+1:Nat):Int) (cZ 1 n)
theorem pw:∀n:Nat,n<=8->Mb.listOk 1 ((n+1:Nat):Int) (cZ 1 n)=true:=by
 have h:∀n:Fin 9,Mb.listOk 1 ((n.val+1:Nat):Int) (cZ 1 n.val)=true:=by decide+kernel
 intro n hn;exact h ⟨n,by omega⟩
theorem nL:∀n:Nat,n<=8->(dq n).length<=100:=by
 have h:∀n:Fin 9,(dq n.val).length<=100:=by decide+kernel
 intro n hn;exact h ⟨n,by omega⟩
theorem qr(ts:List (List UInt8)):∀x∈cU ts,x.flags.length<=1000:=by
 intro x hx;obtain⟨i,hi⟩:=List.getElem?_of_mem hx;rw[(gq 1 ts i x hi).2.2.1];simp
theorem But.base{K B:Nat}{row:Option Nat}{w w':World}(h:But K row w w')(hK:B<=K)(hr:∀b,row=some b->B<=b)(hB:B<=w.heap.size):Below B w w':=
 ⟨h.os,h.tape,h.output,h.size,λb hb=>h.block b (by omega) (by omega) (λe=>by have:=hr b e;omega)⟩
theorem fV(xs:List gd):∀u∈cE xs,u.oneCell'=true:=by
 intro u hu;unfold cE at hu;simp only[List.mem_flatMap]at hu;obtain⟨x,_,hx⟩:=hu;simp at hx
 rcases hx with rfl|rfl|rfl|rfl<;>rfl
theorem sm(n d:List UInt8):(cE (bO n d)).length=5*4:=rfl
theorem ed.slice5{w:World}{B:Nat}{v:Value}{n d:List UInt8}(h:ed w B v (bO n d)):∃ad c,v=.slice (some ad) 5 c/\∀j u,(cE (bO n d))[j]?=some u->w.cell? (ad.add j)=some u:=by
 rcases h.2 with⟨_,h2⟩|⟨g,c,B5,h1,_⟩
 ·exact absurd h2 (by show¬5=0;decide)
 ·exact⟨⟨g,0,none⟩,c,h1,h.cells (g:=g) (by rw[h1];rfl)⟩
theorem Az{P:Nat}{key uid:Int}{fl cm tx:ByteArray}{w:World}{fr:Nat×Nat}(h:w.heap[P]?=some (.cells #[.int .i64 key,.int .i64 uid,.string fl,.string cm,.string tx] 165 fr)):w.cell? ⟨P,1,none⟩=some (.int .i64 uid):=by simp[World.cell?,h]
theorem n7(n d:ByteArray)(w:World):
  Calls Tryz.prog 48 #[.agg #[.string n,.string d]] w λe w'=>(∃v,e=.returned v/\ed w' w.heap.size v (bO n.data.toList d.data.toList))/\Below w.heap.size w w':=by
 have g:=zc n d (w.alloc (.cells #[.string n,.string d] 58));go_enter Tryz.func48,Tryz.ntmps48;go_wp2_with fail;refine g.mono ?_;have es:(w.alloc (.cells #[.string n,.string d] 58)).heap.size=w.heap.size+1:=by simp
 rw[es];rintro e w1 ⟨rfl,hO,hb⟩;have HO:=hid hO;have HB:=hid hb;clear hO hb g;go_wp2_with fail;go_ret;exact⟨⟨_,rfl,HO.out.base (B':=w.heap.size) (by simp)⟩,aw.trans (HB.out.mono (by omega))⟩
theorem sW{w:World}{K B:Nat}{name B5:ByteArray}{ep nx:Int}{v:Value}{xs:List ap}(h:bg w K name B5 ep nx v)(ho:bI w B v xs)(hB:B<=w.heap.size)(CY:B<=K)(hE:∀w',Below B w w'->Env w')(CR:v.ownBlock≠some K)(hl:xs.length<=100)(CT:0<=nx)(CS:nx<=99)(fl tx:ByteArray)(CC:B5.data.toList.length<=1000)(CW:fl.data.toList.length<=1000)(Cy:∀x∈xs,x.flags.length<=1000)
  (m:Nat) (h1:1<=m) (hm:m<=999) (Ck:∀j:Nat,1<=j->j<m->aU (j:Int) xs=true) (CA:aU (m:Int) xs=false)
  (Cz:Mb.listOk ep (nx+1) ((xs++[(⟨(m:Int),nx,fl.data.toList,fl.data.toList,tx.data.toList⟩:ap)]).map aQ)=true):
  Calls Tryz.prog 260 #[.pointer (some ⟨K,0,none⟩),.string fl,.string tx] w λe w'=>(∃va,e=.returned (.tuple #[.int .i64 nx,va])/\ed w' w.heap.size va (bO (B5.data.toList++[47]++Lib.itoa (m:Int)++[46]++fl.data.toList) tx.data.toList++bO (B5.data.toList++[47,108,105,115,116]) (Mb.textOf ep (nx+1) ((xs++[(⟨(m:Int),nx,fl.data.toList,fl.data.toList,tx.data.toList⟩:ap)]).map aQ))))/\
   ∃g cap,bg w' K name B5 ep (nx+1) (.slice (some ⟨g,0,none⟩) (xs.length+1) cap)/\bI w' B (.slice (some ⟨g,0,none⟩) (xs.length+1) cap) (xs++[(⟨(m:Int),nx,fl.data.toList,fl.data.toList,tx.data.toList⟩:ap)])/\(v.ownBlock=some g∨w.heap.size<=g)/\But K v.ownBlock w w':=by
 have ga:=zM h ho hB CR (by omega) CT CS fl tx m h1 (by omega) Ck CA;have Ci:∀b,v.ownBlock=some b->B<=b:=λb hb=>(ho.lt b hb).1
 have B9:∀b,v.ownBlock=some b->b<w.heap.size:=λb hb=>(ho.lt b hb).2
 have hK:K<w.heap.size:=h.cells.2.2.2.2.2.2;have HE:=hid hE;have C0:=hid Cz;have CZ:=hid Cy;have Cx:=hid Ci;have C5:=hid B9;clear h ho hE Cz Ck CA Cy Ci B9;go_enter Tryz.func260,Tryz.ntmps260;go_wp2_with fail;refine ga.mono ?_;rintro e w1 ⟨rfl,g,cap,CJ,CI,CB,Ct⟩;have C2:=hid CJ;have CN:=hid CI;have C1:=hid CB;have C3:=hid Ct;have CQ:=Ct.size;clear CJ CI CB Ct ga;go_wp2_with fail;have Cf:(w1.alloc (.cells #[.int .i64 (m:Int),.int .i64 nx,.string fl,.string fl,.string tx] 165)).heap[w1.heap.size]?=some (.cells #[.int .i64 (m:Int),.int .i64 nx,.string fl,.string fl,.string tx] 165 (0,0)):=alA w1 _;have Cg:Below w1.heap.size w1 (w1.alloc (.cells #[.int .i64 (m:Int),.int .i64 nx,.string fl,.string fl,.string tx] 165)):=aw;have Cc:=C2.out.below Cg;have Co:bI (w1.alloc (.cells #[.int .i64 (m:Int),.int .i64 nx,.string fl,.string fl,.string tx] 165)) B (.slice (some ⟨g,0,none⟩) (xs.length+1) cap) (xs++[(⟨(m:Int),nx,fl.data.toList,fl.data.toList,tx.data.toList⟩:ap)]):=au (λb hb=>Cg.block b (CN.out.lt b hb).2) CN.out;have hM:w1.heap.size<(w1.alloc (.cells #[.int .i64 (m:Int),.int .i64 nx,.string fl,.string fl,.string tx] 165)).heap.size:=by simp
 have Cp:But K v.ownBlock w (w1.alloc (.cells #[.int .i64 (m:Int),.int .i64 nx,.string fl,.string fl,.string tx] 165)):=C3.out.below Cg;generalize(w1.alloc (.cells #[.int .i64 (m:Int),.int .i64 nx,.string fl,.string fl,.string tx] 165))=w2 at*;generalize C4:w1.heap.size=M at*;have Cl:Below B w w2:=Cp.base CY Cx.out hB;have Cw:∀w',Below w2.heap.size w2 w'->Env w':=λw' hb=>HE.out w' (Cl.trans (hb.mono (by omega)))
 have gF:=o2 (w:=w2.drew) (K:=K) (show bg w2.drew K name B5 ep (nx+1) (.slice (some ⟨g,0,none⟩) (xs.length+1) cap)from Cc) (m:Int) nx fl fl tx (by omega) (by omega) (by omega) (by omega) (Cw _ ((Below.refl _ _).drew));have Cr:(xs++[(⟨(m:Int),nx,fl.data.toList,fl.data.toList,tx.data.toList⟩:ap)]).length=xs.length+1:=by simp
 have Cm:∀w',Below w2.heap.size w2 w'->Calls Tryz.prog 47 #[.pointer (some ⟨K,0,none⟩)] w' λe CO=>(∃bN bT:ByteArray,e=.returned (.agg #[.string bN,.string bT])/\bN.data.toList=B5.data.toList++[47,108,105,115,116]/\bT.data.toList=Mb.textOf ep (nx+1) ((xs++[(⟨(m:Int),nx,fl.data.toList,fl.data.toList,tx.data.toList⟩:ap)]).map aQ))/\Below w'.heap.size w' CO:=by
  intro w' hb;obtain⟨a',c',he,_,CU,_⟩:=bI.form (au (w':=w') (λb CX=>hb.block b (Co.lt b CX).2) Co);have hF':=Cc.below hb;rw[Cr]at he;injection he with e1 e2 e3
  subst e1 e3;refine lm (xs:=xs++[(⟨(m:Int),nx,fl.data.toList,fl.data.toList,tx.data.toList⟩:ap)]) (by rw[Cr];exact hF') CU (by rw[Cr];omega) (by omega) (Cw w' hb) C0.out ?_;intro x hx
  rcases List.mem_append.1 hx with hx|hx
  ·exact CZ.out x hx
  ·simp only[List.mem_singleton]at hx;rw[hx];exact CW
 have C6:=hid Cf;have CM:=hid Co;refine aC 12 (λw':World=>w'.heap[M]?=some (.cells #[.int .i64 (m:Int),.int .i64 nx,.string fl,.string fl,.string tx] 165 (0,0))/\bg w' K name B5 ep (nx+1) (.slice (some ⟨g,0,none⟩) (xs.length+1) cap)) 12 rfl (by kernel_rfl) ⟨Cf,Cc⟩ (λa' Q hA hQ hP hS=>?_);have z:a'.tmps.size=23:=by rw[hA.out];rfl
 have e0:a'.eval (.tmp 0)=Value.pointer (some ⟨K,0,none⟩):=by rw[hA.out];rfl
 have e8:a'.eval (.tmp 8)=Value.pointer (some ⟨M,0,none⟩):=by rw[hA.out];rfl
 refine tkA 0 (some 13) rfl rfl hP (λwx hw=>iX (p':=⟨M,1,none⟩) rfl e8 (λw=>by kernel_rfl)) hS ?_;refine tkA 1 (some 14) rfl rfl hP (λwx hw=>aq rfl (evz z) (aO (Az hw.1))) hS ?_;refine tkA 2 (some 15) rfl rfl hP (λwx hw=>ag rfl (ev2 e0)) hS ?_;refine tkA 3 (some 16) rfl rfl hP (λwx hw=>aq rfl (ev2 (ev1 e8)) (oI hw.1)) hS ?_;refine tkA 6 (some 19) rfl rfl hP (λwx hw=>ag rfl (ev4 e0)) hS ?_;refine bG (i:=4) (d:=some 17) (by kernel_rfl) rfl rfl rfl rfl Tryz.func267 (by kernel_rfl) rfl (eH (ev2 (evz (sz2 z))) (ev1 (evz (sz2 (szq z))))) gF ?_;rintro e w3 ⟨⟨bF,rfl,CF⟩,Ch⟩;refine⟨_,rfl,λ_=>⟨(Ch.block M (show M<w2.heap.size by omega)).trans Cf,Cc.below (w':=w3) (((Below.refl _ _).drew).trans Ch)⟩,?_⟩;have gP:=n7 bF tx w3;refine bG (i:=5) (d:=some 18) (by kernel_rfl) rfl rfl rfl rfl Tryz.func48 (by kernel_rfl) rfl (jy (evz (sz4 (szq z)))) gP ?_;rintro e w4 ⟨⟨v4,rfl,CL⟩,CG⟩;have B8:Below w2.heap.size w2 w4:=(((Below.refl _ _).drew).trans Ch).trans (CG.mono Ch.size);refine⟨_,rfl,λ_=>⟨(B8.block M hM).trans Cf,Cc.below B8⟩,?_⟩;have gL:=Cm w4 B8;refine bG (i:=7) (d:=some 20) (by kernel_rfl) rfl rfl rfl rfl Tryz.func47 (by kernel_rfl) rfl (jy (ev2 (evz (sz4 z)))) gL ?_;rintro e w5 ⟨⟨bN,bT,rfl,CE,CD⟩,Cn⟩;have Cb:Below w2.heap.size w2 w5:=B8.trans (Cn.mono B8.size);refine⟨_,rfl,λ_=>⟨(Cb.block M hM).trans Cf,Cc.below Cb⟩,?_⟩;have gQ:=n7 bN bT w5;refine bG (i:=8) (d:=some 21) (by kernel_rfl) rfl rfl rfl rfl Tryz.func48 (by kernel_rfl) rfl (jy (evz (sz4 (sz2 (szq z))))) gQ ?_;rintro e w6 ⟨⟨v6,rfl,CK⟩,Cs⟩;have B7:Below w2.heap.size w2 w6:=Cb.trans (Cs.mono Cb.size);refine⟨_,rfl,λ_=>⟨(B7.block M hM).trans Cf,Cc.below B7⟩,?_⟩;have hA4':w6.ownsRow w2.heap.size 181 4 v4 5 (cE (bO bF.data.toList tx.data.toList)):=by
  have h1:=(CL.below (Cn.trans (Cs.mono Cn.size))).base Ch.size;exact h1
 obtain⟨a6,c6,CP,Cd⟩:=CK.slice5;subst CP;refine dN (i:=9) (d:=some 22) (cE (bO bN.data.toList bT.data.toList)) (by kernel_rfl) rfl rfl rfl rfl zO (by decide) (ev2 (evz (sz4 (sz2 z)))) hA4' (evz (sz8 z)) (sm _ _) Cd (fV _) (by decide) (by decide) (by decide) B7.size ?_;intro g7 c7 w7 Ce Ca Cu CV;have B6:Below w2.heap.size w2 w7:=B7.grown Ca B7.size (λb hb=>(hA4'.lt b hb).1);have Cv:=And.intro ((B6.block M hM).trans Cf) (Cc.below B6);refine⟨λ_=>Cv,?_⟩;clear hS;have hS:=Cv;refine bb (i:=10) (d:=some 6) (by kernel_rfl) rfl rfl rfl (aL rfl (ev8 (evz (szq z)))) (λ_=>hS) ?_;refine bb (i:=11) (d:=some 7) (by kernel_rfl) rfl rfl rfl (aL rfl (ev1 (evz (sz8 (szq z))))) (λ_=>hS) ?_;refine aD (by kernel_rfl) (hQ.out _ _ ?_) _;rw[hA.out];simp only[Act.put,List.setIfInBounds_toArray];dsimp only[List.set];clear hQ hP hA z hS Q a' e0 e8 Cv;have Cj:ed w7 w.heap.size (.slice (some ⟨g7,0,none⟩) (5+5) c7) (bO (B5.data.toList++[47]++Lib.itoa (m:Int)++[46]++fl.data.toList) tx.data.toList++bO (B5.data.toList++[47,108,105,115,116]) (Mb.textOf ep (nx+1) ((xs++[(⟨(m:Int),nx,fl.data.toList,fl.data.toList,tx.data.toList⟩:ap)]).map aQ))):=by
  rw[←CF,←CE,←CD];have e:cE (bO bF.data.toList tx.data.toList++bO bN.data.toList bT.data.toList)=cE (bO bF.data.toList tx.data.toList)++cE (bO bN.data.toList bT.data.toList):=by simp[cE]
  unfold ed;rw[e];exact fz Ce (by have:=Cp.size;omega)
 have CH:bI w7 B (.slice (some ⟨g,0,none⟩) (xs.length+1) cap) (xs++[(⟨(m:Int),nx,fl.data.toList,fl.data.toList,tx.data.toList⟩:ap)]):=au (λb hb=>B6.block b (CM.out.lt b hb).2) CM.out;have HP:=hid (And.intro Cj (And.intro (Cc.below B6) (And.intro CH (Cp.below B6))));clear Cj CH Ce Ca Cu hA4' Cd CK CL B6 B7 Cb B8 Ch CG Cn Cs gF gP gL gQ Cm Cc Co Cp Cl Cw Cf CF CE CD;go_wp2_with fail;go_ret2;exact⟨⟨_,rfl,HP.out.1⟩,g,cap,HP.out.2.1,HP.out.2.2.1,C1.out,HP.out.2.2.2⟩
end Go.Proofs.YtbeahecjbokjjaaGreatDoor
