import Derived.Test.YtlbcgmlhaeeoeaaGreatDoorQ47
import Derived.Test.YtlbcgmlhaeeoeaaGreatDoorQ42
set_option maxRecDepth 100000
set_option maxHeartbeats 16000000
namespace Go.Proofs.YtlbcgmlhaeeoeaaGreatDoor
open Go.RowKit Go.Lib
theorem rR{w:World}{B D fr fc F T r c G:Nat}{text:ByteArray}{vm ev v:Value}{nx my:Int}{ms:List al}(h:il w D fr fc)(hf:ik w fr F)(hk:cW w F aw text vm 1 nx ev false)(hM:nL B T r c G v my ms w)(B1:aF ms my)(B7:text.data.toList=Mb.textOf 1 my (ms.map az))(hE:Env w):
  Calls Tryz.prog 30 #[.pointer (some ⟨D,0,none⟩),.pointer (some ⟨T,0,none⟩)] w λe w'=>e=.returned (.slice none 0 0)/\Below w.heap.size w w':=by
 obtain⟨hT,hR,hG,hO,_⟩:=hM;obtain⟨c0,_,c2,_,c4,Ci⟩:=h.cells;obtain⟨t0,_,_,Cm⟩:=hT.cells;have g0:=hR.1;obtain⟨va,vc,Cc,_,B8,_⟩:=cx.form hO;subst Cc;have gL:=lC hG B8 (by have:=B1.len;omega) (by decide) hE B1.list (λm hm=>by have:=(B1.fl m hm).2;omega);have hI:∀w,(Instr.indexAt 137 (.slice (some ⟨r,0,none⟩) 1 c) (.int .i64 0)).run Tryz.prog w=.ok (.pointer (some ⟨r,0,none⟩)) w:=λw=>Op.gptr_index (by decide)
 have f1:=hk.cells.2.1;have Ch:=hk.cells.2.2.2.2.2.2.2.2;have Cj:=hf.1;have B5:=hf.2;clear h hf hk hT hR hG hO B8 hE B1;go_enter Tryz.func30,Tryz.ntmps30;go_wp2_with(go_at_call 46;refine(yh w).mono ?_;rintro e w' ⟨rfl,Cl⟩;subst w');go_loopw [5,32] (λl i wr=>l=.slice none 0 0/\((i=.int .i64 0/\wr=w)∨(i=.int .i64 1/\Hid (Below w.heap.size w wr)))) (λ_ i _=>1-(RowKit.intOf i).toNat)
 case atStart=>exact⟨rfl,Or.inl ⟨rfl,rfl⟩⟩
 case round=>
 obtain⟨rfl,hrel⟩:=hrel
 rcases hrel with⟨rfl,hw⟩|⟨rfl,Ce⟩
 ·subst wr;go_wp2_with fail;refine gL.mono ?_;rintro e w1 ⟨⟨bN,bT,rfl,Cf,B9⟩,B6⟩;have Cg:bT=text:=jn (by rw[B9,B7]);subst Cg;have Cd:=B6.size;have Cb:Below w.heap.size w (w1.alloc (.cells #[.string bN,.string bT] 46)):=B6.alloc Cd _;have Ca:(w1.alloc (.cells #[.string bN,.string bT] 46)).heap[w1.heap.size]?=some (.cells #[.string bN,.string bT] 46 (0,0)):=alA w1 _;have B3:=hid Cb;have Ck:=hid Ca;clear gL B6 Cb Ca B7 B9 Cf;go_wp2_with fail;generalize(w1.alloc (.cells #[.string bN,.string bT] 46))=w2 at*;have m1:w2.cell? ⟨w1.heap.size,1,none⟩=some (.string bT):=by simp[World.cell?,Ck.out]
  have d0:w2.cell? ⟨D,0,none⟩=some (.slice (some ⟨fr,0,none⟩) 1 fc):=(B3.out.cell (p:=⟨D,0,none⟩) Ci).trans c0;have q0:w2.cell? ⟨fr,0,none⟩=some (.pointer (some ⟨F,0,none⟩)):=(B3.out.cell (p:=⟨fr,0,none⟩) B5).trans Cj;have q1:w2.cell? ⟨F,1,none⟩=some (.string bT):=(B3.out.cell (p:=⟨F,1,none⟩) Ch).trans f1;have B4:∀w,(do eqGuard .neq 9 (.tmp 40) (.tmp 50) (.string bT) (.string bT);binOp .neq 9 (.string bT) (.string bT):Sem Value).run Tryz.prog w=.ok (.bool false) w:=λw=>by go_simp
  generalize w1.heap.size=M at*;refine bX [] (λw':World=>w'.cell? ⟨M,1,none⟩=some (.string bT)/\w'.cell? ⟨D,0,none⟩=some (.slice (some ⟨fr,0,none⟩) 1 fc)/\w'.cell? ⟨fr,0,none⟩=some (.pointer (some ⟨F,0,none⟩))/\w'.cell? ⟨F,1,none⟩=some (.string bT)) 13 rfl (by kernel_rfl) ⟨m1,d0,q0,q1⟩ (λa' Q hA hQ hP hS=>?_);have z:a'.tmps.size=58:=by rw[hA.out];rfl
  have e0:a'.eval (.tmp 0)=Value.pointer (some ⟨D,0,none⟩):=by rw[hA.out];rfl
  have e6:a'.eval (.tmp 6)=Value.int .i64 0:=by rw[hA.out];rfl
  have e8:a'.eval (.tmp 8)=Value.pointer (some ⟨M,0,none⟩):=by rw[hA.out];rfl
  refine aU 0 (some 39) rfl rfl hP (af rfl) (λwx=>je (p':=⟨M,1,none⟩) rfl e8 (λw=>by kernel_rfl)) hS ?_;refine ft 1 (some 40) rfl rfl hP (af rfl) (λwx hw=>aq rfl (evz z) (aH hw.1)) hS ?_;refine aU 2 (some 41) rfl rfl hP (af rfl) (λwx=>ah rfl (ev2 e0)) hS ?_;refine aU 3 (some 42) rfl rfl hP (af rfl) (λwx=>aS rfl (evz (sz2 z))) hS ?_;refine aU 4 (some 43) rfl rfl hP (af rfl) (λwx=>aj ⟨D,0,none⟩ rfl (evz (sz2 (szq z)))) hS ?_;refine ft 5 (some 44) rfl rfl hP (af rfl) (λwx hw=>aq rfl (evz (sz4 z)) (aH hw.2.1)) hS ?_;refine aU 6 (some 45) rfl rfl hP (af rfl) (λwx=>ah rfl (ev4 (ev2 e6))) hS ?_;refine aU 7 (some 46) rfl rfl hP (af rfl) (λwx=>bJ (v:=.pointer (some ⟨fr,0,none⟩)) rfl (ev1 (evz (sz4 (szq z)))) (evz (sz4 (sz2 z))) (lG (by decide))) hS ?_;refine ft 8 (some 47) rfl rfl hP (af rfl) (λwx hw=>aq rfl (evz (sz4 (sz2 (szq z)))) (aH hw.2.2.1)) hS ?_;refine aU 9 (some 48) rfl rfl hP (af rfl) (λwx=>aS rfl (evz (sz8 z))) hS ?_;refine aU 10 (some 49) rfl rfl hP (af rfl) (λwx=>aj ⟨F,1,none⟩ rfl (evz (sz8 (szq z)))) hS ?_;refine ft 11 (some 50) rfl rfl hP (af rfl) (λwx hw=>aq rfl (evz (sz8 (sz2 z))) (aH hw.2.2.2)) hS ?_;refine aU 12 (some 51) rfl rfl hP (af rfl) (λwx=>bA (v:=.bool false) rfl (ev8 (ev2 (evz (szq z)))) (evz (sz8 (sz2 (szq z)))) (B4 wx)) hS ?_;refine bW (by kernel_rfl) (hQ.out _ _ ?_) _;rw[hA.out];simp only[Act.put,List.setIfInBounds_toArray];dsimp only[List.set];clear hQ hP hA z hS Q a' e0 e6 e8;go_wp2_with fail;exact⟨⟨rfl,Or.inr ⟨rfl,B3.out.trans (Below.refl _ _).drew⟩⟩,by simp[RowKit.intOf]⟩
 ·go_wp2_with fail;go_ret;exact⟨rfl,Ce.out⟩
theorem Al(a:Option Addr)(cap:Nat)(xs:List aW)(w:World)(hm:nM w a xs)(Cp:1<=xs.length)(hl:xs.length<=12)(hd:∀x∈xs,x.name.length<=1000/\x.data.length<=1000):
  Calls Tryz.prog 28 #[.slice a xs.length cap] w λe w'=>(∃v ys,e=.returned v/\cl xs ys/\dn w' w.heap.size v ys)/\Below w.heap.size w w':=by
 have Hm:=hid hm;have Hd:=hid hd;clear hm hd;obtain⟨i0,hi,Cu,Ct,Cs⟩:=alQ iH;go_enter Tryz.func28,Tryz.ntmps28;go_wp2_with(at_make;refine wpList_make_own _ rfl _ _ 25 rfl w.heap.size 46 i0 _ 2 Tryz.underlying25 hi Cu Ct _ _ _ xs.length rfl rfl (by omega) (by rw[Cs];omega) (by unfold maxLen;omega) (alU) ?_);intro w1 B8 B5;have CE:Hid (Below w.heap.size w w1):=(Below.refl _ _).grown B5 (alU) (λk' Cx=>by cases Cx);have CC:Hid (dn w1 w.heap.size (.slice (some ⟨w.heap.size,0,none⟩) 0 xs.length) []):=B8;clear B8 B5;go_wp2_with fail;go_loopw [3,11] (λo i wr=>∃(k:Nat),k<=xs.length/\i=.int .i64 k/\Hid (dn wr w.heap.size o (xs.take k))/\Hid (Below w.heap.size w wr)) (λ_ i _=>xs.length-(RowKit.intOf i).toNat)
 case atStart=>exact⟨0,alT _,rfl,CC,CE⟩
 case round=>
  obtain⟨k,hk,rfl,hO,Cc⟩:=hrel;obtain⟨oa,oc,rfl,_,_,_⟩:=dn.form hO.out;have Cn:Hid ((xs.take k).length=k):=by unfold Hid;simp;omega
  rw[Cn.out]at hO⊢
  by_cases Cb:k<xs.length
  ·obtain⟨b,off,ha,hb,hc⟩:∃b off,a=some ⟨b,off,none⟩/\b<w.heap.size/\iV w b off xs:=by
    rcases Hm.out with hz|hz
    ·rw[hz]at Cb;simp at Cb
    ·exact hz
   subst ha;obtain⟨c0,c1⟩:=hc k xs[k] (by simp[Cb]);have d0:=(Cc.out.cell (p:=⟨b,off+k*2,none⟩) hb).trans c0;have d1:=(Cc.out.cell (p:=⟨b,off+k*2+1,none⟩) hb).trans c1;have hI:∀w,(Instr.indexAt 25 (.slice (some ⟨b,off,none⟩) xs.length cap) (.int .i64 (k:Int))).run Tryz.prog w=.ok (.pointer (some ⟨b,off+k*2,none⟩)) w:=λw=>dm Cb
   have hx:=Hd.out xs[k] (List.getElem_mem Cb);obtain⟨bn,CF,Cg⟩:=ai xs[k].name;obtain⟨bd,CG,Ch⟩:=ai xs[k].data;rw[←CF.out]at d0;rw[←CG.out]at d1;have Cz:bn.size<=281474976710656:=by rw[Lib.size_eq,Cg.out];omega
   have CA:bd.size<=281474976710656:=by rw[Lib.size_eq,Ch.out];omega
   have HT:Hid (xs.take (k+1)=xs.take k++[⟨bn.data.toList,bd.data.toList⟩]):=by
    unfold Hid;rw[alL Cb,Cg.out,Ch.out]
   have Cv:=Cc.out.size;have B9:wr.ownsRow w.heap.size 46 2 (.slice oa k oc) k (aM (xs.take k)):=by
    have:=hO.out;unfold dn at this;rwa [Cn.out]at this
   have HR:=hid B9;clear c0 c1 hc hx;go_wp2_with fail;have B4:=B9.alloc (.cells #[.string bn,.string bd] 46);have Cm:Below w.heap.size w (wr.alloc (.cells #[.string bn,.string bd] 46)):=Cc.out.alloc Cv _;have hv:(wr.alloc (.cells #[.string bn,.string bd] 46)).heap[wr.heap.size]?=some (.cells #[.string bn,.string bd] 46 (0,0)):=alA wr _;have Ca:wr.heap.size<(wr.alloc (.cells #[.string bn,.string bd] 46)).heap.size:=by simp
   have Cd:w.heap.size<=(wr.alloc (.cells #[.string bn,.string bd] 46)).heap.size:=Cm.size;generalize(wr.alloc (.cells #[.string bn,.string bd] 46))=w2 at*;have v0:w2.cell? ⟨wr.heap.size,0,none⟩=some (.string bn):=by simp[World.cell?,hv]
   have v1:w2.cell? ⟨wr.heap.size,1,none⟩=some (.string bd):=by simp[World.cell?,hv]
   refine aA 11 (λw':World=>w'.cell? ⟨wr.heap.size,0,none⟩=some (.string bn)/\w'.cell? ⟨wr.heap.size,1,none⟩=some (.string bd)) 11 rfl (by kernel_rfl) ⟨v0,v1⟩ (λa' Q hA hQ hP hS=>?_);have z:a'.tmps.size=29:=by rw[hA.out];rfl
   have e3:a'.eval (.tmp 3)=Value.slice oa k oc:=by rw[hA.out];rfl
   have e5:a'.eval (.tmp 5)=Value.pointer (some ⟨wr.heap.size,0,none⟩):=by rw[hA.out];rfl
   refine tkA 0 (some 15) rfl rfl hP (λwx hw=>ah rfl e3) hS ?_;refine tkA 1 (some 16) rfl rfl hP (λwx hw=>aj ⟨wr.heap.size,0,none⟩ rfl (ev1 e5)) hS ?_;refine tkA 2 (some 17) rfl rfl hP (λwx hw=>aq rfl (evz (szq z)) (aH hw.1)) hS ?_;refine tkA 4 (some 19) rfl rfl hP (λwx hw=>aj ⟨wr.heap.size,1,none⟩ rfl (ev2 (ev1 e5))) hS ?_;refine tkA 5 (some 20) rfl rfl hP (λwx hw=>aq rfl (evz (sz2 (szq z))) (aH hw.2)) hS ?_;refine cE (i:=3) (d:=some 18) (by kernel_rfl) rfl rfl rfl rfl Tryz.func41 (by kernel_rfl) rfl (mF (ev2 (evz (sz2 z)))) (kN bn _ Cz) ?_;rintro e w3 ⟨rfl,Ce⟩;refine⟨_,rfl,λ_=>⟨(Ce.cell (p:=⟨wr.heap.size,0,none⟩) Ca).trans v0,(Ce.cell (p:=⟨wr.heap.size,1,none⟩) Ca).trans v1⟩,?_⟩;refine cE (i:=6) (d:=some 21) (by kernel_rfl) rfl rfl rfl rfl Tryz.func41 (by kernel_rfl) rfl (mF (ev1 (evz (sz4 z)))) (kN bd _ CA) ?_;rintro e w4 ⟨rfl,Cr⟩;have B1:Below w2.heap.size w2 w4:=(((Below.refl _ _).drew).trans Ce).trans (Cr.mono Ce.size);have Cf:w4.cell? ⟨wr.heap.size,0,none⟩=some (.string bn)/\w4.cell? ⟨wr.heap.size,1,none⟩=some (.string bd):=⟨(B1.cell (p:=⟨wr.heap.size,0,none⟩) Ca).trans v0,(B1.cell (p:=⟨wr.heap.size,1,none⟩) Ca).trans v1⟩;refine⟨_,rfl,λ_=>Cf,?_⟩;clear hS;have hS:=Cf;refine bz (i:=7) (d:=some 22) (by kernel_rfl) rfl rfl rfl (d8 (v:=.agg #[.string bn,.string bd]) rfl (ev1 (evz (sz4 (szq z)))) (evz (sz4 (sz2 z))) nt) (λ_=>hS) ?_;have B7:w4.ownsRow w.heap.size 46 2 (.slice oa k oc) k (aM (xs.take k)):=ay (λb' Cj=>B1.block b' (by have:=(B4.lt b' Cj).2;exact this)) B4;have Ci:(w4.alloc (.cells #[.string bn,.string bd] 46)).cell? ⟨wr.heap.size,0,none⟩=some (.string bn)/\(w4.alloc (.cells #[.string bn,.string bd] 46)).cell? ⟨wr.heap.size,1,none⟩=some (.string bd):=⟨(aC ⟨wr.heap.size,0,none⟩ (alB w4 _ (alH Ca B1.size))).trans Cf.1,(aC ⟨wr.heap.size,1,none⟩ (alB w4 _ (alH Ca B1.size))).trans Cf.2⟩;refine dl (i:=8) (d:=some 23) (v:=.slice (some ⟨w4.heap.size,0,none⟩) 1 1) (w':=w4.alloc (.cells #[.string bn,.string bd] 46)) (by kernel_rfl) rfl rfl rfl rfl (evz (sz4 (sz2 (szq z)))) pH (λ_=>Ci) ?_;refine cZ (i:=9) (d:=some 24) [.string bn,.string bd] (by kernel_rfl) rfl rfl rfl rfl rz (by decide) (ev8 (evz z)) (B7.alloc _) (evz (sz8 z)) rfl (alF (cs:=#[.string bn,.string bd]) (t:=46) (fr:=(0,0)) (alA w4 _)) (by simp[Value.oneCell']) (by decide) (by unfold maxLen;omega) (by omega) (by have:=B1.size;simp;omega) ?_;intro g gc w5 B6 B3 Ck Cw;have Co:some wr.heap.size≠(Value.slice oa k oc).ownBlock:=λe=>by have:=(B9.lt _ e.symm).2;omega
   have Cl:w5.cell? ⟨wr.heap.size,0,none⟩=some (.string bn)/\w5.cell? ⟨wr.heap.size,1,none⟩=some (.string bd):=⟨(B3.cell_far ⟨wr.heap.size,0,none⟩ (by have:=B1.size;simp;omega) Co).trans Ci.1,(B3.cell_far ⟨wr.heap.size,1,none⟩ (by have:=B1.size;simp;omega) Co).trans Ci.2⟩;refine⟨λ_=>Cl,?_⟩;clear hS;have hS:=Cl;refine bz (i:=10) (d:=some 3) (by kernel_rfl) rfl rfl rfl (aR rfl (evz (sz8 (szq z)))) (λ_=>hS) ?_;refine aB (by kernel_rfl) (hQ.out _ _ ?_) _;rw[hA.out];simp only[Act.put,List.setIfInBounds_toArray];dsimp only[List.set];clear hQ hP hA z hS Q a' e3 e5 Cf Ci Cl;have CD:Hid (Below w.heap.size w w5):=(((Cm.trans (B1.mono Cd)).alloc (alS Cd B1.size) _).grown B3 (by have:=B1.size;simp;omega) (λb' Cj=>(HR.out.lt b' Cj).1));have CB:Hid (dn w5 w.heap.size (.slice (some ⟨g,0,none⟩) (k+1) gc) (xs.take (k+1))):=by
    unfold Hid;rw[HT.out];unfold dn;rw[mB,List.length_append,Cn.out];exact B6
   clear B6 B3 Ck B7 B4 B1 Ce Cr Cm;go_wp2_with fail;exact⟨⟨k+1,by omega,by simp,CB,CD⟩,by simp[RowKit.intOf];omega⟩
  ·have Cq:xs.take k=xs:=alO (by omega);have h1:=hO.out;rw[Cq]at h1;obtain⟨g,cp,hv,Cy,_,_,_⟩:=dn.some h1 (by intro e;rw[e]at Cp;simp at Cp);injection hv with e1 e2 e3
   subst e1;have gS:=rN (n:=k) (by rw[show k=xs.length by omega]at h1⊢;exact h1) (show xs.length=k by omega) (by omega) (by omega);clear h1 e2 e3 Cq;go_wp2_with(go_at_call 42;refine gS.mono ?_;rintro e w3 ⟨rfl,hh⟩;have HH:=hid hh;clear hh gS);go_ret;obtain⟨ys,h1,h2,h3⟩:=HH.out;exact⟨⟨_,ys,rfl,h1,h2⟩,Cc.out.trans (h3.base Cy (λb hb=>by cases hb) Cc.out.size)⟩
theorem nL.below{B T r c G:Nat}{v:Value}{nx:Int}{ys:List al}{w w':World}(h:nL B T r c G v nx ys w)(hb:Below w.heap.size w w'):nL B T r c G v nx ys w':=by
 obtain⟨h1,h2,h3,h4,h5⟩:=h;exact⟨(hb.block T h1.cells.2.2.2).trans h1,⟨(hb.cell (p:=⟨r,0,none⟩) h2.2).trans h2.1,alH h2.2 hb.size⟩,h3.below hb,bQ h4 hb,h5⟩
theorem nL.base{B B' T r c G:Nat}{v:Value}{nx:Int}{ys:List al}{w:World}(h:nL B' T r c G v nx ys w)(hB:B<=B'):nL B T r c G v nx ys w:=by
 obtain⟨h1,h2,h3,h4,h5,h6,h7⟩:=h;exact⟨h1,h2,h3,cR h4 hB,⟨by omega,by omega,by omega⟩,h6,h7⟩
end Go.Proofs.YtlbcgmlhaeeoeaaGreatDoor
namespace Go.Proofs.YtlbcgmlhaeeoeaaGreatDoor
open Go.RowKit Go.Lib Go.MuLone
structure qQ (B K:Nat) (s:Sv2) (q:Int) (tx:Bool) (z:Int) (ad:Array Value) (ms:List al) (nx:Int) (W:World):Prop where
 srv:kw W K s.kt q (.pointer (some ⟨s.P,0,none⟩)) 0
 rs:fL B s tx z ad ms nx W
 base:B<=K
 ne:¬s.foot K
structure BF (K:Nat) (s s':Sv2) (W W':World):Prop where
 os:W'.os=W.os
 tape:W'.tape=W.tape
 output:W'.output=W.output
 size:W.heap.size<=W'.heap.size
 block:∀b,b<W.heap.size->b≠K->¬s.foot b->W'.heap[b]?=W.heap[b]?
 foot:∀b,s'.foot b->s.foot b∨W.heap.size<=b
section
variable {B K:Nat} {s:Sv2} {q:Int} {tx:Bool} {z:Int} {ad:Array Value} {ms:List al} {nx:Int} {W:World}
theorem qQ.kept{W':World}(h:qQ B K s q tx z ad ms nx W)(hK:W'.heap[K]?=W.heap[K]?)(hb:∀b,s.foot b->W'.heap[b]?=W.heap[b]?)(B1:∀b,b<B->W'.heap[b]?=W.heap[b]?)(hs:W.heap.size<=W'.heap.size):qQ B K s q tx z ad ms nx W':=⟨hK.trans h.srv,h.rs.kept hb B1 hs,h.base,h.ne⟩
theorem fL.setFar{o:Nat}{u:Value}(h:fL B s tx z ad ms nx W)(hK:¬s.foot K)(hB:B<=K):fL B s tx z ad ms nx (W.setCell ⟨K,o,none⟩ u):=
 h.kept (λb hb=>alP _ _ _ _ (λe=>hK ((show b=K from e)▸hb))) (λb hb=>alP _ _ _ _ (λe=>by simp only at e;omega)) (by simp)
theorem BL{tx':Bool}{z':Int}{ad':Array Value}{an:List UInt8}{ac:List bL}{ms':List al}{nx':Int}(h:qQ B K s q tx z ad ms nx W)(B5:ByteArray)(hF:∀W1,fL B s tx z ad ms nx W1->Fed B s W1 B5 tx' z' ad' an ac ms' nx'):
  Calls Tryz.prog 23 #[.pointer (some ⟨K,0,none⟩),.int .i64 0,.string B5] W λe w'=>∃va s',e=.returned (.tuple #[.string ⟨an.toArray⟩,va,.int .i64 0])/\ed w' W.heap.size va ac/\qQ B K s' q tx' z' ad' ms' nx' w'/\BF K s s' W w'/\∀b,va.ownBlock=some b->b≠K/\¬s'.foot b:=by
 obtain⟨c0,_,cf,Cb⟩:=h.srv.cells;have Cc:=cf 0;have B8:fL B s tx z ad ms nx (W.setCell ⟨K,0,none⟩ (.int .i32 1)):=h.rs.setFar h.ne h.base;have gF:=hF _ B8;unfold Fed at gF;have B3:=h.srv.set 1;have k3:(W.setCell ⟨K,0,none⟩ (.int .i32 1)).cell? ⟨K,3,none⟩=some (.pointer (some ⟨s.P,0,none⟩)):=by
  unfold kw at B3;simp[World.cell?,B3]
 have Hh:=hid h;have Cd:=hid B3;clear h hF B8 B3 cf;generalize(⟨an.toArray⟩:ByteArray)=ab at*;go_enter_defers Tryz.func23,Tryz.ntmps23;go_wp2_with(first|(go_at_call 31;refine(lock_free AY ⟨K,0,none⟩ _ c0 Cc).mono ?_;rintro e w' ⟨rfl,rfl⟩)|(go_at_call 33;refine gF.mono ?_;rintro e w2 ⟨va,s',rfl,hA,hR,B9,hN⟩;have HA:=hid hA;have HR:=hid hR;have B1:=hid B9;have HN:=hid hN;clear hA hR B9 hN gF));have B6:(W.setCell ⟨K,0,none⟩ (.int .i32 1)).heap.size=W.heap.size:=by simp
 have B7:kw w2 K s.kt q (.pointer (some ⟨s.P,0,none⟩)) 1:=(B1.out.block K (by rw[B6];exact Cb) Hh.out.ne).trans Cd.out;refine leaves_cons (f:=32) (args:=#[.pointer (some ⟨K,0,none⟩)]) (by simp) (by simp[go_sem]) ?_;refine(unlock_deferred AY ⟨K,0,none⟩ .returning _ B7.cells.1 (B7.cells.2.2.1 0)).mono ?_;rintro e u' Ce ⟨rfl,rfl,rfl⟩;have B4:∀b,b≠K->(w2.setCell ⟨K,0,none⟩ (.int .i32 0)).heap[b]?=w2.heap[b]?:=λb hb=>alP _ _ _ _ hb
 have Ca:W.heap.size<=w2.heap.size:=by have:=B1.out.size;rw[B6]at this;exact this
 have hKs':¬s'.foot K:=λhf=>by
  rcases B1.out.foot K hf with h1|h1
  ·exact Hh.out.ne h1
  ·rw[B6]at h1;omega
 refine⟨_,results_tmp3 rfl _ _ _,va,s',rfl,?_,⟨?_,HR.out.setFar hKs' Hh.out.base,Hh.out.base,hKs'⟩,⟨?_,?_,?_,by simpa using Ca,λb h1 h2 h3=>?_,λb hf=>?_⟩,λb hb=>⟨λe=>?_,HN.out b hb⟩⟩
 ·have h1:=HA.out;rw[B6]at h1;exact ay (λb hb=>B4 b (λe=>by have:=(h1.lt b hb).1;omega)) h1
 ·rw[B1.out.kt,B1.out.P];exact B7.set 0
 ·exact((Below.refl 0 w2).setCell (p:=⟨K,0,none⟩) (alT _) (.int .i32 0)).os.trans (B1.out.os.trans ((Below.refl 0 W).setCell (p:=⟨K,0,none⟩) (alT _) (.int .i32 1)).os)
 ·exact((Below.refl 0 w2).setCell (p:=⟨K,0,none⟩) (alT _) (.int .i32 0)).tape.trans (B1.out.tape.trans ((Below.refl 0 W).setCell (p:=⟨K,0,none⟩) (alT _) (.int .i32 1)).tape)
 ·exact((Below.refl 0 w2).setCell (p:=⟨K,0,none⟩) (alT _) (.int .i32 0)).output.trans (B1.out.output.trans ((Below.refl 0 W).setCell (p:=⟨K,0,none⟩) (alT _) (.int .i32 1)).output)
 ·exact(B4 b h2).trans ((B1.out.block b (by rw[B6];exact h1) h3).trans (alP _ _ _ _ h2))
 ·rcases B1.out.foot b hf with h1|h1
  ·exact Or.inl h1
  ·rw[B6]at h1;exact Or.inr h1
 ·have h1:=(HA.out.lt b hb).1;rw[B6]at h1;omega
end
end Go.Proofs.YtlbcgmlhaeeoeaaGreatDoor
