import Derived.Test.YtlbcgmlhaeeoeaaGreatDoorQ29
set_option maxRecDepth 100000
set_option maxHeartbeats 16000000
namespace Go.Proofs.YtlbcgmlhaeeoeaaGreatDoor
open Go.RowKit Go.Lib
theorem yT(uid:Int)(f:List UInt8)(ms:List al):(cu uid f ms).length=ms.length:=by simp[cu]
theorem uQ(uid:Int)(f:List UInt8)(ms:List al)(hf:f.length<=1000)(h:∀m∈ms,m.flags.length<=1000):∀m∈cu uid f ms,m.flags.length<=1000:=λm hm=>by
 unfold cu at hm;obtain⟨x,hx,rfl⟩:=List.mem_map.1 hm
 split
 ·exact hf
 ·exact h x hx
theorem oS{w:World}{K B:Nat}{nx:Int}{v:Value}{ms:List al}(hF:bw w K aw aw 1 nx v)(ho:cx w B v ms)(hl:ms.length<=100)(hE:Env w)(B1:Mb.listOk 1 nx (ms.map az)=true)(B3:∀m∈ms,m.flags.length<=1000):
  Calls Tryz.prog 49 #[.pointer (some ⟨K,0,none⟩)] w λe w'=>(∃bT:ByteArray,e=.returned (.agg #[.string ⟨#[105,110,47,108,105,115,116]⟩,.string bT])/\bT.data.toList=Mb.textOf 1 nx (ms.map az))/\Below w.heap.size w w':=by
 obtain⟨a,cap,rfl,_,hM,_⟩:=cx.form ho;refine(lC hF hM (by omega) (by decide) hE B1 B3).mono ?_;rintro e w' ⟨⟨bN,bT,rfl,h1,h2⟩,hb⟩;refine⟨⟨bT,?_,h2⟩,hb⟩;have:bN=⟨#[105,110,47,108,105,115,116]⟩:=dZ h1;rw[this]
theorem AC{w:World}{Y:Nat}{x y:ByteArray}(h0:w.cell? ⟨Y,0,none⟩=some (.string x))(h1:w.cell? ⟨Y,1,none⟩=some (.string y)):(Instr.loadAt 46 (.pointer (some ⟨Y,0,none⟩))).run Tryz.prog w=.ok (.agg #[.string x,.string y]) w:=by
 go_simp
theorem AB{x y y':ByteArray}(h:y≠y')(w:World):(do eqGuard .eql 46 (.tmp 24) (.tmp 25) (.agg #[.string x,.string y]) (.agg #[.string x,.string y']);binOp .eql 46 (.agg #[.string x,.string y]) (.agg #[.string x,.string y']):Sem Value).run Tryz.prog w=.ok (.bool false) w:=by
 go_simp;rw[ByteArray.toList_eq,ByteArray.toList_eq];exact λe=>h (ByteArray.ext (Array.toList_inj.1 e))
theorem qr{w:World}{K B:Nat}{nx:Int}{v:Value}{ms:List al}(hF:bw w K aw aw 1 nx v)(ho:cx w B v ms)(Cw:v.ownBlock≠some K)(_hB:B<=w.heap.size)(CU:B<=K)(hE:jW B w)(hl:ms.length<=100)
  (mb mo mc:Nat) (m:al) (hM:dU w (some ⟨mb,mo,none⟩) [m]) (Cv:Mb.listOk 1 nx (ms.map az)=true) (B7:Mb.listOk 1 nx ((cu m.uid m.flags ms).map az)=true) (Cj:∀m∈ms,m.flags.length<=1000) (Cz:m.flags.length<=1000) (CB:Mb.textOf 1 nx ((cu m.uid m.flags ms).map az)≠Mb.textOf 1 nx (ms.map az)):
  Calls Tryz.prog 244 #[.pointer (some ⟨K,0,none⟩),.slice (some ⟨mb,mo,none⟩) 1 mc] w λe w'=>(∃va,e=.returned va/\ed w' w.heap.size va (aK [105,110,47,108,105,115,116] (Mb.textOf 1 nx ((cu m.uid m.flags ms).map az))))/\bw w' K aw aw 1 nx v/\cx w' B v (cu m.uid m.flags ms)/\aO K v v w w':=by
 have Da:=hF.cells.2.2.2.2.2.2;have gL:=oS hF ho hl (hE w λ_ _=>rfl) Cv Cj;obtain⟨b',o',Ck,CR,Cy⟩:∃b off,some (⟨mb,mo,none⟩:Addr)=some ⟨b,off,none⟩/\b<w.heap.size/\ii w b off [m]:=by
  rcases hM with h|h
  ·cases h
  ·exact h
 injection Ck with Ck
 injection Ck with h1 h2
 subst h1 h2;obtain⟨c0,c1,c2,c3,c4⟩:=Cy 0 m rfl;simp only[Nat.zero_mul,Nat.add_zero]at c0 c1 c2 c3 c4;have hI:∀w,(Instr.indexAt 122 (.slice (some ⟨mb,mo,none⟩) 1 mc) (.int .i64 0)).run Tryz.prog w=.ok (.pointer (some ⟨mb,mo,none⟩)) w:=λw=>by
  have:=cS (g:=mb) (off:=mo) (n:=1) (cap:=mc) (k:=0) (w:=w) (by omega);simpa using this
 have HF:=hid hF;have HO:=hid ho;have HN:=hid Cw;have HE:=hid hE;have CL:=hid B7;have C2:=hid Cj;have C0:=hid Cz;have C5:=hid CB;clear hF ho Cw hE Cv B7 Cj Cz CB hM Cy;go_enter Tryz.func244,Tryz.ntmps244;go_wp2_with fail;refine gL.mono ?_;rintro e w1 ⟨⟨bT,rfl,CT⟩,Ch⟩;have CC:Below w1.heap.size w1 (w1.alloc (.cells #[.string ⟨#[105,110,47,108,105,115,116]⟩,.string bT] 46)):=ax;have hY:(w1.alloc (.cells #[.string ⟨#[105,110,47,108,105,115,116]⟩,.string bT] 46)).heap[w1.heap.size]?=some (.cells #[.string ⟨#[105,110,47,108,105,115,116]⟩,.string bT] 46 (0,0)):=alA w1 _;have Cl:Below w.heap.size w (w1.alloc (.cells #[.string ⟨#[105,110,47,108,105,115,116]⟩,.string bT] 46)):=Ch.trans (CC.mono Ch.size);have C9:w.heap.size<=w1.heap.size:=Ch.size;have B1:=Cl.block mb CR;have d0:=(aC ⟨mb,mo,none⟩ B1).trans c0;have d1:=(aC ⟨mb,mo+1,none⟩ B1).trans c1;have d2:=(aC ⟨mb,mo+2,none⟩ B1).trans c2;have d3:=(aC ⟨mb,mo+3,none⟩ B1).trans c3;have d4:=(aC ⟨mb,mo+4,none⟩ B1).trans c4;have HY:=hid hY;have CP:=hid Cl;have CF:w1.heap.size<(w1.alloc (.cells #[.string ⟨#[105,110,47,108,105,115,116]⟩,.string bT] 46)).heap.size:=by simp
 clear gL c0 c1 c2 c3 c4 Ch B1 CC hY Cl;go_wp2_with fail;generalize(w1.alloc (.cells #[.string ⟨#[105,110,47,108,105,115,116]⟩,.string bT] 46))=w2 at*;generalize w1.heap.size=Y at*;have Ct:Hid ((⟨m.flags.toArray⟩:ByteArray).data.toList=m.flags):=by unfold Hid;simp
 generalize(⟨m.flags.toArray⟩:ByteArray)=b2 at*;generalize(⟨m.came.toArray⟩:ByteArray)=b3 at*;generalize(⟨m.text.toArray⟩:ByteArray)=b4 at*;generalize CS:m.key=mk at*;generalize Cx:m.uid=mu at*;generalize B9:m.flags=mf at*;have CZ:=hid Cx;have HMF':=hid B9;clear CS Cx B9;have Ce:Below w2.heap.size w2 (w2.alloc (.cells #[.int .i64 mk,.int .i64 mu,.string b2,.string b3,.string b4] 175)):=ax;have Cg:Below w.heap.size w (w2.alloc (.cells #[.int .i64 mk,.int .i64 mu,.string b2,.string b3,.string b4] 175)):=CP.out.trans (Ce.mono CP.out.size);have CG:cx (w2.alloc (.cells #[.int .i64 mk,.int .i64 mu,.string b2,.string b3,.string b4] 175)) B v ms:=ay (λb hb=>Cg.block b (HO.out.lt b hb).2) HO.out;have gS:=qI (HF.out.below Cg) CG HN.out (by omega) mu b2;rw[Ct.out]at gS;have Cc:=hid Cg;have CY:=hid ((Ce.block Y CF).trans HY.out);have Cm:Y<(w2.alloc (.cells #[.int .i64 mk,.int .i64 mu,.string b2,.string b3,.string b4] 175)).heap.size:=alH CF Ce.size;clear Cg CG Ce HY;refine wp_loop_rounds 2 ?_;rw[rounds_succ];go_wp2_with fail;generalize(w2.alloc (.cells #[.int .i64 mk,.int .i64 mu,.string b2,.string b3,.string b4] 175))=w3 at*;refine gS.mono ?_;rintro e w4 ⟨rfl,Cp,Co,Cd⟩;clear gS d0 d1 d2 d3 d4 hI;have Ci:=(Cd.but.block Y Cm (by omega) (λe=>by have:=HO.out.lt Y e;omega)).trans CY.out;have CH:∀b,b<B->w4.heap[b]?=w.heap[b]?:=λb hb=>(Cd.low CU (by have:=Cc.out.size;omega) (λx hx=>(HO.out.lt x hx).1) b hb).trans (Cc.out.block b (by omega))
 have Cq:=HE.out.step CH;have CA:(cu mu mf ms).length<=100:=by rw[yT];exact hl
 have B4:=uQ mu mf ms C0.out C2.out;have CK:=oS (w:=w4.drew) Cp Co CA (Cq _ λ_ _=>rfl) CL.out B4;have y0:w4.cell? ⟨Y,0,none⟩=some (.string ⟨#[105,110,47,108,105,115,116]⟩):=ae (o:=0) Ci rfl;have y1:w4.cell? ⟨Y,1,none⟩=some (.string bT):=ae (o:=1) Ci rfl;have CO:=hid Cp;have CN:=hid Co;have Cs:=hid Cd;have C4:=hid Cq;have Cb:Y<w4.heap.size:=(alJ.1 Ci).1;clear Cp Co Cd Cq Ci CH;go_wp2_with fail;rw[rounds_succ];go_wp2_with fail;refine aA 4 (λw':World=>w'.cell? ⟨Y,0,none⟩=some (.string ⟨#[105,110,47,108,105,115,116]⟩)/\w'.cell? ⟨Y,1,none⟩=some (.string bT)) 4 rfl (by kernel_rfl) ⟨y0,y1⟩ (λa' Q hA hQ hP hS=>?_);have z:a'.tmps.size=30:=by rw[hA.out];rfl
 have e0:a'.eval (.tmp 0)=Value.pointer (some ⟨K,0,none⟩):=by rw[hA.out];rfl
 have e5:a'.eval (.tmp 5)=Value.pointer (some ⟨Y,0,none⟩):=by rw[hA.out];rfl
 refine tkA 0 (some 23) rfl rfl hP (λwx hw=>ah rfl e0) hS ?_;refine tkA 2 (some 25) rfl rfl hP (λwx hw=>aq rfl (ev1 e5) (AC hw.1 hw.2)) hS ?_;refine cE (i:=1) (d:=some 24) (by kernel_rfl) rfl rfl rfl rfl Tryz.func49 (by kernel_rfl) rfl (mF (ev1 (evz z))) CK ?_;rintro e w5 ⟨⟨CX,rfl,B5⟩,Cf⟩;have B8:CX≠bT:=λe=>C5.out (by rw[←B5,←CT,e])
 have hS:w5.cell? ⟨Y,0,none⟩=some (.string ⟨#[105,110,47,108,105,115,116]⟩)/\w5.cell? ⟨Y,1,none⟩=some (.string bT):=⟨(Cf.cell (p:=⟨Y,0,none⟩) Cb).trans y0,(Cf.cell (p:=⟨Y,1,none⟩) Cb).trans y1⟩;refine⟨_,rfl,λ_=>hS,?_⟩;refine bz (i:=3) (d:=some 26) (by kernel_rfl) rfl rfl rfl (bA (v:=.bool false) rfl (evz (sz2 z)) (ev1 (evz (szq z))) (AB B8 _)) (λ_=>hS) ?_;refine aB (by kernel_rfl) (hQ.out _ _ ?_) _;rw[hA.out];simp only[Act.put,List.setIfInBounds_toArray];dsimp only[List.set];clear hQ hP hA z hS Q a' e0 e5;have B3:Below w4.heap.size w4 w5:=(Below.refl _ w4).drew.trans Cf;have B6:=hid B3;have Cn:cx w5 B v (cu mu mf ms):=ay (λb hb=>B3.block b (CN.out.lt b hb).2) CN.out;have CJ:=oS (w:=w5) (CO.out.below B3) Cn CA (C4.out _ λb hb=>B3.block b (by have:=Cs.out.but.size;have:=Cc.out.size;omega)) CL.out B4;have C3:=hid (CO.out.below B3);have CM:=hid Cn;have C6:=hid B5;have C1:=hid B4;clear Cf B3 Cn CK B5 B8 B4 y0 y1;go_wp2_with fail;refine CJ.mono ?_;rintro e w6 ⟨⟨CW,rfl,Ca⟩,CE⟩;have gP:=oQ ⟨#[105,110,47,108,105,115,116]⟩ CW w6;rw[Ca]at gP;have Cu:=hid CE;clear CE Ca CJ;go_wp2_with fail;refine gP.mono ?_;rintro e w7 ⟨⟨va,rfl,CI⟩,CD⟩;have C8:=hid CI;have C7:=hid CD;clear CI CD gP;go_wp2_with fail;go_ret;have Cr:Below w5.heap.size w5 w7:=Cu.out.trans (C7.out.mono Cu.out.size);have CV:Below w4.heap.size w4 w7:=B6.out.trans (Cr.mono B6.out.size);have CQ:aO K v v w w7:=(aO.below Cc.out).trans (Cs.out.trans (aO.below CV));rw[CZ.out,HMF'.out];refine⟨⟨va,rfl,C8.out.base ?_⟩,C3.out.below Cr,ay (λb hb=>Cr.block b (CM.out.lt b hb).2) CM.out,CQ⟩;have:=Cc.out.size;have:=Cs.out.but.size;have:=B6.out.size;have:=Cu.out.size;omega
theorem kd:∀(xs:List al) (i:Nat) (x m:al),xs[i]?=some x->((((((aJ xs).set (i*5) (.int .i64 m.key)).set (i*5+1) (.int .i64 m.uid)).set (i*5+2) (.string ⟨m.flags.toArray⟩)).set (i*5+3) (.string ⟨m.came.toArray⟩)).set (i*5+4) (.string ⟨m.text.toArray⟩))=aJ (xs.set i m)
 |[],i,x,m,h=>by simp at h
 |y::r,0,x,m,_=>by simp[aJ]
 |y::r,i+1,x,m,h=>by
  have ih:=kd r i x m (by simpa using h);have e:aJ (y::r)=[.int .i64 y.key,.int .i64 y.uid,.string ⟨y.flags.toArray⟩,.string ⟨y.came.toArray⟩,.string ⟨y.text.toArray⟩]++aJ r:=by simp[aJ]
  have e2:aJ ((y::r).set (i+1) m)=[.int .i64 y.key,.int .i64 y.uid,.string ⟨y.flags.toArray⟩,.string ⟨y.came.toArray⟩,.string ⟨y.text.toArray⟩]++aJ (r.set i m):=by simp[aJ]
  rw[e,e2,←ih];have h5:(i+1)*5=i*5+5:=by omega
  rw[h5];rw[List.set_append_right _ _ (by simp),List.set_append_right _ _ (by simp),List.set_append_right _ _ (by simp),List.set_append_right _ _ (by simp),List.set_append_right _ _ (by simp)];have s0:i*5+5-5=i*5:=by omega
  have s1:i*5+5+1-5=i*5+1:=by omega
  have s2:i*5+5+2-5=i*5+2:=by omega
  have s3:i*5+5+3-5=i*5+3:=by omega
  have s4:i*5+5+4-5=i*5+4:=by omega
  simp only[List.length_cons,List.length_nil,Nat.zero_add,Nat.reduceAdd,s0,s1,s2,s3,s4]
theorem xp{w:World}{B g n m cap size:Nat}{t:TypeId}{xs:List Value}(h:w.ownsRow B t size (.slice (some ⟨g,0,none⟩) n cap) n xs)(hm:m<=n):w.ownsRow B t size (.slice (some ⟨g,0,none⟩) m cap) m (xs.take (m*size)):=by
 have hl:=h.1;have B3:m*size<=n*size:=Nat.mul_le_mul_right _ hm
 rcases h.2 with⟨h1,h2⟩|⟨g',c,B1,h1,h2,h3,h4,h5,h6,h7⟩
 ·cases h1
 ·injection h1 with e1 e2 e3
  injection e1 with e1
  injection e1 with e1
  subst e1 e3;refine⟨by rw[List.length_take,hl];omega,Or.inr ⟨g,cap,B1,rfl,h2,h3,by omega,h5,h6,?_⟩⟩;rw[←h7,List.take_take];congr 1;omega
theorem sd(g off n cap:Nat)(x:al)(w:World)(hn:0<n)(hm:dU w (some ⟨g,off,none⟩) [x])(kk:Nat)(uid:Int)(hk:w.cell? ⟨kk,0,none⟩=some (.int .i64 uid))(B6:kk<w.heap.size)(hx:x.uid=uid):
  Calls Tryz.prog 115 #[.slice (some ⟨g,off,none⟩) n cap,.func (.func 300) #[] #[.pointer (some ⟨kk,0,none⟩)]] w λe w'=>e=.returned (.int .i64 0)/\Below w.heap.size w w':=by
 obtain⟨b',o',B3,B7,B4⟩:∃b B1,some (⟨g,off,none⟩:Addr)=some ⟨b,B1,none⟩/\b<w.heap.size/\ii w b B1 [x]:=by
  rcases hm with h|h
  ·cases h
  ·exact h
 injection B3 with B3
 injection B3 with h1 h2
 subst h1 h2;obtain⟨d0,d1,d2,d3,d4⟩:=B4 0 x rfl;simp only[Nat.zero_mul,Nat.add_zero]at d0 d1 d2 d3 d4;have hI:∀w,(Instr.indexAt 122 (.slice (some ⟨g,off,none⟩) n cap) (.int .i64 0)).run Tryz.prog w=.ok (.pointer (some ⟨g,off,none⟩)) w:=λw=>by
  have:=cS (g:=g) (off:=off) (n:=n) (cap:=cap) (k:=0) (w:=w) hn;simpa using this
 have gR:=o8 kk uid x.key x.uid ⟨x.flags.toArray⟩ ⟨x.came.toArray⟩ ⟨x.text.toArray⟩ w hk B6;rw[decide_eq_true hx]at gR;clear hm B4 hk;subst hx;go_enter Tryz.func115,Tryz.ntmps115;go_wp2_with fail;refine wp_loop_rounds 1 ?_;rw[rounds_succ];go_wp2_with fail;refine gR.mono ?_;rintro e w1 ⟨rfl,B5⟩;have HB:=hid B5;clear gR B5 d0 d1 d2 d3 d4;go_wp2_with fail;go_ret;exact⟨rfl,HB.out⟩
theorem yx{w:World}{g o c:Nat}{u0 u1 u2 u3 u4:Value}{ty:TypeId}(z0:w.cell? ⟨g,o,none⟩=some u0)(z1:w.cell? ⟨g,o+1,none⟩=some u1)(z2:w.cell? ⟨g,o+2,none⟩=some u2)(z3:w.cell? ⟨g,o+3,none⟩=some u3)(z4:w.cell? ⟨g,o+4,none⟩=some u4)(f0:w.frozen? ⟨g,o,none⟩=false)(f1:w.frozen? ⟨g,o+1,none⟩=false)(f2:w.frozen? ⟨g,o+2,none⟩=false)(f3:w.frozen? ⟨g,o+3,none⟩=false)(f4:w.frozen? ⟨g,o+4,none⟩=false):
  (Builtin.clear_ #[122] ty #[.slice (some ⟨g,o,none⟩) 1 c]).run Tryz.prog w=.ok (.tuple #[]) (((((w.setCell ⟨g,o,none⟩ (.int .i64 0)).setCell ⟨g,o+1,none⟩ (.int .i64 0)).setCell ⟨g,o+2,none⟩ (.string ByteArray.empty)).setCell ⟨g,o+3,none⟩ (.string ByteArray.empty)).setCell ⟨g,o+4,none⟩ (.string ByteArray.empty)):=by
 obtain⟨i0,hi,B1,B4,B3⟩:=alQ fW;have hv:(zeroValue 175).run Tryz.prog w=.ok (.agg #[.int .i64 0,.int .i64 0,.string ByteArray.empty,.string ByteArray.empty,.string ByteArray.empty]) w:=by
  simp[zeroValue,typeInfo,go_sem,hi,B1]
 unfold Builtin.clear_;have hz:(Builtin.zeroCells #[Value.int .i64 0,.int .i64 0,.string ByteArray.empty,.string ByteArray.empty,.string ByteArray.empty] 1).toList=[Value.int .i64 0,.int .i64 0,.string ByteArray.empty,.string ByteArray.empty,.string ByteArray.empty]:=by kernel_rfl
 simp[go_sem,hv,hz];go_simp
theorem ss{w:World}{B g vc:Nat}{x:al}{r:List al}(ho:cx w B (.slice (some ⟨g,0,none⟩) (r.length+1) vc) (x::r))(hl:r.length<=1000)(kk:Nat)(uid:Int)(hk:w.cell? ⟨kk,0,none⟩=some (.int .i64 uid))(Ck:kk<w.heap.size)(Cu:kk≠g)(hx:x.uid=uid)(hr:∀m∈r,m.uid≠uid):
  Calls Tryz.prog 299 #[.slice (some ⟨g,0,none⟩) (r.length+1) vc,.func (.func 300) #[] #[.pointer (some ⟨kk,0,none⟩)]] w λe w'=>e=.returned (.slice (some ⟨g,0,none⟩) r.length vc)/\cx w' B (.slice (some ⟨g,0,none⟩) r.length vc) r/\But g none w w':=by
 obtain⟨_,_,Cp,Ch,hM,_⟩:=cx.form ho;injection Cp with e1 e2 e3
 clear e2;subst e1 e3;have CI:g<w.heap.size:=(ho.lt g rfl).2;have gI:=sd g 0 (r.length+1) vc x w (by omega) (by
  rcases hM with h|⟨b,off,h1,h2,h3⟩
  ·cases h
  ·exact Or.inr ⟨b,off,h1,h2,λi y hy=>h3 i y (by
    rcases i with _|i
    ·simpa using hy
    ·simp at hy)⟩) kk uid hk Ck hx
 have HO:Hid (w.ownsRow B 175 5 (.slice (some ⟨g,0,none⟩) (r.length+1) vc) (r.length+1) (aJ (x::r))):=ho;have HK:=hid hk;have HR:=hid hr;have Cx:=hid Ch;have HL:=hid hl;have HX:=hid hx;clear ho hM hk hr Ch hl hx;generalize hn:r.length+1=n at*;have HN:=hid hn;clear hn;go_enter Tryz.func299,Tryz.ntmps299;go_wp2_with fail;refine gI.mono ?_;rintro e w1 ⟨rfl,Ce⟩;have Co:Hid (w1.ownsRow B 175 5 (.slice (some ⟨g,0,none⟩) n vc) n (aJ (x::r))):=ay (λb hb=>Ce.block b (HO.out.lt b hb).2) HO.out;have CA:=hid Ce;have CH:1<=n:=by have:=HN.out;omega
 have CG:n<=1001:=by have:=HN.out;have:=HL.out;omega
 clear gI Ce HO;go_wp2_with fail;go_loopw [5,6,7] (λi j _ wr=>∃(k:Nat),k<=r.length/\i=.int .i64 k/\j=.int .i64 ((k+1:Nat):Int)/\Hid (wr.ownsRow B 175 5 (.slice (some ⟨g,0,none⟩) n vc) n (aJ (r.take k++(x::r).drop k)))/\Hid (But g none w wr)) (λi _ _ _=>r.length-(RowKit.intOf i).toNat)
 case atStart=>exact⟨0,alT _,rfl,by simp,by simpa[Hid]using Co.out,But.of_below CA.out⟩
 case round=>
  clear Co;obtain⟨k,hk,rfl,rfl,hO,B8⟩:=hrel
  by_cases Ca:k<r.length
  ·have Cs:k+1<n:=by have:=HN.out;omega
   have Ct:k<n:=by omega
   have hI:∀w,(Instr.indexAt 122 (.slice (some ⟨g,0,none⟩) n vc) (.int .i64 ((k+1:Nat):Int))).run Tryz.prog w=.ok (.pointer (some ⟨g,(k+1)*5,none⟩)) w:=λw=>by have:=cS (g:=g) (off:=0) (cap:=vc) (w:=w) Cs;rwa [Nat.zero_add]at this
   have CK:∀w,(Instr.indexAt 122 (.slice (some ⟨g,0,none⟩) n vc) (.int .i64 (k:Int))).run Tryz.prog w=.ok (.pointer (some ⟨g,k*5,none⟩)) w:=λw=>by have:=cS (g:=g) (off:=0) (cap:=vc) (w:=w) Ct;rwa [Nat.zero_add]at this
   have B7:(r.take k++(x::r).drop k)[k+1]?=some r[k]:=by
    have Cb:(r.take k).length=k:=by simp;omega
    rw[List.getElem?_append_right (by omega),Cb,List.getElem?_drop,show k+(k+1-k)=k+1 by omega,List.getElem?_cons_succ];exact alI Ca
   obtain⟨y,B5⟩:∃y,(r.take k++(x::r).drop k)[k]?=some y:=⟨_,alI (by simp;omega)⟩;have Cj:(r.take k++(x::r).drop k).set k r[k]=r.take (k+1)++(x::r).drop (k+1):=by
    have Cb:(r.take k).length=k:=by simp;omega
    rw[List.set_append_right _ _ (by omega),Cb,Nat.sub_self,alL Ca,List.append_assoc];congr 1;have:(x::r).drop k=(x::r)[k]'(by simp;omega)::(x::r).drop (k+1):=List.drop_eq_getElem_cons (by simp;omega);rw[this]
    rfl
   have Cy:=hid Cj;have B9:=hid B5;obtain⟨q0,q1,q2,q3,q4⟩:=cT _ _ _ B7;have d0:=aE hO.out q0;have d1:=aE hO.out q1;have d2:=aE hO.out q2;have d3:=aE hO.out q3;have d4:=aE hO.out q4;have Ci:=HR.out r[k] (List.getElem_mem Ca);have Cl:=(aC ⟨kk,0,none⟩ (B8.out.block kk Ck Cu (by simp))).trans HK.out;have Cq:=B8.out.size;generalize r[k]=m at*;have gR:=o8 kk uid m.key m.uid ⟨m.flags.toArray⟩ ⟨m.came.toArray⟩ ⟨m.text.toArray⟩ (wr.alloc (.cells #[.int .i64 m.key,.int .i64 m.uid,.string ⟨m.flags.toArray⟩,.string ⟨m.came.toArray⟩,.string ⟨m.text.toArray⟩] 175)) ((aC ⟨kk,0,none⟩ (alB wr _ (show kk<wr.heap.size by omega))).trans Cl) (by simp;omega);rw[decide_eq_false Ci]at gR;have hX:(wr.alloc (.cells #[.int .i64 m.key,.int .i64 m.uid,.string ⟨m.flags.toArray⟩,.string ⟨m.came.toArray⟩,.string ⟨m.text.toArray⟩] 175)).heap[wr.heap.size]?=some (.cells #[.int .i64 m.key,.int .i64 m.uid,.string ⟨m.flags.toArray⟩,.string ⟨m.came.toArray⟩,.string ⟨m.text.toArray⟩] 175 (0,0)):=alA wr _;have Cm:Below wr.heap.size wr (wr.alloc (.cells #[.int .i64 m.key,.int .i64 m.uid,.string ⟨m.flags.toArray⟩,.string ⟨m.came.toArray⟩,.string ⟨m.text.toArray⟩] 175)):=ax;have Cn:=hid hX;have Cg:=hid Cm;have Cw:wr.heap.size<(wr.alloc (.cells #[.int .i64 m.key,.int .i64 m.uid,.string ⟨m.flags.toArray⟩,.string ⟨m.came.toArray⟩,.string ⟨m.text.toArray⟩] 175)).heap.size:=by simp
   clear q0 q1 q2 q3 q4 B7 B5 Cj hX Cm Ci Cl;go_wp2_with fail;refine gR.mono ?_;rintro e w3 ⟨rfl,Cd⟩;generalize(wr.alloc (.cells #[.int .i64 m.key,.int .i64 m.uid,.string ⟨m.flags.toArray⟩,.string ⟨m.came.toArray⟩,.string ⟨m.text.toArray⟩] 175))=w2 at*;have B4:Below wr.heap.size wr w3:=Cg.out.trans (Cd.mono Cg.out.size);have B6:=(Cd.block wr.heap.size Cw).trans Cn.out;have B1:Hid (w3.ownsRow B 175 5 (.slice (some ⟨g,0,none⟩) n vc) n (aJ (r.take k++(x::r).drop k))):=ay (λb hb=>B4.block b (hO.out.lt b hb).2) hO.out;have Cz:Hid (But g none w w3):=B8.out.below B4;have x0:=ae (o:=0) B6 rfl;have x1:=ae (o:=1) B6 rfl;have x2:=ae (o:=2) B6 rfl;have x3:=ae (o:=3) B6 rfl;have x4:=ae (o:=4) B6 rfl;obtain⟨p0,p1,p2,p3,p4⟩:=cT _ _ _ B9.out;have z0:=aE B1.out p0;have z1:=aE B1.out p1;have z2:=aE B1.out p2;have z3:=aE B1.out p3;have z4:=aE B1.out p4;have f0:=ch B1.out (k*5);have f1:=ch B1.out (k*5+1);have f2:=ch B1.out (k*5+2);have f3:=ch B1.out (k*5+3);have f4:=ch B1.out (k*5+4);have Cf:Hid ((((((w3.setCell ⟨g,k*5,none⟩ (.int .i64 m.key)).setCell ⟨g,k*5+1,none⟩ (.int .i64 m.uid)).setCell ⟨g,k*5+2,none⟩ (.string ⟨m.flags.toArray⟩)).setCell ⟨g,k*5+3,none⟩ (.string ⟨m.came.toArray⟩)).setCell ⟨g,k*5+4,none⟩ (.string ⟨m.text.toArray⟩)).ownsRow B 175 5 (.slice (some ⟨g,0,none⟩) n vc) n (aJ (r.take (k+1)++(x::r).drop (k+1)))):=by
    unfold Hid;rw[←Cy.out,←kd _ _ _ _ B9.out];exact dz (dz (dz (dz (dz B1.out _ _) _ _) _ _) _ _) _ _
   clear gR Cd B4 B6 hO B8 p0 p1 p2 p3 p4 d0 d1 d2 d3 d4 Cn Cg;go_wp2_with fail;exact⟨⟨k+1,by omega,by simp,by simp,Cf,((((Cz.out.setCell (Or.inl rfl) _).setCell (Or.inl rfl) _).setCell (Or.inl rfl) _).setCell (Or.inl rfl) _).setCell (Or.inl rfl) _⟩,by simp[RowKit.intOf];omega⟩
  ·have Cv:k=r.length:=by omega
   subst Cv;rw[List.take_length]at hO;obtain⟨y,B3⟩:∃y,(x::r).drop r.length=[y]:=by
    have:((x::r).drop r.length).length=1:=by simp
    exact List.length_eq_one_iff.1 this
   rw[B3]at hO;have B5:(r++[y])[r.length]?=some y:=by simp
   have B9:=hid B5;obtain⟨p0,p1,p2,p3,p4⟩:=cT _ _ _ B5;have z0:=aE hO.out p0;have z1:=aE hO.out p1;have z2:=aE hO.out p2;have z3:=aE hO.out p3;have z4:=aE hO.out p4;have f0:=ch hO.out (r.length*5);have f1:=ch hO.out (r.length*5+1);have f2:=ch hO.out (r.length*5+2);have f3:=ch hO.out (r.length*5+3);have f4:=ch hO.out (r.length*5+4);have CE:¬r.length+1<n:=by have:=HN.out;omega
   have Cr:r.length<=n:=by have:=HN.out;omega
   have CD:n<=vc:=by have:=Cx.out;have:=HN.out;simp at*;omega
   have CB:vc≠r.length:=by have:=HN.out;omega
   have e1:n-r.length=1:=by have:=HN.out;omega
   have CJ:=yx (c:=vc-r.length) (ty:=0) z0 z1 z2 z3 z4 f0 f1 f2 f3 f4;have CC:r.length<=vc:=by omega
   have CF:¬((r.length:Int)+1<(n:Int)):=by have:=HN.out;omega
   have Cf:Hid ((((((wr.setCell ⟨g,r.length*5,none⟩ (.int .i64 0)).setCell ⟨g,r.length*5+1,none⟩ (.int .i64 0)).setCell ⟨g,r.length*5+2,none⟩ (.string ByteArray.empty)).setCell ⟨g,r.length*5+3,none⟩ (.string ByteArray.empty)).setCell ⟨g,r.length*5+4,none⟩ (.string ByteArray.empty)).ownsRow B 175 5 (.slice (some ⟨g,0,none⟩) n vc) n (aJ (r++[⟨0,0,[],[],[]⟩]))):=by
    unfold Hid;have e:r++[(⟨0,0,[],[],[]⟩:al)]=(r++[y]).set r.length ⟨0,0,[],[],[]⟩:=by simp
    rw[e,←kd _ _ _ _ B9.out];exact dz (dz (dz (dz (dz hO.out _ _) _ _) _ _) _ _) _ _
   clear p0 p1 p2 p3 p4 B5 B3 z0 z1 z2 z3 z4 f0 f1 f2 f3 f4 hO;go_wp2_with fail;go_ret;refine⟨rfl,?_,((((B8.out.setCell (Or.inl rfl) _).setCell (Or.inl rfl) _).setCell (Or.inl rfl) _).setCell (Or.inl rfl) _).setCell (Or.inl rfl) _⟩;have:=xp Cf.out Cr;have e2:(aJ (r++[(⟨0,0,[],[],[]⟩:al)])).take (r.length*5)=aJ r:=by
    have Cc:(aJ r).length=r.length*5:=tP r;rw[show aJ (r++[(⟨0,0,[],[],[]⟩:al)])=aJ r++aJ [⟨0,0,[],[],[]⟩]by simp[aJ],←Cc,List.take_left]
   rw[e2]at this;exact this
end Go.Proofs.YtlbcgmlhaeeoeaaGreatDoor
