import Derived.Test.YtbeahecjbokjjaaGreatDoorQ20
set_option maxRecDepth 100000
set_option maxHeartbeats 16000000
namespace Go.Proofs.YtbeahecjbokjjaaGreatDoor
open Go.RowKit Go.Lib
def aW (s:List ax×List ByteArray) (p:cw):List ax×List ByteArray:=
 match s.1[(p.place-1).toNat]? with
 |some k=>if k.told=p.m.flags then s else(s.1.set (p.place-1).toNat ⟨k.uid,p.m.flags⟩,s.2++[⟨(aV p.place ([70,76,65,71,83,32]++Mb.tell p.m.flags)).toArray⟩])
 |none=>s
theorem fX(ks:List ax)(ms:List ap):∀p∈ar ks ms,1<=p.place/\p.place<=(ks.length:Int)/\p.m∈ms:=by
 intro p hp;unfold ar at hp;rw[List.mem_filterMap]at hp;obtain⟨x,B5,hx⟩:=hp;have B6:=List.snd_lt_of_mem_zipIdx B5
 cases h:aG x.1.uid ms with
 |none=>rw[h]at hx;cases hx
 |some m=>
  rw[h]at hx;simp at hx;subst hx;exact⟨by simp;omega,by simp;omega,List.mem_of_find?_eq_some h⟩
theorem nv:∀(xs:List ax) (i:Nat) (k:ax) (f:List UInt8),xs[i]?=some k->(dd xs).set (i*2+1) (.string ⟨f.toArray⟩)=dd (xs.set i ⟨k.uid,f⟩)
 |[],i,k,f,h=>by simp at h
 |y::r,0,k,f,h=>by simp at h;subst h;simp[dd]
 |y::r,i+1,k,f,h=>by
  have:=nv r i k f (by simpa using h);simp only[dd]at this;rw[show(i+1)*2+1=i*2+1+1+1 by omega];simp[dd,this]
theorem But.setRow{K g o:Nat}{row:Option Nat}{w w1:World}(h:But K row w w1)(hr:row=some g)(u:Value):But K row w (w1.setCell ⟨g,o,none⟩ u):=by
 have hb:=(Below.refl 0 w1).setCell (p:=⟨g,o,none⟩) (alT _) u;refine⟨hb.os.trans h.os,hb.tape.trans h.tape,hb.output.trans h.output,by simpa using h.size,λb h1 h2 h3=>(alP _ _ _ _ ?_).trans (h.block b h1 h2 h3)⟩;rintro rfl;exact h3 hr
theorem yg:iB Tryz.prog 33 9 1 16:=by
 obtain⟨i,h1,h2,h3,h4⟩:=alQ cO;exact⟨i,_,Tryz.underlying33,h1,h2,h3,h4,rfl⟩
theorem uA{b:ByteArray}{w:World}:(Instr.buildSlice 33 1 #[(0,.string b)]).run Tryz.prog w=.ok (.slice (some ⟨w.heap.size,0,none⟩) 1 1) (w.alloc (.cells #[.string b] 9)):=by
 go_simp
theorem fL{w:World}{B V G:Nat}{look:Bool}{name Cx:ByteArray}{ep nx:Int}{kv:Value}{a:Option Addr}{cap:Nat}{ks:List ax}{ms:List ap}(h:ce w V G look kv)(ho:dW w B kv ks)(CG:kv.ownBlock≠some V)(hF:bg w G name Cx ep nx (.slice a ms.length cap))(hm:dB w a ms)(hl:ms.length<=1000)(C2:ks.length<=1000)(CK:∀m∈ms,m.flags.length<=1000)(hE:∀W,aR V kv kv w W->Env W):
  Calls Tryz.prog 165 #[.pointer (some ⟨V,0,none⟩)] w λe w'=>∃v,e=.returned v/\cM w' w.heap.size v ((ar ks ms).foldl aW (ks,[])).2/\ce w' V G look kv/\dW w' B kv ((ar ks ms).foldl aW (ks,[])).1/\aR V kv kv w w':=by
 obtain⟨va,vc,CV,_,CI,_⟩:=dW.form ho;subst CV;obtain⟨j0,hj,Du,Dt,Ds⟩:=alQ cO;have gT:=mH h CI hF hm hl C2;have C9:=h.cells.2.2.2.2;have HV:=hid h;have HO:=hid ho;have Dq:=hid CG;have HE:=hid hE;clear h ho CG hF hm hE CI;go_enter Tryz.func165,Tryz.ntmps165;go_wp2_with fail;refine gT.mono ?_;rintro e w1 ⟨⟨v1,rfl,CF⟩,Cc⟩;clear gT;obtain⟨pa,pcap,rfl,_,Cj,CE⟩:=mr.form CF;have CY:=Cc.size;have Dj:Hid (∀p∈ar ks ms,1<=p.place/\p.place<=(ks.length:Int)/\p.m.flags.length<=1000):=λp hp=>let h:=fX ks ms p hp;⟨h.1,h.2.1,CK _ h.2.2⟩
 have DA:=cA ks ms;have CT:=hid Cc;have Dm:=hid Cj;have Dl:=hid CE;have De:Hid (ce w1 V G look (.slice va ks.length vc)):=(Cc.block V C9).trans HV.out;have Do:Hid (dW w1 B (.slice va ks.length vc) ks):=bM HO.out Cc;have CH:∀b,(Value.slice va ks.length vc).ownBlock=some b->b<w.heap.size:=λb hb=>(HO.out.lt b hb).2
 have CP:=hid CH;clear Cc Cj CE CF CK CH;generalize CD:ar ks ms=ps at*;have Di:=hid CD;clear CD;go_wp2_with fail;go_loopw [3,10] (λvl i wr=>∃(k n:Nat) (zs:List ax) (ys:List ByteArray),k<=ps.length/\n<=k/\i=.int .i64 k/\Hid (zs.length=ks.length/\ys.length=n/\(ps.take k).foldl aW (ks,[])=(zs,ys))/\Hid (ce wr V G look (.slice va ks.length vc))/\Hid (wr.ownsRow B 313 2 (.slice va ks.length vc) ks.length (dd zs))/\Hid (wr.ownsRow w1.heap.size 9 1 vl n (aJ ys))/\Hid (aR V (.slice va ks.length vc) (.slice va ks.length vc) w1 wr)) (λ_ i _=>ps.length-(RowKit.intOf i).toNat)
 case atStart=>exact⟨0,0,ks,[],alT _,alT _,rfl,⟨rfl,rfl,rfl⟩,De,Do,alG _ _ _ _,aR.below (Below.refl _ _)⟩
 case round=>
  obtain⟨k,n,zs,ys,hk,hn,rfl,HY,hV,hO,hL,Ci⟩:=hrel;have Dx:=Ci.out.but.size
  by_cases Cb:k<ps.length
  ·obtain⟨b,off,ha,hb,hc⟩:∃b off,pa=some ⟨b,off,none⟩/\b<w1.heap.size/\ro w1 b off ps:=by
    rcases Dm.out with hz|hz
    ·rw[hz]at Cb;simp at Cb
    ·exact hz
   subst ha;have DB:=(Dl.out b off rfl).1;have B9:∀o,wr.cell? ⟨b,o,none⟩=w1.cell? ⟨b,o,none⟩:=λo=>aF ⟨b,o,none⟩ (Ci.out.but.block b hb (by omega) (λe=>by have:=CP.out b e;omega))
   obtain⟨c0,c1,c2,c3,c4,c5⟩:=hc k ps[k] (by simp[Cb]);have d0:=(B9 (off+k*6)).trans c0;have d1:=(B9 (off+k*6+1)).trans c1;have d2:=(B9 (off+k*6+2)).trans c2;have d3:=(B9 (off+k*6+3)).trans c3;have d4:=(B9 (off+k*6+4)).trans c4;have d5:=(B9 (off+k*6+5)).trans c5;have hI:∀w,(Instr.indexAt 298 (.slice (some ⟨b,off,none⟩) ps.length pcap) (.int .i64 (k:Int))).run Tryz.prog w=.ok (.pointer (some ⟨b,off+k*6,none⟩)) w:=λw=>jM Cb
   have HT:Hid ((ps.take (k+1)).foldl aW (ks,[])=aW (zs,ys) ps[k]):=by
    unfold Hid;rw[alL Cb,List.foldl_append,HY.out.2.2]
    rfl
   obtain⟨Cj,C0,CZ⟩:=Dj.out _ (List.getElem_mem Cb);generalize ps[k]=p at*;obtain⟨pl,⟨mk,mu,f,cm,tx⟩⟩:=p;simp only at d0 d1 d2 d3 d4 d5 HT Cj C0 CZ;obtain⟨bf,Cg,Cf⟩:=aj f;rw[←Cg.out]at d3;generalize(⟨cm.toArray⟩:ByteArray)=b3 at*;generalize(⟨tx.toArray⟩:ByteArray)=b4 at*;obtain⟨i,rfl⟩:∃i:Nat,pl=(i:Int)+1:=⟨(pl-1).toNat,by omega⟩;have CJ:i<ks.length:=by omega
   have Ck:i<zs.length:=by rw[HY.out.1];exact CJ
   have CW:((i:Int)+1-1).toNat=i:=by omega
   obtain⟨kg,rfl⟩:∃kg,va=some ⟨kg,0,none⟩:=by
    obtain⟨kg,CU,e,_⟩:=hO.out.form (by omega);injection e with e
    exact⟨kg,e⟩
   have C3:kg<w.heap.size:=CP.out kg rfl;have Cs:kg≠V:=λe=>Dq.out (by rw[e];rfl)
   obtain⟨bt,CR,CC⟩:=aj zs[i].told;have t1:wr.cell? ⟨kg,i*2+1,none⟩=some (.string bt):=by rw[CR.out];exact aE hO.out (fS _ _ _ (by simp[Ck])).2
   have Cd:Hid (aW (zs,ys) ⟨(i:Int)+1,⟨mk,mu,f,cm,tx⟩⟩=if zs[i].told=f then(zs,ys)else(zs.set i ⟨zs[i].uid,f⟩,ys++[⟨(aV ((i:Int)+1) ([70,76,65,71,83,32]++Mb.tell f)).toArray⟩])):=by
    unfold Hid aW;simp only[CW];rw[show zs[i]?=some zs[i]by simp[Ck]]
   have HZ:Hid (zs[i]?=some zs[i]):=by unfold Hid;simp[Ck]
   have hX:(wr.alloc (.cells #[.int .i64 ((i:Int)+1),.int .i64 mk,.int .i64 mu,.string bf,.string b3,.string b4] 302)).heap[wr.heap.size]?=some (.cells #[.int .i64 ((i:Int)+1),.int .i64 mk,.int .i64 mu,.string bf,.string b3,.string b4] 302 (0,0)):=alA wr _;have CL:Below wr.heap.size wr (wr.alloc (.cells #[.int .i64 ((i:Int)+1),.int .i64 mk,.int .i64 mu,.string bf,.string b3,.string b4] 302)):=aw;have Dy:(wr.alloc (.cells #[.int .i64 ((i:Int)+1),.int .i64 mk,.int .i64 mu,.string bf,.string b3,.string b4] 302)).heap.size=wr.heap.size+1:=by simp
   have HX:=hid hX;have Ch:=hid CL;have T1:=hid t1;clear c0 c1 c2 c3 c4 c5 hc B9 hX CL t1;go_wp2_with fail;clear d0 d1 d2 d3 d4 d5 hI;generalize(wr.alloc (.cells #[.int .i64 ((i:Int)+1),.int .i64 mk,.int .i64 mu,.string bf,.string b3,.string b4] 302))=w2 at*;have Cr:kg<wr.heap.size:=by omega
   have Cw:ce w2 V G look (.slice (some ⟨kg,0,none⟩) ks.length vc):=(Ch.out.block V (by omega)).trans hV.out;have Cm:=hid (bM hO.out Ch.out);have CB:=hid (bM hL.out Ch.out);have Cz:Hid (aR V (.slice (some ⟨kg,0,none⟩) ks.length vc) (.slice (some ⟨kg,0,none⟩) ks.length vc) w1 w2):=Ci.out.trans (aR.below Ch.out);have T2:Hid (w2.cell? ⟨kg,i*2+1,none⟩=some (.string bt)):=(Ch.out.cell (p:=⟨kg,i*2+1,none⟩) Cr).trans T1.out;have Cy:=hid Cw;have Df:Hid (∀b,u3.ownBlock=some b->b<wr.heap.size):=λb hb=>(hL.out.lt b hb).2
   generalize wr.heap.size=X at*;have Da:∀w,(Instr.indexAt 304 (.slice (some ⟨kg,0,none⟩) ks.length vc) (.int .i64 (i:Int))).run Tryz.prog w=.ok (.pointer (some ⟨kg,i*2,none⟩)) w:=λw=>by have:=lX (g:=kg) (off:=0) (cap:=vc) (w:=w) CJ;rwa [Nat.zero_add]at this
   have s0:w2.drew.cell? ⟨V,2,none⟩=some (.slice (some ⟨kg,0,none⟩) ks.length vc):=Cw.cells.2.2.1;have s1:w2.drew.cell? ⟨X,0,none⟩=some (.int .i64 ((i:Int)+1)):=ae (o:=0) HX.out rfl;have Cn:IntKind.i64.wrap (i:Int)=i:=by rw[IntKind.wrap_i64];omega
   clear Cw;refine aC 8 (λw':World=>w'.cell? ⟨V,2,none⟩=some (.slice (some ⟨kg,0,none⟩) ks.length vc)/\w'.cell? ⟨X,0,none⟩=some (.int .i64 ((i:Int)+1))) 9 rfl (by kernel_rfl) ⟨s0,s1⟩ (λa' Q hA hQ hP hS=>?_);have z:a'.tmps.size=50:=by rw[hA.out];rfl
   have e0:a'.eval (.tmp 0)=Value.pointer (some ⟨V,0,none⟩):=by rw[hA.out];rfl
   have e5:a'.eval (.tmp 5)=Value.pointer (some ⟨X,0,none⟩):=by rw[hA.out];rfl
   refine tkA 0 (some 14) rfl rfl hP (λwx hw=>ag rfl e0) hS ?_;refine tkA 1 (some 15) rfl rfl hP (λwx hw=>aI rfl (evz z)) hS ?_;refine tkA 2 (some 16) rfl rfl hP (λwx hw=>ai ⟨V,2,none⟩ rfl (evz (szq z))) hS ?_;refine tkA 3 (some 17) rfl rfl hP (λwx hw=>aq rfl (evz (sz2 z)) (aO hw.1)) hS ?_;refine tkA 4 (some 18) rfl rfl hP (λwx hw=>ai ⟨X,0,none⟩ rfl (ev4 e5)) hS ?_;refine tkA 5 (some 19) rfl rfl hP (λwx hw=>aq rfl (evz (sz4 z)) (aO hw.2)) hS ?_;refine tkA 6 (some 20) rfl rfl hP (λwx hw=>bz (v:=.int .i64 (i:Int)) rfl (evz (sz4 (szq z))) rfl (by go_simp;try exact Cn)) hS ?_;refine tkA 7 (some 21) rfl rfl hP (λwx hw=>bB (v:=.pointer (some ⟨kg,i*2,none⟩)) rfl (ev2 (ev1 (evz (sz2 (szq z))))) (evz (sz4 (sz2 z))) (Da _)) hS ?_;refine bb (i:=8) (d:=some 6) (by kernel_rfl) rfl rfl rfl (aL rfl (evz (sz4 (sz2 (szq z))))) (λ_=>hS) ?_;refine aD (by kernel_rfl) (hQ.out _ _ ?_) _;rw[hA.out];simp only[Act.put,List.setIfInBounds_toArray];dsimp only[List.set];clear hQ hP hA z hS Q a' e0 e5 s0 s1;go_wp2_with fail;have s2:w2.drew.drew.cell? ⟨kg,i*2+1,none⟩=some (.string bt):=T2.out;have s3:w2.drew.drew.cell? ⟨X,3,none⟩=some (.string bf):=ae (o:=3) HX.out rfl
   by_cases he:zs[i].told=f
   ·have Cu:∀w,(do eqGuard BinOp.neq 9 (.tmp 25) (.tmp 28) (.string bt) (.string bf);binOp BinOp.neq 9 (.string bt) (.string bf):Sem Value).run Tryz.prog w=.ok (.bool false) w:=by
     intro w;have hb:bt=bf:=by rw[CR.out,Cg.out,he]
     subst hb;go_simp
    refine bo [] (λw':World=>w'.cell? ⟨kg,i*2+1,none⟩=some (.string bt)/\w'.cell? ⟨X,3,none⟩=some (.string bf)) 8 rfl (by kernel_rfl) ⟨s2,s3⟩ (λa' Q hA hQ hP hS=>?_);have z:a'.tmps.size=50:=by rw[hA.out];rfl
    have e6:a'.eval (.tmp 6)=Value.pointer (some ⟨kg,i*2,none⟩):=by rw[hA.out];rfl
    have e5:a'.eval (.tmp 5)=Value.pointer (some ⟨X,0,none⟩):=by rw[hA.out];rfl
    refine aH 0 (some 22) rfl rfl hP (af rfl) (λwx=>ag rfl e6) hS ?_;refine aH 1 (some 23) rfl rfl hP (af rfl) (λwx=>aI rfl (evz z)) hS ?_;refine aH 2 (some 24) rfl rfl hP (af rfl) (λwx=>ai ⟨kg,i*2+1,none⟩ rfl (evz (szq z))) hS ?_;refine dS 3 (some 25) rfl rfl hP (af rfl) (λwx hw=>aq rfl (evz (sz2 z)) (aO hw.1)) hS ?_;refine aH 4 (some 26) rfl rfl hP (af rfl) (λwx=>ai ⟨X,1,none⟩ rfl (ev4 e5)) hS ?_;refine aH 5 (some 27) rfl rfl hP (af rfl) (λwx=>ai ⟨X,3,none⟩ rfl (evz (sz4 z))) hS ?_;refine dS 6 (some 28) rfl rfl hP (af rfl) (λwx hw=>aq rfl (evz (sz4 (szq z))) (aO hw.2)) hS ?_;refine dF (i:=7) (d:=some 29) (by kernel_rfl) rfl rfl (af rfl) (bz (v:=.bool false) rfl (ev2 (ev1 (evz (sz2 (szq z))))) (evz (sz4 (sz2 z))) (Cu _)) (λ_=>hS) ?_;refine bm (by kernel_rfl) (hQ.out _ _ ?_) _;rw[hA.out];simp only[Act.put,List.setIfInBounds_toArray];dsimp only[List.set];clear hQ hP hA z hS Q a' e6 e5 s2 s3;go_wp2_with fail;rw[if_pos he]at Cd;refine⟨⟨k+1,n,zs,ys,by omega,by omega,by simp,?_,Cy,Cm,CB,Cz.out.trans (aR.below (((Below.refl _ w2).drew).drew))⟩,by simp[RowKit.intOf];omega⟩;unfold Hid;rw[HT.out,Cd.out];exact⟨HY.out.1,HY.out.2.1,rfl⟩
   ·have Cu:∀w,(do eqGuard BinOp.neq 9 (.tmp 25) (.tmp 28) (.string bt) (.string bf);binOp BinOp.neq 9 (.string bt) (.string bf):Sem Value).run Tryz.prog w=.ok (.bool true) w:=by
     intro w;have hb:(bt.toList==bf.toList)=false:=by
      rw[ByteArray.toList_eq,ByteArray.toList_eq,CC.out,Cf.out];simpa using he
     go_simp
    have Dp:=hid he;clear he;refine bo [] (λw':World=>w'.cell? ⟨kg,i*2+1,none⟩=some (.string bt)/\w'.cell? ⟨X,3,none⟩=some (.string bf)) 8 rfl (by kernel_rfl) ⟨s2,s3⟩ (λa' Q hA hQ hP hS=>?_);have z:a'.tmps.size=50:=by rw[hA.out];rfl
    have e6:a'.eval (.tmp 6)=Value.pointer (some ⟨kg,i*2,none⟩):=by rw[hA.out];rfl
    have e5:a'.eval (.tmp 5)=Value.pointer (some ⟨X,0,none⟩):=by rw[hA.out];rfl
    refine aH 0 (some 22) rfl rfl hP (af rfl) (λwx=>ag rfl e6) hS ?_;refine aH 1 (some 23) rfl rfl hP (af rfl) (λwx=>aI rfl (evz z)) hS ?_;refine aH 2 (some 24) rfl rfl hP (af rfl) (λwx=>ai ⟨kg,i*2+1,none⟩ rfl (evz (szq z))) hS ?_;refine dS 3 (some 25) rfl rfl hP (af rfl) (λwx hw=>aq rfl (evz (sz2 z)) (aO hw.1)) hS ?_;refine aH 4 (some 26) rfl rfl hP (af rfl) (λwx=>ai ⟨X,1,none⟩ rfl (ev4 e5)) hS ?_;refine aH 5 (some 27) rfl rfl hP (af rfl) (λwx=>ai ⟨X,3,none⟩ rfl (evz (sz4 z))) hS ?_;refine dS 6 (some 28) rfl rfl hP (af rfl) (λwx hw=>aq rfl (evz (sz4 (szq z))) (aO hw.2)) hS ?_;refine dF (i:=7) (d:=some 29) (by kernel_rfl) rfl rfl (af rfl) (bz (v:=.bool true) rfl (ev2 (ev1 (evz (sz2 (szq z))))) (evz (sz4 (sz2 z))) (Cu _)) (λ_=>hS) ?_;refine bm (by kernel_rfl) (hQ.out _ _ ?_) _;rw[hA.out];simp only[Act.put,List.setIfInBounds_toArray];dsimp only[List.set];clear hQ hP hA z hS Q a' e6 e5 s2 s3;rw[if_neg Dp.out]at Cd;have r0:w2.drew.drew.cell? ⟨kg,i*2+1,none⟩=some (.string bt):=T2.out;have r1:w2.drew.drew.frozen? ⟨kg,i*2+1,none⟩=false:=cu Cm.out _;have r3:w2.drew.drew.cell? ⟨X,3,none⟩=some (.string bf):=ae (o:=3) HX.out rfl;go_wp2_with fail;have C6:kg≠X:=by omega
    have Ce:Hid (aR V (.slice (some ⟨kg,0,none⟩) ks.length vc) (.slice (some ⟨kg,0,none⟩) ks.length vc) w1 (w2.setCell ⟨kg,i*2+1,none⟩ (.string bf)).drew.drew):=⟨(Cz.out.but.setRow (o:=i*2+1) rfl (.string bf)).below (((Below.refl _ _).drew).drew),λb hb=>Or.inl hb⟩;have Dd:Hid (ce (w2.setCell ⟨kg,i*2+1,none⟩ (.string bf)).drew.drew V G look (.slice (some ⟨kg,0,none⟩) ks.length vc)):=(alP _ _ _ _ (by simpa using Ne.symm Cs)).trans Cy.out;have CN:Hid ((w2.setCell ⟨kg,i*2+1,none⟩ (.string bf)).drew.drew.heap[X]?=some (.cells #[.int .i64 ((i:Int)+1),.int .i64 mk,.int .i64 mu,.string bf,.string b3,.string b4] 302 (0,0))):=(alP _ _ _ _ (by simpa using Ne.symm C6)).trans HX.out;have CO:Hid ((w2.setCell ⟨kg,i*2+1,none⟩ (.string bf)).drew.drew.ownsRow B 313 2 (.slice (some ⟨kg,0,none⟩) ks.length vc) ks.length (dd (zs.set i ⟨zs[i].uid,f⟩))):=by
     have:=dE Cm.out (i*2+1) (.string bf);rw[Cg.out,nv _ _ _ _ HZ.out,←Cg.out]at this;exact this.drew.drew
    have CA:Hid ((w2.setCell ⟨kg,i*2+1,none⟩ (.string bf)).drew.drew.ownsRow w1.heap.size 9 1 u3 n (aJ ys)):=(ownsRow_setCell_below (a:=⟨kg,i*2+1,none⟩) CB.out (by simp;omega) (.string bf)).drew.drew;have CX:(w2.setCell ⟨kg,i*2+1,none⟩ (.string bf)).drew.drew.heap.size=w2.heap.size:=by simp
    clear r0 r1 r3 Cy HX Cm CB Cz T2 T1;generalize(w2.setCell ⟨kg,i*2+1,none⟩ (.string bf)).drew.drew=w3 at*;have Db:=HE.out w3 ((aR.below CT.out).trans Ce.out);have gT:=ol bf w3.drew;rw[Cf.out]at gT;obtain⟨tl,Dg,Ca⟩:=aj (Mb.tell f);rw[←Dg.out]at gT;have Dw:(Mb.tell f).length<=1001:=by unfold Mb.tell;split<;>(try simp)<;>omega
    obtain⟨fl,CQ,kF⟩:=ba Tryz.prog ⟨#[70,76,65,71,83,32]⟩ tl (by rw[Ca.out];simp;omega);have gA:=rn ((i:Int)+1) (by omega) (by omega) fl (by rw[CQ.out,Ca.out];simp;omega) w3.drew (Db.below ((Below.refl _ w3).drew) (alU));rw[CQ.out,Ca.out]at gA;obtain⟨bl,CS,_⟩:=aj (aV ((i:Int)+1) ([70,76,65,71,83,32]++Mb.tell f));rw[show(⟨#[70,76,65,71,83,32]⟩:ByteArray).data.toList=[70,76,65,71,83,32]from rfl,←CS.out]at gA;rw[←CS.out]at Cd;have s0:w3.drew.cell? ⟨X,0,none⟩=some (.int .i64 ((i:Int)+1)):=ae (o:=0) CN.out rfl;have s1:w3.drew.cell? ⟨kg,i*2+1,none⟩=some (.string bf):=by
     have:=aE CO.out (fS (zs.set i ⟨zs[i].uid,f⟩) i ⟨zs[i].uid,f⟩ (by simp[Ck])).2;rw[←Cg.out]at this;exact this
    have C8:X<w3.heap.size:=(alJ.1 CN.out).1;have Ct:kg<w3.heap.size:=by omega
    refine aC 12 (λw':World=>w'.cell? ⟨X,0,none⟩=some (.int .i64 ((i:Int)+1))/\w'.cell? ⟨kg,i*2+1,none⟩=some (.string bf)) 13 rfl (by kernel_rfl) ⟨s0,s1⟩ (λa' Q hA hQ hP hS=>?_);have z:a'.tmps.size=50:=by rw[hA.out];rfl
    have e3:a'.eval (.tmp 3)=u3:=by rw[hA.out];rfl
    have e6:a'.eval (.tmp 6)=Value.pointer (some ⟨kg,i*2,none⟩):=by rw[hA.out];rfl
    have e5:a'.eval (.tmp 5)=Value.pointer (some ⟨X,0,none⟩):=by rw[hA.out];rfl
    refine tkA 0 (some 36) rfl rfl hP (λwx hw=>ag rfl e3) hS ?_;refine tkA 1 (some 37) rfl rfl hP (λwx hw=>ai ⟨X,0,none⟩ rfl (ev1 e5)) hS ?_;refine tkA 2 (some 38) rfl rfl hP (λwx hw=>aq rfl (evz (szq z)) (aO hw.1)) hS ?_;refine tkA 3 (some 39) rfl rfl hP (λwx hw=>ag rfl (ev2 (ev1 e6))) hS ?_;refine tkA 4 (some 40) rfl rfl hP (λwx hw=>aI rfl (evz (sz2 (szq z)))) hS ?_;refine tkA 5 (some 41) rfl rfl hP (λwx hw=>ai ⟨kg,i*2+1,none⟩ rfl (evz (sz4 z))) hS ?_;refine tkA 6 (some 42) rfl rfl hP (λwx hw=>aq rfl (evz (sz4 (szq z))) (aO hw.2)) hS ?_;refine bG (i:=7) (d:=some 43) (by kernel_rfl) rfl rfl rfl rfl Tryz.func139 (by kernel_rfl) rfl (jy (evz (sz4 (sz2 z)))) gT ?_;rintro e w4 ⟨rfl,rfl⟩;refine⟨_,rfl,λ_=>hS,?_⟩;refine bb (i:=8) (d:=some 44) (by kernel_rfl) rfl rfl rfl (bz (v:=.string fl) rfl rfl (evz (sz4 (sz2 (szq z)))) (by have:=kF;go_simp)) (λ_=>hS) ?_;refine bG (i:=9) (d:=some 45) (by kernel_rfl) rfl rfl rfl rfl Tryz.func228 (by kernel_rfl) rfl (eH (ev4 (ev2 (evz (sz2 z)))) (evz (sz8 z))) gA ?_;rintro e w4 ⟨rfl,CM⟩;have hb4':Below w3.heap.size w3 w4:=(Below.refl _ w3).drew.trans CM;have Dz:=hb4'.size;have hS:w4.cell? ⟨X,0,none⟩=some (.int .i64 ((i:Int)+1))/\w4.cell? ⟨kg,i*2+1,none⟩=some (.string bf):=⟨(hb4'.cell (p:=⟨X,0,none⟩) C8).trans s0,(hb4'.cell (p:=⟨kg,i*2+1,none⟩) Ct).trans s1⟩;refine⟨_,rfl,λ_=>hS,?_⟩;have C7:X<w4.heap.size:=by omega
    have C5:kg<w4.heap.size:=by omega
    have Cl:(w4.alloc (.cells #[.string bl] 9)).cell? ⟨X,0,none⟩=some (.int .i64 ((i:Int)+1))/\(w4.alloc (.cells #[.string bl] 9)).cell? ⟨kg,i*2+1,none⟩=some (.string bf):=⟨(aF ⟨X,0,none⟩ (alB w4 _ C7)).trans hS.1,(aF ⟨kg,i*2+1,none⟩ (alB w4 _ C5)).trans hS.2⟩;refine d8 (i:=10) (d:=some 46) (v:=.slice (some ⟨w4.heap.size,0,none⟩) 1 1) (w':=w4.alloc (.cells #[.string bl] 9)) (by kernel_rfl) rfl rfl rfl rfl (evz (sz8 (szq z))) uA (λ_=>Cl) ?_;have B6:=(bM CA.out hb4').alloc (.cells #[.string bl] 9);refine dN (i:=11) (d:=some 47) [.string bl] (by kernel_rfl) rfl rfl rfl rfl yg (by decide) (ev8 (ev2 (evz z))) B6 (evz (sz8 (sz2 z))) rfl (alF (cs:=#[.string bl]) (t:=9) (fr:=(0,0)) (alA w4 _)) (by simp[Value.oneCell']) (by decide) (by unfold maxLen;omega) (by omega) (by simp;omega) ?_;intro g gc w8 B7 B5 Cv C1;have Cp:some X≠u3.ownBlock:=λe=>Nat.lt_irrefl _ (Df.out X e.symm)
    have Co:some kg≠u3.ownBlock:=λe=>by have:=(CA.out.lt kg e.symm).1;omega
    have r0:=(B5.cell_far ⟨X,0,none⟩ (by simp;omega) Cp).trans Cl.1;have r1:=(B5.cell_far ⟨kg,i*2+1,none⟩ (by simp;omega) Co).trans Cl.2;refine⟨λ_=>⟨r0,r1⟩,?_⟩;clear hS;have hS:=And.intro r0 r1;refine bb (i:=12) (d:=some 3) (by kernel_rfl) rfl rfl rfl (aL rfl (evz (sz8 (sz2 (szq z))))) (λ_=>hS) ?_;have B8:Below w1.heap.size w3 w8:=((hb4'.mono (by omega)).alloc (by omega) _).grown B5 (by simp;omega) (bP CA.out);have hb5':∀b,b<w3.heap.size->some b≠u3.ownBlock->w8.heap[b]?=w3.heap[b]?:=λb h1 h2=>(B5.block b (by simp;omega) h2).trans ((alB w4 _ (by omega)).trans (hb4'.block b h1))
    have Dc:Hid (ce w8 V G look (.slice (some ⟨kg,0,none⟩) ks.length vc)):=(B8.block V (by omega)).trans Dd.out;have Dn:Hid (w8.ownsRow B 313 2 (.slice (some ⟨kg,0,none⟩) ks.length vc) ks.length (dd (zs.set i ⟨zs[i].uid,f⟩))):=au (λb hb=>by injection hb with hb;subst hb;exact B8.block _ (by simp;omega)) CO.out;have Dr:Hid (w8.ownsRow w1.heap.size 9 1 (.slice (some ⟨g,0,none⟩) (n+1) gc) (n+1) (aJ (ys++[bl]))):=by unfold Hid;rw[dJ];exact B7
    have Dh:Hid (aR V (.slice (some ⟨kg,0,none⟩) ks.length vc) (.slice (some ⟨kg,0,none⟩) ks.length vc) w1 w8):=⟨⟨B8.os.trans Ce.out.but.os,B8.tape.trans Ce.out.but.tape,B8.output.trans Ce.out.but.output,by have:=B8.size;omega,λb h1 h2 h3=>(B8.block b h1).trans (Ce.out.but.block b h1 h2 h3)⟩,λb hb=>Or.inl hb⟩;clear B7 B5 Cv B6 B8 hb5' hb4' CM gA gT;refine aD (by kernel_rfl) (hQ.out _ _ ?_) _;rw[hA.out];simp only[Act.put,List.setIfInBounds_toArray];dsimp only[List.set];clear hQ hP hA z hS Q a' e3 e6 e5 Cl r0 r1 s0 s1;go_wp2_with fail;refine⟨⟨k+1,n+1,zs.set i ⟨zs[i].uid,f⟩,ys++[bl],by omega,by omega,by simp,?_,Dc,Dn,Dr,Dh⟩,by simp[RowKit.intOf];omega⟩;unfold Hid;rw[HT.out,Cd.out];exact⟨by simp[HY.out.1],by simp[HY.out.2.1],rfl⟩
  ·have C4:k=ps.length:=by omega
   subst C4;go_wp2_with fail;go_ret;have h:=HY.out;rw[List.take_length]at h;rw[Di.out,h.2.2];refine⟨u3,rfl,?_,hV.out,?_,?_⟩
   ·unfold cM;rw[h.2.1];exact io hL.out CY
   ·unfold dW;rw[h.1];exact hO.out
   ·exact(aR.below CT.out).trans Ci.out
section
variable {P:Program}
theorem nS(w:World)(t ty e:TypeId)(i:TypeInfo)(z:Value)(size bytes base B8:Nat)(ht:P.underlying t=some (.slice e))(hi:P.info? e=some i)(hz:i.zero=some z)(B6:i.size=size)(Cc:i.bytes=bytes)(Ca:z.cells.size=size)(Cb:0<size)
  (v v2:Value) (n m:Nat) (xs B5:List Value) (ho:w.ownsRow base e size v n xs) (B9:w.ownsRow B8 e size v2 m B5) (h1:∀u∈B5,u.oneCell'=true) (Cd:n+m<=maxLen) (hb:(n+m)*bytes<=140737488355328) (B7:base<=w.heap.size):
  ∃v' w',(Builtin.append_ #[t,t] ty #[v,v2]).run P w=.ok v' w'/\w'.ownsRow base e size v' (n+m) (xs++B5)/\w.grownBy w' v.ownBlock:=by
 rcases B9.2 with⟨rfl,rfl⟩|⟨g,c,Ce,rfl,_⟩
 ·have h0:B5=[]:=alN (by simpa using B9.1);subst h0;exact⟨v,w,run_append_owned_none (P:=P) (w:=w) base t ty e i size ht hi v n xs ho,by simpa using ho,⟨rfl,rfl,rfl,alU,λ_ _ _=>rfl⟩⟩
 ·obtain⟨u,w',h2,h3,h4,_⟩:=run_append_own (P:=P) w base t ty e i z size bytes ht hi hz B6 Cc Ca Cb v n xs ho ⟨g,0,none⟩ m c B5 B9.1 (λj u hj=>by have:=aE B9 hj;by_cases h0:j=0<;>simp[Addr.add,h0]<;>simpa[h0]using this) h1 Cd hb B7;exact⟨u,w',h2,h3,h4⟩
theorem dh{w:World}{ops:Array Oper}{rest:List Oper}{o:Oper}{a:Act}{Q:Exit->Act->World->Prop}(Cd:o.guard=none)(s x:Operand)(t:TypeId)
  (ho:o.op=.call {callee:=.builtin .append,args:=#[s,x],argTypes:=#[t,t]})
  (e:TypeId) (i:TypeInfo) (z:Value) (size bytes base B6:Nat) (ht:P.underlying t=some (.slice e)) (hi:P.info? e=some i) (hz:i.zero=some z) (B7:i.size=size) (Ce:i.bytes=bytes) (B9:z.cells.size=size) (Ca:0<size)
  (v v2:Value) (hs:a.eval s=v) (hx:a.eval x=v2) (n m:Nat) (xs B5:List Value) (Cc:w.ownsRow base e size v n xs) (Cb:w.ownsRow B6 e size v2 m B5) (h1:∀u∈B5,u.oneCell'=true) (Cf:n+m<=maxLen) (hb:(n+m)*bytes<=140737488355328) (B8:base<=w.heap.size)
  (h:∀v' w',w'.ownsRow base e size v' (n+m) (xs++B5)->w.grownBy w' v.ownBlock->wpList P ops Q rest (a.put o.dst v') w'):wpList P ops Q (o::rest) a w:=by
 refine wpList_plain Cd λK hK=>?_
 obtain⟨v',w',hr,h2,h3⟩:=nS (P:=P) w t o.type e i z size bytes base B6 ht hi hz B7 Ce B9 Ca v v2 n m xs B5 Cc Cb h1 Cf hb B8;unfold Oper.wp execOp;simp only[ho,resolve,invoke,builtin,Sem.run_bind,Sem.run_pure,Result.andThen_ok,List.map_toArray,List.map_cons,List.map_nil,hs,hx,hr];exact hK _ _ (h v' w' h2 h3)
end
def bD (drop:Bool) (ms:List ap) (ks:List ax):List ax×List ByteArray:=
 let k1:=if drop then bL ms ks else ks
 let l1:=if drop then co ms 0 ks else []
 let k2:=ak k1 ms
 let l2:=l1++(if k1.length<k2.length then [⟨([42,32,67,79,85,78,84,32]++Lib.itoa (k2.length:Int)).toArray⟩]else [])
 let s:=(ar k2 ms).foldl aW (k2,[])
 (s.1,l2++s.2)
theorem pj(s:List ax×List ByteArray)(p:cw):(aW s p).2.length<=s.2.length+1:=by
 unfold aW
 split
 ·split<;>simp
 ·omega
theorem ic(ps:List cw):∀(s:List ax×List ByteArray),(ps.foldl aW s).2.length<=s.2.length+ps.length:=by
 induction ps with
 |nil=>intro s;simp
 |cons p r ih=>
  intro s;have h1:=ih (aW s p);have h2:=pj s p;simp only[List.foldl_cons,List.length_cons];omega
def lA (B:Nat) (w:World):Prop:=∀W:World,(∀b,b<B->W.heap[b]?=w.heap[b]?)->Env W
theorem lA.step{B:Nat}{w w':World}(h:lA B w)(hb:∀b,b<B->w'.heap[b]?=w.heap[b]?):lA B w':=λW hW=>h W λb hB=>(hW b hB).trans (hb b hB)
theorem aR.low{B A:Nat}{v v':Value}{w w':World}(h:aR A v v' w w')(hA:B<=A)(hw:B<=w.heap.size)(hv:∀b,v.ownBlock=some b->B<=b):∀b,b<B->w'.heap[b]?=w.heap[b]?:=λb hb=>h.but.block b (by omega) (by omega) (λe=>by have:=hv b e;omega)
theorem n8(xs:List ByteArray):∀u∈aJ xs,u.oneCell'=true:=by
 intro u hu;unfold aJ at hu;rw[List.mem_map]at hu;obtain⟨x,_,rfl⟩:=hu
 rfl
theorem dB.step{w w':World}{a:Option Addr}{xs:List ap}(h:dB w a xs)(hb:xs≠[]->∀b off,a=some ⟨b,off,none⟩->w'.heap[b]?=w.heap[b]?):dB w' a xs:=by
 rcases h with h|⟨b,off,h1,h2,h3⟩
 ·exact Or.inl h
 ·by_cases hx:xs=[]
  ·exact Or.inl hx
  ·have he:=hb hx b off h1;refine Or.inr ⟨b,off,h1,?_,λi x hi=>?_⟩
   ·rw[Array.getElem?_eq_getElem h2]at he;exact(alJ.1 he).1
   ·obtain⟨c0,c1,c2,c3,c4⟩:=h3 i x hi;exact⟨(aF ⟨b,off+i*5,none⟩ he).trans c0,(aF ⟨b,off+i*5+1,none⟩ he).trans c1,(aF ⟨b,off+i*5+2,none⟩ he).trans c2,(aF ⟨b,off+i*5+3,none⟩ he).trans c3,(aF ⟨b,off+i*5+4,none⟩ he).trans c4⟩
theorem But.then{K B:Nat}{row:Option Nat}{w w1 w2:World}(h:But K row w w1)(k:Below B w1 w2)(hB:w.heap.size=B):But K row w w2:=by
 subst hB;exact⟨k.os.trans h.os,k.tape.trans h.tape,k.output.trans h.output,alS h.size k.size,λb h1 h2 h3=>(k.block b h1).trans (h.block b h1 h2 h3)⟩
theorem cM.step{w w':World}{A B0:Nat}{v x y:Value}{xs:List ByteArray}(h:cM w B0 v xs)(hs:aR A x y w w')(hA:A<B0)(hx:∀b,v.ownBlock=some b->x.ownBlock≠some b):cM w' B0 v xs:=
 au (λb hb=>hs.but.block b (h.lt b hb).2 (by have:=(h.lt b hb).1;omega) (hx b hb)) h
theorem rz{w:World}{B V G:Nat}{look:Bool}{name Cg:ByteArray}{ep nx:Int}{kv:Value}{a:Option Addr}{cap:Nat}{ks:List ax}{ms:List ap}(h:ce w V G look kv)(ho:dW w B kv ks)(Dj:kv.ownBlock≠some V)(hB:B<=w.heap.size)(C3:B<=V)(hF:bg w G name Cg ep nx (.slice a ms.length cap))(Dt:G≠V)(Ds:kv.ownBlock≠some G)(hm:dB w a ms)(CD:ms≠[]->∀b off,a=some ⟨b,off,none⟩->b≠V/\kv.ownBlock≠some b)(hl:ks.length+ms.length<=1000)(Dl:∀m∈ms,m.flags.length<=1000)(hE:lA B w):
  Calls Tryz.prog 99 #[.pointer (some ⟨V,0,none⟩),.bool false] w λe w'=>∃v CP,e=.returned v/\cM w' w.heap.size v (bD false ms ks).2/\ce w' V G look CP/\dW w' B CP (bD false ms ks).1/\CP.ownBlock≠some V/\aR V kv CP w w':=by
 obtain⟨j0,hj,CY,CX,CW⟩:=alQ cO;have Cy:=h.cells.2.2.2.2;have Dr:=hF.cells.2.2.2.2.2.2;have Cd:aR V kv kv w w:=aR.below (Below.refl _ _);have CA:cM w w.heap.size (.slice none 0 0) []:=alG _ _ _ _;have CG:∀b,(Value.slice none 0 0).ownBlock=some b->kv.ownBlock≠some b:=by intro b hb;cases hb
 have Do:=h;have C0:=ho;have CC:=Dj;have DK:ks.length<=1000:=by omega
 have Cf:([]:List ByteArray).length<=1000:=by simp
 go_enter Tryz.func99,Tryz.ntmps99;go_wp2_with fail;have Dq:∀b,kv.ownBlock=some b->B<=b:=λb hb=>(ho.lt b hb).1
 have DJ:ks.length+ms.length<=1000:=by omega
 have DM:B<=w.heap.size:=by have:=Cd.but.size;omega
 have C6:bg w G name Cg ep nx (.slice a ms.length cap):=(Cd.but.block G Dr Dt Ds).trans hF;have CQ:ms≠[]->∀b off,a=some ⟨b,off,none⟩->b<w.heap.size:=λCa b off hb=>by
  rcases hm with h0|⟨b',DE,e1,e2,_⟩
  ·exact absurd h0 Ca
  ·rw[hb]at e1;injection e1 with e1;injection e1 with e1;omega
 have C5:dB w a ms:=hm.step λCa b off hb=>Cd.but.block b (CQ Ca b off hb) (CD Ca b off hb).1 (CD Ca b off hb).2
 have Cm:ms≠[]->∀b off,a=some ⟨b,off,none⟩->b≠V/\kv.ownBlock≠some b:=λCa b off hb=>⟨(CD Ca b off hb).1,λe=>by
  rcases Cd.row b e with h1|h1
  ·exact(CD Ca b off hb).2 h1
  ·have:=CQ Ca b off hb;omega⟩
 have gI:=kX Do C0 CC DM C6 C5 Cm DJ;have Ch:=hid Cd;have Ct:=hid CA;have Cv:=hid CG;have Dg:=hid C6;have DA:=hid C5;have Cu:=hid Cm;have DR:=hid C0;have HE:=hid hE;have DT:=hid Dq;have Dz:=hid CQ;have DC:=hid Dl;clear Cd CA CG C6 C5 Cm C0 hE Dq hF hm CD h ho Dj Do CC CQ Dl hl;go_wp2_with fail;refine gI.mono ?_;rintro e w2 ⟨rfl,Cl,Dn,C4,CB,B9⟩;clear gI;have DL:=dO ks ms;generalize CF:ak ks ms=B5 at*;have CU:=hid CF;clear CF;have DZ:=B9.but.size;have Cc:aR V kv Cl w w2:=Ch.out.trans B9;have CZ:=Cc.but.size;have hS2:cM w2 w.heap.size (Value.slice none 0 0) ([]:List ByteArray):=Ct.out.step B9 Cy Cv.out;have Cz:∀b,(Value.slice none 0 0).ownBlock=some b->b<w.heap.size:=λb hb=>(Ct.out.lt b hb).2
 have Dy:∀b,(Value.slice none 0 0).ownBlock=some b->Cl.ownBlock≠some b:=λb hb e=>by
  rcases B9.row b e with h1|h1
  ·exact Cv.out b hb h1
  ·have:=Cz b hb;omega
 have Ck:kv.ownBlock≠some G:=λe=>by
  rcases Ch.out.row G e with h1|h1
  ·exact Ds h1
  ·omega
 have Du:=Dg.out.cells.2.2.2.2.2.2;have Dw:bg w2 G name Cg ep nx (.slice a ms.length cap):=(B9.but.block G Du Dt Ck).trans Dg.out;have Dp:dB w2 a ms:=DA.out.step λCa b off hb=>B9.but.block b (alH (Dz.out Ca b off hb) Ch.out.but.size) (Cu.out Ca b off hb).1 (Cu.out Ca b off hb).2
 have Dx:lA B w2:=HE.out.step (Cc.low C3 hB DT.out);have Cj:∀b,Cl.ownBlock=some b->B<=b:=λb hb=>(C4.lt b hb).1
 have CS:=hid Dn;have CM:=hid C4;have CT:=hid CB;have CL:=hid Cc;have Dc:=hid hS2;have CN:=hid Dy;have Df:=hid Dw;have De:=hid Dp;have CV:=hid Dx;have DB:=hid Cj;clear Dn C4 CB Cc hS2 Cz Dy Ck Du Dw Dp Dx Cj B9 Ch Ct Cv Dg DA Cu DR
 by_cases Cw:ks.length<B5.length
 ·rw[decide_eq_true Cw];have CO:Hid ((if ks.length<B5.length then [(⟨([42,32,67,79,85,78,84,32]++Lib.itoa (B5.length:Int)).toArray⟩:ByteArray)]else [])=[(⟨([42,32,67,79,85,78,84,32]++Lib.itoa (B5.length:Int)).toArray⟩:ByteArray)]):=if_pos Cw;clear Cw;obtain⟨qa,qc,DG,_,_,_⟩:=dW.form CM.out;subst DG;have gC:=fF CS.out;go_wp2_with fail;refine gC.mono ?_;rintro e w' ⟨rfl,DX⟩;subst w';clear gC;have gN:=cH (B5.length:Int) (by omega) (by omega) w2 (CV.out w2 λ_ _=>rfl);have DI:(Lib.itoa (B5.length:Int)).length<=1000:=alS (Mb.itoa_len 6 _ (by decide) (by omega) (by have:((10^6:Nat):Int)=1000000:=rfl;omega)) (by decide);obtain⟨bN,DN,CK⟩:=aj (Lib.itoa (B5.length:Int));rw[←DN.out]at gN;obtain⟨ct,HC,kC⟩:=ba Tryz.prog ⟨#[42,32,67,79,85,78,84,32]⟩ bN (by rw[CK.out];simp;omega);have Dh:Hid (ct=⟨([42,32,67,79,85,78,84,32]++Lib.itoa (B5.length:Int)).toArray⟩):=eN (by rw[HC.out,CK.out])
  replace CO:Hid ((if ks.length<B5.length then [(⟨([42,32,67,79,85,78,84,32]++Lib.itoa (B5.length:Int)).toArray⟩:ByteArray)]else [])=[ct]):=by unfold Hid;rw[Dh.out];exact CO.out
  go_wp2_with fail;refine gN.mono ?_;rintro e w3 ⟨rfl,CR⟩;clear gN;have DY:=CR.size;have Di:=hid CR;have Db:=hid (bM Dc.out CR);clear CR;go_wp2_with(at_builtin;refine wpList_append_lies _ rfl (.tmp 11) (.tmp 16) 33 rfl w.heap.size 9 j0 (.string ByteArray.empty) 1 16 Tryz.underlying33 hj CY CX CW rfl (by decide) _ ([]:List ByteArray).length (aJ ([]:List ByteArray)) rfl (Db.out.alloc _) ⟨w3.heap.size,0,none⟩ 1 1 [.string ct] rfl rfl ?c1 ?c2 (by decide) ?c3 ?c4 ?c5 _ rfl ?_)
  case c1=>exact alF (cs:=#[.string ct]) (t:=9) (fr:=(0,0)) (alA w3 _)
  case c2=>intro u hu;simp only[List.mem_cons,List.not_mem_nil,or_false]at hu;subst hu;rfl
  case c3=>unfold maxLen;omega
  case c4=>omega
  case c5=>simp;omega
  intro g gc w4 Ci Cb CH DH;have Cx:Below w.heap.size w2 w4:=((Di.out.mono CZ).alloc (by omega) _).grown Cb (by simp;omega) (bP Db.out);have Cs:Hid (aR V kv (.slice qa B5.length qc) w w4):=⟨CL.out.but.then Cx rfl,CL.out.row⟩;have DO:Hid (ce w4 V G look (.slice qa B5.length qc)):=(Cx.block V Cy).trans CS.out;have Ce:∀b,(Value.slice qa B5.length qc).ownBlock=some b->b<w2.heap.size:=λb hb=>(CM.out.lt b hb).2
  have DQ:Hid (dW w4 B (.slice qa B5.length qc) B5):=au (λb hb=>(Cb.block b (by have:=Ce b hb;simp;omega) (λe=>CN.out b e.symm hb)).trans ((alB w3 _ (by have:=Ce b hb;omega)).trans (Di.out.block b (Ce b hb)))) CM.out;have DU:Hid (bg w4 G name Cg ep nx (.slice a ms.length cap)):=(Cx.block G Dr).trans Df.out;have DS:Hid (dB w4 a ms):=De.out.step λCa b off hb=>Cx.block b (Dz.out Ca b off hb)
  have DV:Hid (lA B w4):=CV.out.step λb hb=>Cx.block b (by omega)
  have DP:Hid (cM w4 w.heap.size (.slice (some ⟨g,0,none⟩) (([]:List ByteArray).length+1) gc) (([]:List ByteArray)++[ct])):=by
   unfold Hid cM;rw[dJ,show(([]:List ByteArray)++[ct]).length=([]:List ByteArray).length+1 by simp];exact Ci
  have DD:Hid (∀b,(Value.slice (some ⟨g,0,none⟩) (([]:List ByteArray).length+1) gc).ownBlock=some b->(Value.slice qa B5.length qc).ownBlock≠some b):=by
   intro b hb Dm;injection hb with hb
   have hb:g=b:=hb;subst hb
   rcases CH with h1|h1
   ·exact CN.out _ h1 Dm
   ·have:=Ce _ Dm;omega
  have DW:w.heap.size<=w4.heap.size:=Cs.out.but.size;clear Ci Cb CH Cx Ce CS CM Df De CV Dc CN CL Di Db kC;have gT:=fL DO.out DQ.out CT.out DU.out DS.out (by omega) (by omega) DC.out (λW hW=>DV.out W (hW.low C3 (by omega) DB.out));go_wp2_with fail;refine gT.mono ?_;rintro e w5 ⟨v3,rfl,CJ,CI,Cp,B8⟩;clear gT;have CE:=ic (ar B5 ms) (B5,[]);have C2:=cA B5 ms;have C1:((ar B5 ms).foldl aW (B5,[])).2.length<=1000:=by simp at CE;omega
  have Co:cM w5 w.heap.size (.slice (some ⟨g,0,none⟩) (([]:List ByteArray).length+1) gc) (([]:List ByteArray)++[ct]):=DP.out.step B8 Cy DD.out;have DF:=B8.but.size;go_wp2_with(at_builtin;refine dh rfl (.tmp 18) (.tmp 20) 33 rfl 9 j0 (.string ByteArray.empty) 1 16 w.heap.size w4.heap.size Tryz.underlying33 hj CY CX CW rfl (by decide) _ _ rfl rfl _ _ _ _ Co CJ (n8 _) ?c6 ?c7 ?c8 ?_)
  case c6=>unfold maxLen;(try simp at Cf⊢);omega
  case c7=>(try simp at Cf⊢);omega
  case c8=>omega
  intro v6 w6 B6 B7;have Cn:Below w.heap.size w5 w6:=((Below.refl _ _)).grown B7 (by omega) (bP Co);have C7:Hid (ce w6 V G look (.slice qa B5.length qc)):=(Cn.block V Cy).trans CI;have Dd:Hid (dW w6 B (.slice qa B5.length qc) ((ar B5 ms).foldl aW (B5,[])).1):=au (λb hb=>B7.block b (Cp.lt b hb).2 (λe=>DD.out b e.symm hb)) Cp;have Cr:Hid (aR V kv (.slice qa B5.length qc) w w6):=⟨(Cs.out.trans B8).but.then Cn rfl,(Cs.out.trans B8).row⟩;have Da:Hid (cM w6 w.heap.size v6 ((([]:List ByteArray)++[ct])++((ar B5 ms).foldl aW (B5,[])).2)):=by
   unfold Hid cM;rw[show aJ ((([]:List ByteArray)++[ct])++((ar B5 ms).foldl aW (B5,[])).2)=aJ (([]:List ByteArray)++[ct])++aJ ((ar B5 ms).foldl aW (B5,[])).2 by simp[aJ]]
   (try simp only[List.length_append]at B6)
   (try simp only[List.length_cons]at B6)
   (try simp only[List.length_nil]at B6)
   (try simp only[Nat.zero_add]at B6)
   (try simp only[List.length_append])
   (try simp only[List.length_cons])
   (try simp only[List.length_nil])
   (try simp only[Nat.zero_add])
   exact B6
  have C9:Hid ((bD false ms ks).1=((ar B5 ms).foldl aW (B5,[])).1):=by
   unfold Hid bD;simp only[Bool.false_eq_true,if_false,CU.out]
  have C8:Hid ((bD false ms ks).2=(([]:List ByteArray)++[ct])++((ar B5 ms).foldl aW (B5,[])).2):=by
   unfold Hid bD;simp only[Bool.false_eq_true,if_false,CU.out,CO.out]
   try simp
  clear B6 B7 Cn CJ CI Cp B8 Co CE C2 C1;go_wp2_with fail;go_ret;rw[C9.out,C8.out];exact⟨v6,(.slice qa B5.length qc),rfl,Da.out,C7.out,Dd.out,CT.out,Cr.out⟩
 ·rw[decide_eq_false Cw];have CO:Hid ((if ks.length<B5.length then [(⟨([42,32,67,79,85,78,84,32]++Lib.itoa (B5.length:Int)).toArray⟩:ByteArray)]else [])=[]):=if_neg Cw;clear Cw;have gT:=fL CS.out CM.out CT.out Df.out De.out (by omega) (by omega) DC.out (λW hW=>CV.out W (hW.low C3 (by omega) DB.out));go_wp2_with fail;refine gT.mono ?_;rintro e w5 ⟨v3,rfl,CJ,CI,Cp,B8⟩;clear gT;have CE:=ic (ar B5 ms) (B5,[]);have C2:=cA B5 ms;have C1:((ar B5 ms).foldl aW (B5,[])).2.length<=1000:=by simp at CE;omega
  have Co:cM w5 w.heap.size (Value.slice none 0 0) ([]:List ByteArray):=Dc.out.step B8 Cy CN.out;have DF:=B8.but.size;go_wp2_with(at_builtin;refine dh rfl (.tmp 18) (.tmp 20) 33 rfl 9 j0 (.string ByteArray.empty) 1 16 w.heap.size w2.heap.size Tryz.underlying33 hj CY CX CW rfl (by decide) _ _ rfl rfl _ _ _ _ Co CJ (n8 _) ?c6 ?c7 ?c8 ?_)
  case c6=>unfold maxLen;(try simp at Cf⊢);omega
  case c7=>(try simp at Cf⊢);omega
  case c8=>omega
  intro v6 w6 B6 B7;have Cn:Below w.heap.size w5 w6:=((Below.refl _ _)).grown B7 (by omega) (bP Co);have C7:Hid (ce w6 V G look Cl):=(Cn.block V Cy).trans CI;have Dd:Hid (dW w6 B Cl ((ar B5 ms).foldl aW (B5,[])).1):=au (λb hb=>B7.block b (Cp.lt b hb).2 (λe=>CN.out b e.symm hb)) Cp;have Cr:Hid (aR V kv Cl w w6):=⟨(CL.out.trans B8).but.then Cn rfl,(CL.out.trans B8).row⟩;have Da:Hid (cM w6 w.heap.size v6 (([]:List ByteArray)++((ar B5 ms).foldl aW (B5,[])).2)):=by
   unfold Hid cM;rw[show aJ (([]:List ByteArray)++((ar B5 ms).foldl aW (B5,[])).2)=aJ ([]:List ByteArray)++aJ ((ar B5 ms).foldl aW (B5,[])).2 by simp[aJ]]
   (try simp only[List.length_append]at B6)
   (try simp only[List.length_cons]at B6)
   (try simp only[List.length_nil]at B6)
   (try simp only[Nat.zero_add]at B6)
   (try simp only[List.length_append])
   (try simp only[List.length_cons])
   (try simp only[List.length_nil])
   (try simp only[Nat.zero_add])
   exact B6
  have C9:Hid ((bD false ms ks).1=((ar B5 ms).foldl aW (B5,[])).1):=by
   unfold Hid bD;simp only[Bool.false_eq_true,if_false,CU.out]
  have C8:Hid ((bD false ms ks).2=([]:List ByteArray)++((ar B5 ms).foldl aW (B5,[])).2):=by
   unfold Hid bD;simp only[Bool.false_eq_true,if_false,CU.out,CO.out]
   try simp
  clear B6 B7 Cn CJ CI Cp B8 Co CE C2 C1;go_wp2_with fail;go_ret;rw[C9.out,C8.out];exact⟨v6,Cl,rfl,Da.out,C7.out,Dd.out,CT.out,Cr.out⟩
theorem sQ{w:World}{B V G:Nat}{look:Bool}{name Ch:ByteArray}{ep nx:Int}{kv:Value}{a:Option Addr}{cap:Nat}{ks:List ax}{ms:List ap}(h:ce w V G look kv)(ho:dW w B kv ks)(DR:kv.ownBlock≠some V)(hB:B<=w.heap.size)(C9:B<=V)(hF:bg w G name Ch ep nx (.slice a ms.length cap))(DC:G≠V)(DB:kv.ownBlock≠some G)(hm:dB w a ms)(CG:ms≠[]->∀b off,a=some ⟨b,off,none⟩->b≠V/\kv.ownBlock≠some b)(hl:ks.length+ms.length<=1000)(Ds:∀m∈ms,m.flags.length<=1000)(hE:lA B w):
  Calls Tryz.prog 99 #[.pointer (some ⟨V,0,none⟩),.bool true] w λe w'=>∃v CT,e=.returned v/\cM w' w.heap.size v (bD true ms ks).2/\ce w' V G look CT/\dW w' B CT (bD true ms ks).1/\CT.ownBlock≠some V/\aR V kv CT w w':=by
 obtain⟨j0,hj,C4,C3,C2⟩:=alQ cO;have CA:=h.cells.2.2.2.2;have DA:=hF.cells.2.2.2.2.2.2;obtain⟨va,vc,DO,_,Dq,_⟩:=dW.form ho;subst DO;have gD:=sf h Dq hF hm (by omega) (by omega) (hE w λ_ _=>rfl);go_enter Tryz.func99,Tryz.ntmps99;go_wp2_with fail;refine gD.mono ?_;rintro e w1 ⟨vl,CB,rfl,CD,Dw,CU,CJ,CK⟩;clear gD;have Ce:aR V (Value.slice va ks.length vc) CB w w1:=⟨But.row _ CK,λb hb=>Or.inr (CU.lt b hb).1⟩;have CF:CB.ownBlock≠some V:=λe=>by have:=(CU.lt V e).1;omega
 have C6:dW w1 B CB (bL ms ks):=io CU hB;have DV:=sL ms ks;have Cg:(co ms 0 ks).length<=1000:=by have:=ig ms ks 0;omega
 clear CU CK Dq;generalize Dr:bL ms ks=Cn at*;generalize Dz:co ms 0 ks=B9 at*;have C0:=hid Dr;have DJ:=hid Dz;clear Dr Dz;have Dy:∀b,(Value.slice va ks.length vc).ownBlock=some b->B<=b:=λb hb=>(ho.lt b hb).1
 have DU:Cn.length+ms.length<=1000:=by omega
 have DX:B<=w1.heap.size:=by have:=Ce.but.size;omega
 have Dc:bg w1 G name Ch ep nx (.slice a ms.length cap):=(Ce.but.block G DA DC DB).trans hF;have CV:ms≠[]->∀b off,a=some ⟨b,off,none⟩->b<w.heap.size:=λCb b off hb=>by
  rcases hm with h0|⟨b',DN,e1,e2,_⟩
  ·exact absurd h0 Cb
  ·rw[hb]at e1;injection e1 with e1;injection e1 with e1;omega
 have Db:dB w1 a ms:=hm.step λCb b off hb=>Ce.but.block b (CV Cb b off hb) (CG Cb b off hb).1 (CG Cb b off hb).2
 have Co:ms≠[]->∀b off,a=some ⟨b,off,none⟩->b≠V/\CB.ownBlock≠some b:=λCb b off hb=>⟨(CG Cb b off hb).1,λe=>by
  rcases Ce.row b e with h1|h1
  ·exact(CG Cb b off hb).2 h1
  ·have:=CV Cb b off hb;omega⟩
 have gI:=kX Dw C6 CF DX Dc Db Co DU;have Ci:=hid Ce;have Cv:=hid CD;have Cx:=hid CJ;have Dn:=hid Dc;have DI:=hid Db;have Cw:=hid Co;have D2:=hid C6;have HE:=hid hE;have D4:=hid Dy;have DH:=hid CV;have DL:=hid Ds;clear Ce CD CJ Dc Db Co C6 hE Dy hF hm CG h ho DR Dw CF CV Ds hl;go_wp2_with fail;refine gI.mono ?_;rintro e w2 ⟨rfl,Cm,Du,Da,CE,Ca⟩;clear gI;have DW:=dO Cn ms;generalize CI:ak Cn ms=B5 at*;have CZ:=hid CI;clear CI;have Ea:=Ca.but.size;have Cd:aR V (Value.slice va ks.length vc) Cm w w2:=Ci.out.trans Ca;have C5:=Cd.but.size;have hS2:cM w2 w.heap.size vl B9:=Cv.out.step Ca CA Cx.out;have CC:∀b,vl.ownBlock=some b->b<w1.heap.size:=λb hb=>(Cv.out.lt b hb).2
 have DG:∀b,vl.ownBlock=some b->Cm.ownBlock≠some b:=λb hb e=>by
  rcases Ca.row b e with h1|h1
  ·exact Cx.out b hb h1
  ·have:=CC b hb;omega
 have Cl:CB.ownBlock≠some G:=λe=>by
  rcases Ci.out.row G e with h1|h1
  ·exact DB h1
  ·omega
 have DD:=Dn.out.cells.2.2.2.2.2.2;have DE:bg w2 G name Ch ep nx (.slice a ms.length cap):=(Ca.but.block G DD DC Cl).trans Dn.out;have Dx:dB w2 a ms:=DI.out.step λCb b off hb=>Ca.but.block b (alH (DH.out Cb b off hb) Ci.out.but.size) (Cw.out Cb b off hb).1 (Cw.out Cb b off hb).2
 have DF:lA B w2:=HE.out.step (Cd.low C9 hB D4.out);have Ck:∀b,Cm.ownBlock=some b->B<=b:=λb hb=>(Da.lt b hb).1
 have CX:=hid Du;have CQ:=hid Da;have CY:=hid CE;have CP:=hid Cd;have Di:=hid hS2;have CR:=hid DG;have Dm:=hid DE;have Dl:=hid Dx;have C1:=hid DF;have DK:=hid Ck;clear Du Da CE Cd hS2 CC DG Cl DD DE Dx DF Ck Ca Ci Cv Cx Dn DI Cw D2
 by_cases Cy:Cn.length<B5.length
 ·rw[decide_eq_true Cy];have CS:Hid ((if Cn.length<B5.length then [(⟨([42,32,67,79,85,78,84,32]++Lib.itoa (B5.length:Int)).toArray⟩:ByteArray)]else [])=[(⟨([42,32,67,79,85,78,84,32]++Lib.itoa (B5.length:Int)).toArray⟩:ByteArray)]):=if_pos Cy;clear Cy;obtain⟨qa,qc,DQ,_,_,_⟩:=dW.form CQ.out;subst DQ;have gC:=fF CX.out;go_wp2_with fail;refine gC.mono ?_;rintro e w' ⟨rfl,D8⟩;subst w';clear gC;have gN:=cH (B5.length:Int) (by omega) (by omega) w2 (C1.out w2 λ_ _=>rfl);have DT:(Lib.itoa (B5.length:Int)).length<=1000:=alS (Mb.itoa_len 6 _ (by decide) (by omega) (by have:((10^6:Nat):Int)=1000000:=rfl;omega)) (by decide);obtain⟨bN,DY,CO⟩:=aj (Lib.itoa (B5.length:Int));rw[←DY.out]at gN;obtain⟨ct,HC,kC⟩:=ba Tryz.prog ⟨#[42,32,67,79,85,78,84,32]⟩ bN (by rw[CO.out];simp;omega);have Do:Hid (ct=⟨([42,32,67,79,85,78,84,32]++Lib.itoa (B5.length:Int)).toArray⟩):=eN (by rw[HC.out,CO.out])
  replace CS:Hid ((if Cn.length<B5.length then [(⟨([42,32,67,79,85,78,84,32]++Lib.itoa (B5.length:Int)).toArray⟩:ByteArray)]else [])=[ct]):=by unfold Hid;rw[Do.out];exact CS.out
  go_wp2_with fail;refine gN.mono ?_;rintro e w3 ⟨rfl,CW⟩;clear gN;have D9:=CW.size;have Dp:=hid CW;have Dh:=hid (bM Di.out CW);clear CW;go_wp2_with(at_builtin;refine wpList_append_lies _ rfl (.tmp 11) (.tmp 16) 33 rfl w.heap.size 9 j0 (.string ByteArray.empty) 1 16 Tryz.underlying33 hj C4 C3 C2 rfl (by decide) _ B9.length (aJ B9) rfl (Dh.out.alloc _) ⟨w3.heap.size,0,none⟩ 1 1 [.string ct] rfl rfl ?c1 ?c2 (by decide) ?c3 ?c4 ?c5 _ rfl ?_)
  case c1=>exact alF (cs:=#[.string ct]) (t:=9) (fr:=(0,0)) (alA w3 _)
  case c2=>intro u hu;simp only[List.mem_cons,List.not_mem_nil,or_false]at hu;subst hu;rfl
  case c3=>unfold maxLen;omega
  case c4=>omega
  case c5=>simp;omega
  intro g gc w4 Cj Cc CL DS;have Cz:Below w.heap.size w2 w4:=((Dp.out.mono C5).alloc (by omega) _).grown Cc (by simp;omega) (bP Dh.out);have Cu:Hid (aR V (Value.slice va ks.length vc) (.slice qa B5.length qc) w w4):=⟨CP.out.but.then Cz rfl,CP.out.row⟩;have DZ:Hid (ce w4 V G look (.slice qa B5.length qc)):=(Cz.block V CA).trans CX.out;have Cf:∀b,(Value.slice qa B5.length qc).ownBlock=some b->b<w2.heap.size:=λb hb=>(CQ.out.lt b hb).2
  have D1:Hid (dW w4 B (.slice qa B5.length qc) B5):=au (λb hb=>(Cc.block b (by have:=Cf b hb;simp;omega) (λe=>CR.out b e.symm hb)).trans ((alB w3 _ (by have:=Cf b hb;omega)).trans (Dp.out.block b (Cf b hb)))) CQ.out;have D5:Hid (bg w4 G name Ch ep nx (.slice a ms.length cap)):=(Cz.block G DA).trans Dm.out;have D3:Hid (dB w4 a ms):=Dl.out.step λCb b off hb=>Cz.block b (DH.out Cb b off hb)
  have D6:Hid (lA B w4):=C1.out.step λb hb=>Cz.block b (by omega)
  have D0:Hid (cM w4 w.heap.size (.slice (some ⟨g,0,none⟩) (B9.length+1) gc) (B9++[ct])):=by
   unfold Hid cM;rw[dJ,show(B9++[ct]).length=B9.length+1 by simp];exact Cj
  have DM:Hid (∀b,(Value.slice (some ⟨g,0,none⟩) (B9.length+1) gc).ownBlock=some b->(Value.slice qa B5.length qc).ownBlock≠some b):=by
   intro b hb Dt;injection hb with hb
   have hb:g=b:=hb;subst hb
   rcases CL with h1|h1
   ·exact CR.out _ h1 Dt
   ·have:=Cf _ Dt;omega
  have D7:w.heap.size<=w4.heap.size:=Cu.out.but.size;clear Cj Cc CL Cz Cf CX CQ Dm Dl C1 Di CR CP Dp Dh kC;have gT:=fL DZ.out D1.out CY.out D5.out D3.out (by omega) (by omega) DL.out (λW hW=>D6.out W (hW.low C9 (by omega) DK.out));go_wp2_with fail;refine gT.mono ?_;rintro e w5 ⟨v3,rfl,CN,CM,Cs,B8⟩;clear gT;have CH:=ic (ar B5 ms) (B5,[]);have C8:=cA B5 ms;have C7:((ar B5 ms).foldl aW (B5,[])).2.length<=1000:=by simp at CH;omega
  have Cr:cM w5 w.heap.size (.slice (some ⟨g,0,none⟩) (B9.length+1) gc) (B9++[ct]):=D0.out.step B8 CA DM.out;have DP:=B8.but.size;go_wp2_with(at_builtin;refine dh rfl (.tmp 18) (.tmp 20) 33 rfl 9 j0 (.string ByteArray.empty) 1 16 w.heap.size w4.heap.size Tryz.underlying33 hj C4 C3 C2 rfl (by decide) _ _ rfl rfl _ _ _ _ Cr CN (n8 _) ?c6 ?c7 ?c8 ?_)
  case c6=>unfold maxLen;(try simp at Cg⊢);omega
  case c7=>(try simp at Cg⊢);omega
  case c8=>omega
  intro v6 w6 B6 B7;have Cp:Below w.heap.size w5 w6:=((Below.refl _ _)).grown B7 (by omega) (bP Cr);have Dd:Hid (ce w6 V G look (.slice qa B5.length qc)):=(Cp.block V CA).trans CM;have Dj:Hid (dW w6 B (.slice qa B5.length qc) ((ar B5 ms).foldl aW (B5,[])).1):=au (λb hb=>B7.block b (Cs.lt b hb).2 (λe=>DM.out b e.symm hb)) Cs;have Ct:Hid (aR V (Value.slice va ks.length vc) (.slice qa B5.length qc) w w6):=⟨(Cu.out.trans B8).but.then Cp rfl,(Cu.out.trans B8).row⟩;have Dg:Hid (cM w6 w.heap.size v6 ((B9++[ct])++((ar B5 ms).foldl aW (B5,[])).2)):=by
   unfold Hid cM;rw[show aJ ((B9++[ct])++((ar B5 ms).foldl aW (B5,[])).2)=aJ (B9++[ct])++aJ ((ar B5 ms).foldl aW (B5,[])).2 by simp[aJ]]
   (try simp only[List.length_append]at B6)
   (try simp only[List.length_cons]at B6)
   (try simp only[List.length_nil]at B6)
   (try simp only[Nat.zero_add]at B6)
   (try simp only[List.length_append])
   (try simp only[List.length_cons])
   (try simp only[List.length_nil])
   (try simp only[Nat.zero_add])
   exact B6
  have Df:Hid ((bD true ms ks).1=((ar B5 ms).foldl aW (B5,[])).1):=by
   unfold Hid bD;simp only[if_true,C0.out,CZ.out]
  have De:Hid ((bD true ms ks).2=(B9++[ct])++((ar B5 ms).foldl aW (B5,[])).2):=by
   unfold Hid bD;simp only[if_true,C0.out,DJ.out,CZ.out,CS.out]
   try simp
  clear B6 B7 Cp CN CM Cs B8 Cr CH C8 C7;go_wp2_with fail;go_ret;rw[Df.out,De.out];exact⟨v6,(.slice qa B5.length qc),rfl,Dg.out,Dd.out,Dj.out,CY.out,Ct.out⟩
 ·rw[decide_eq_false Cy];have CS:Hid ((if Cn.length<B5.length then [(⟨([42,32,67,79,85,78,84,32]++Lib.itoa (B5.length:Int)).toArray⟩:ByteArray)]else [])=[]):=if_neg Cy;clear Cy;have gT:=fL CX.out CQ.out CY.out Dm.out Dl.out (by omega) (by omega) DL.out (λW hW=>C1.out W (hW.low C9 (by omega) DK.out));go_wp2_with fail;refine gT.mono ?_;rintro e w5 ⟨v3,rfl,CN,CM,Cs,B8⟩;clear gT;have CH:=ic (ar B5 ms) (B5,[]);have C8:=cA B5 ms;have C7:((ar B5 ms).foldl aW (B5,[])).2.length<=1000:=by simp at CH;omega
  have Cr:cM w5 w.heap.size vl B9:=Di.out.step B8 CA CR.out;have DP:=B8.but.size;go_wp2_with(at_builtin;refine dh rfl (.tmp 18) (.tmp 20) 33 rfl 9 j0 (.string ByteArray.empty) 1 16 w.heap.size w2.heap.size Tryz.underlying33 hj C4 C3 C2 rfl (by decide) _ _ rfl rfl _ _ _ _ Cr CN (n8 _) ?c6 ?c7 ?c8 ?_)
  case c6=>unfold maxLen;(try simp at Cg⊢);omega
  case c7=>(try simp at Cg⊢);omega
  case c8=>omega
  intro v6 w6 B6 B7;have Cp:Below w.heap.size w5 w6:=((Below.refl _ _)).grown B7 (by omega) (bP Cr);have Dd:Hid (ce w6 V G look Cm):=(Cp.block V CA).trans CM;have Dj:Hid (dW w6 B Cm ((ar B5 ms).foldl aW (B5,[])).1):=au (λb hb=>B7.block b (Cs.lt b hb).2 (λe=>CR.out b e.symm hb)) Cs;have Ct:Hid (aR V (Value.slice va ks.length vc) Cm w w6):=⟨(CP.out.trans B8).but.then Cp rfl,(CP.out.trans B8).row⟩;have Dg:Hid (cM w6 w.heap.size v6 (B9++((ar B5 ms).foldl aW (B5,[])).2)):=by
   unfold Hid cM;rw[show aJ (B9++((ar B5 ms).foldl aW (B5,[])).2)=aJ B9++aJ ((ar B5 ms).foldl aW (B5,[])).2 by simp[aJ]]
   (try simp only[List.length_append]at B6)
   (try simp only[List.length_cons]at B6)
   (try simp only[List.length_nil]at B6)
   (try simp only[Nat.zero_add]at B6)
   (try simp only[List.length_append])
   (try simp only[List.length_cons])
   (try simp only[List.length_nil])
   (try simp only[Nat.zero_add])
   exact B6
  have Df:Hid ((bD true ms ks).1=((ar B5 ms).foldl aW (B5,[])).1):=by
   unfold Hid bD;simp only[if_true,C0.out,CZ.out]
  have De:Hid ((bD true ms ks).2=B9++((ar B5 ms).foldl aW (B5,[])).2):=by
   unfold Hid bD;simp only[if_true,C0.out,DJ.out,CZ.out,CS.out]
   try simp
  clear B6 B7 Cp CN CM Cs B8 Cr CH C8 C7;go_wp2_with fail;go_ret;rw[Df.out,De.out];exact⟨v6,Cm,rfl,Dg.out,Dd.out,Dj.out,CY.out,Ct.out⟩
end Go.Proofs.YtbeahecjbokjjaaGreatDoor
