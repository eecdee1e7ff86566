import Derived.Test.YtlbcgmlhaeeoeaaGreatDoorQ25
set_option maxRecDepth 100000
set_option maxHeartbeats 16000000
namespace Go.Proofs.YtlbcgmlhaeeoeaaGreatDoor
open Go.RowKit Go.Lib
def aV (s:List aQ×List ByteArray) (p:di):List aQ×List ByteArray:=
 match s.1[(p.place-1).toNat]? with
 |some k=>if k.told=p.m.flags then s else(s.1.set (p.place-1).toNat ⟨k.uid,p.m.flags⟩,s.2++[⟨(dM p.place ([70,76,65,71,83,32]++Mb.tell p.m.flags)).toArray⟩])
 |none=>s
theorem oo(ks:List aQ)(ms:List al):∀p∈aG ks ms,1<=p.place/\p.place<=(ks.length:Int)/\p.m∈ms:=by
 intro p hp;unfold aG at hp;rw[List.mem_filterMap]at hp;obtain⟨x,B1,hx⟩:=hp;have B3:=List.snd_lt_of_mem_zipIdx B1
 cases h:bj x.1.uid ms with
 |none=>rw[h]at hx;cases hx
 |some m=>
  rw[h]at hx;simp at hx;subst hx;exact⟨by simp;omega,by simp;omega,List.mem_of_find?_eq_some h⟩
theorem nX:∀(xs:List aQ) (i:Nat) (k:aQ) (f:List UInt8),xs[i]?=some k->(dD xs).set (i*2+1) (.string ⟨f.toArray⟩)=dD (xs.set i ⟨k.uid,f⟩)
 |[],i,k,f,h=>by simp at h
 |y::r,0,k,f,h=>by simp at h;subst h;simp[dD]
 |y::r,i+1,k,f,h=>by
  have:=nX r i k f (by simpa using h);simp only[dD]at this;rw[show(i+1)*2+1=i*2+1+1+1 by omega];simp[dD,this]
theorem But.setRow{K g o:Nat}{row:Option Nat}{w w1:World}(h:But K row w w1)(hr:row=some g)(u:Value):But K row w (w1.setCell ⟨g,o,none⟩ u):=by
 have hb:=(Below.refl 0 w1).setCell (p:=⟨g,o,none⟩) (alT _) u;refine⟨hb.os.trans h.os,hb.tape.trans h.tape,hb.output.trans h.output,by simpa using h.size,λb h1 h2 h3=>(alP _ _ _ _ ?_).trans (h.block b h1 h2 h3)⟩;rintro rfl;exact h3 hr
theorem yb:jb Tryz.prog 113 9 1 16:=by
 obtain⟨i,h1,h2,h3,h4⟩:=alQ eV;exact⟨i,_,Tryz.underlying113,h1,h2,h3,h4,rfl⟩
theorem uL{b:ByteArray}{w:World}:(Instr.buildSlice 113 1 #[(0,.string b)]).run Tryz.prog w=.ok (.slice (some ⟨w.heap.size,0,none⟩) 1 1) (w.alloc (.cells #[.string b] 9)):=by
 go_simp
theorem fR{w:World}{B V G:Nat}{look:Bool}{name Ct:ByteArray}{ep nx:Int}{kv:Value}{a:Option Addr}{cap:Nat}{ks:List aQ}{ms:List al}(h:cD w V G look kv)(ho:ew w B kv ks)(CC:kv.ownBlock≠some V)(hF:bw w G name Ct ep nx (.slice a ms.length cap))(hm:dU w a ms)(hl:ms.length<=1000)(CY:ks.length<=1000)(CG:∀m∈ms,m.flags.length<=1000)(hE:∀W,aO V kv kv w W->Env W):
  Calls Tryz.prog 207 #[.pointer (some ⟨V,0,none⟩)] w λe w'=>∃v,e=.returned v/\fd w' w.heap.size v ((aG ks ms).foldl aV (ks,[])).2/\cD w' V G look kv/\ew w' B kv ((aG ks ms).foldl aV (ks,[])).1/\aO V kv kv w w':=by
 obtain⟨va,vc,CR,_,CE,_⟩:=ew.form ho;subst CR;obtain⟨j0,hj,Dq,Dp,Do⟩:=alQ eV;have gT:=q8 h CE hF hm hl CY;have C5:=h.cells.2.2.2.2;have HV:=hid h;have HO:=hid ho;have Dm:=hid CC;have HE:=hid hE;clear h ho CC hF hm hE CE;go_enter Tryz.func207,Tryz.ntmps207;go_wp2_with fail;refine gT.mono ?_;rintro e w1 ⟨⟨v1,rfl,CB⟩,B9⟩;clear gT;obtain⟨pa,pcap,rfl,_,Cg,CA⟩:=pZ.form CB;have CU:=B9.size;have Df:Hid (∀p∈aG ks ms,1<=p.place/\p.place<=(ks.length:Int)/\p.m.flags.length<=1000):=λp hp=>let h:=oo ks ms p hp;⟨h.1,h.2.1,CG _ h.2.2⟩
 have Dv:=ee ks ms;have CP:=hid B9;have Dh:=hid Cg;have Dg:=hid CA;have Da:Hid (cD w1 V G look (.slice va ks.length vc)):=(B9.block V C5).trans HV.out;have Dj:Hid (ew w1 B (.slice va ks.length vc) ks):=bQ HO.out B9;have CD:∀b,(Value.slice va ks.length vc).ownBlock=some b->b<w.heap.size:=λb hb=>(HO.out.lt b hb).2
 have CL:=hid CD;clear B9 Cg CA CB CG CD;generalize Cz:aG ks ms=ps at*;have De:=hid Cz;clear Cz;go_wp2_with fail;go_loopw [3,10] (λvl i wr=>∃(k n:Nat) (zs:List aQ) (ys:List ByteArray),k<=ps.length/\n<=k/\i=.int .i64 k/\Hid (zs.length=ks.length/\ys.length=n/\(ps.take k).foldl aV (ks,[])=(zs,ys))/\Hid (cD wr V G look (.slice va ks.length vc))/\Hid (wr.ownsRow B 346 2 (.slice va ks.length vc) ks.length (dD zs))/\Hid (wr.ownsRow w1.heap.size 9 1 vl n (bD ys))/\Hid (aO V (.slice va ks.length vc) (.slice va ks.length vc) w1 wr)) (λ_ i _=>ps.length-(RowKit.intOf i).toNat)
 case atStart=>exact⟨0,0,ks,[],alT _,alT _,rfl,⟨rfl,rfl,rfl⟩,Da,Dj,alG _ _ _ _,aO.below (Below.refl _ _)⟩
 case round=>
  obtain⟨k,n,zs,ys,hk,hn,rfl,HY,hV,hO,hL,Cf⟩:=hrel;have Ds:=Cf.out.but.size
  by_cases B8:k<ps.length
  ·obtain⟨b,off,ha,hb,hc⟩:∃b off,pa=some ⟨b,off,none⟩/\b<w1.heap.size/\un w1 b off ps:=by
    rcases Dh.out with hz|hz
    ·rw[hz]at B8;simp at B8
    ·exact hz
   subst ha;have Dw:=(Dg.out b off rfl).1;have B6:∀o,wr.cell? ⟨b,o,none⟩=w1.cell? ⟨b,o,none⟩:=λo=>aC ⟨b,o,none⟩ (Cf.out.but.block b hb (by omega) (λe=>by have:=CL.out b e;omega))
   obtain⟨c0,c1,c2,c3,c4,c5⟩:=hc k ps[k] (by simp[B8]);have d0:=(B6 (off+k*6)).trans c0;have d1:=(B6 (off+k*6+1)).trans c1;have d2:=(B6 (off+k*6+2)).trans c2;have d3:=(B6 (off+k*6+3)).trans c3;have d4:=(B6 (off+k*6+4)).trans c4;have d5:=(B6 (off+k*6+5)).trans c5;have hI:∀w,(Instr.indexAt 331 (.slice (some ⟨b,off,none⟩) ps.length pcap) (.int .i64 (k:Int))).run Tryz.prog w=.ok (.pointer (some ⟨b,off+k*6,none⟩)) w:=λw=>ma B8
   have HT:Hid ((ps.take (k+1)).foldl aV (ks,[])=aV (zs,ys) ps[k]):=by
    unfold Hid;rw[alL B8,List.foldl_append,HY.out.2.2]
    rfl
   obtain⟨Cg,CW,CV⟩:=Df.out _ (List.getElem_mem B8);generalize ps[k]=p at*;obtain⟨pl,⟨mk,mu,f,cm,tx⟩⟩:=p;simp only at d0 d1 d2 d3 d4 d5 HT Cg CW CV;obtain⟨bf,Cd,Cc⟩:=ai f;rw[←Cd.out]at d3;generalize(⟨cm.toArray⟩:ByteArray)=b3 at*;generalize(⟨tx.toArray⟩:ByteArray)=b4 at*;obtain⟨i,rfl⟩:∃i:Nat,pl=(i:Int)+1:=⟨(pl-1).toNat,by omega⟩;have CF:i<ks.length:=by omega
   have Ch:i<zs.length:=by rw[HY.out.1];exact CF
   have CS:((i:Int)+1-1).toNat=i:=by omega
   obtain⟨kg,rfl⟩:∃kg,va=some ⟨kg,0,none⟩:=by
    obtain⟨kg,CQ,e,_⟩:=hO.out.form (by omega);injection e with e
    exact⟨kg,e⟩
   have CZ:kg<w.heap.size:=CL.out kg rfl;have Co:kg≠V:=λe=>Dm.out (by rw[e];rfl)
   obtain⟨bt,CN,Cy⟩:=ai zs[i].told;have t1:wr.cell? ⟨kg,i*2+1,none⟩=some (.string bt):=by rw[CN.out];exact aE hO.out (gl _ _ _ (by simp[Ch])).2
   have Ca:Hid (aV (zs,ys) ⟨(i:Int)+1,⟨mk,mu,f,cm,tx⟩⟩=if zs[i].told=f then(zs,ys)else(zs.set i ⟨zs[i].uid,f⟩,ys++[⟨(dM ((i:Int)+1) ([70,76,65,71,83,32]++Mb.tell f)).toArray⟩])):=by
    unfold Hid aV;simp only[CS];rw[show zs[i]?=some zs[i]by simp[Ch]]
   have HZ:Hid (zs[i]?=some zs[i]):=by unfold Hid;simp[Ch]
   have hX:(wr.alloc (.cells #[.int .i64 ((i:Int)+1),.int .i64 mk,.int .i64 mu,.string bf,.string b3,.string b4] 335)).heap[wr.heap.size]?=some (.cells #[.int .i64 ((i:Int)+1),.int .i64 mk,.int .i64 mu,.string bf,.string b3,.string b4] 335 (0,0)):=alA wr _;have CH:Below wr.heap.size wr (wr.alloc (.cells #[.int .i64 ((i:Int)+1),.int .i64 mk,.int .i64 mu,.string bf,.string b3,.string b4] 335)):=ax;have Dt:(wr.alloc (.cells #[.int .i64 ((i:Int)+1),.int .i64 mk,.int .i64 mu,.string bf,.string b3,.string b4] 335)).heap.size=wr.heap.size+1:=by simp
   have HX:=hid hX;have Ce:=hid CH;have T1:=hid t1;clear c0 c1 c2 c3 c4 c5 hc B6 hX CH t1;go_wp2_with fail;clear d0 d1 d2 d3 d4 d5 hI;generalize(wr.alloc (.cells #[.int .i64 ((i:Int)+1),.int .i64 mk,.int .i64 mu,.string bf,.string b3,.string b4] 335))=w2 at*;have Cn:kg<wr.heap.size:=by omega
   have Cs:cD w2 V G look (.slice (some ⟨kg,0,none⟩) ks.length vc):=(Ce.out.block V (by omega)).trans hV.out;have Cj:=hid (bQ hO.out Ce.out);have Cx:=hid (bQ hL.out Ce.out);have Cv:Hid (aO V (.slice (some ⟨kg,0,none⟩) ks.length vc) (.slice (some ⟨kg,0,none⟩) ks.length vc) w1 w2):=Cf.out.trans (aO.below Ce.out);have T2:Hid (w2.cell? ⟨kg,i*2+1,none⟩=some (.string bt)):=(Ce.out.cell (p:=⟨kg,i*2+1,none⟩) Cn).trans T1.out;have Cu:=hid Cs;have Db:Hid (∀b,u3.ownBlock=some b->b<wr.heap.size):=λb hb=>(hL.out.lt b hb).2
   generalize wr.heap.size=X at*;have C6:∀w,(Instr.indexAt 337 (.slice (some ⟨kg,0,none⟩) ks.length vc) (.int .i64 (i:Int))).run Tryz.prog w=.ok (.pointer (some ⟨kg,i*2,none⟩)) w:=λw=>by have:=mw (g:=kg) (off:=0) (cap:=vc) (w:=w) CF;rwa [Nat.zero_add]at this
   have s0:w2.drew.cell? ⟨V,2,none⟩=some (.slice (some ⟨kg,0,none⟩) ks.length vc):=Cs.cells.2.2.1;have s1:w2.drew.cell? ⟨X,0,none⟩=some (.int .i64 ((i:Int)+1)):=ae (o:=0) HX.out rfl;have Ck:IntKind.i64.wrap (i:Int)=i:=by rw[IntKind.wrap_i64];omega
   clear Cs;refine aA 8 (λw':World=>w'.cell? ⟨V,2,none⟩=some (.slice (some ⟨kg,0,none⟩) ks.length vc)/\w'.cell? ⟨X,0,none⟩=some (.int .i64 ((i:Int)+1))) 9 rfl (by kernel_rfl) ⟨s0,s1⟩ (λa' Q hA hQ hP hS=>?_);have z:a'.tmps.size=50:=by rw[hA.out];rfl
   have e0:a'.eval (.tmp 0)=Value.pointer (some ⟨V,0,none⟩):=by rw[hA.out];rfl
   have e5:a'.eval (.tmp 5)=Value.pointer (some ⟨X,0,none⟩):=by rw[hA.out];rfl
   refine tkA 0 (some 14) rfl rfl hP (λwx hw=>ah rfl e0) hS ?_;refine tkA 1 (some 15) rfl rfl hP (λwx hw=>aS rfl (evz z)) hS ?_;refine tkA 2 (some 16) rfl rfl hP (λwx hw=>aj ⟨V,2,none⟩ rfl (evz (szq z))) hS ?_;refine tkA 3 (some 17) rfl rfl hP (λwx hw=>aq rfl (evz (sz2 z)) (aH hw.1)) hS ?_;refine tkA 4 (some 18) rfl rfl hP (λwx hw=>aj ⟨X,0,none⟩ rfl (ev4 e5)) hS ?_;refine tkA 5 (some 19) rfl rfl hP (λwx hw=>aq rfl (evz (sz4 z)) (aH hw.2)) hS ?_;refine tkA 6 (some 20) rfl rfl hP (λwx hw=>bA (v:=.int .i64 (i:Int)) rfl (evz (sz4 (szq z))) rfl (by go_simp;try exact Ck)) hS ?_;refine tkA 7 (some 21) rfl rfl hP (λwx hw=>bJ (v:=.pointer (some ⟨kg,i*2,none⟩)) rfl (ev2 (ev1 (evz (sz2 (szq z))))) (evz (sz4 (sz2 z))) (C6 _)) hS ?_;refine bz (i:=8) (d:=some 6) (by kernel_rfl) rfl rfl rfl (aR rfl (evz (sz4 (sz2 (szq z))))) (λ_=>hS) ?_;refine aB (by kernel_rfl) (hQ.out _ _ ?_) _;rw[hA.out];simp only[Act.put,List.setIfInBounds_toArray];dsimp only[List.set];clear hQ hP hA z hS Q a' e0 e5 s0 s1;go_wp2_with fail;have s2:w2.drew.drew.cell? ⟨kg,i*2+1,none⟩=some (.string bt):=T2.out;have s3:w2.drew.drew.cell? ⟨X,3,none⟩=some (.string bf):=ae (o:=3) HX.out rfl
   by_cases he:zs[i].told=f
   ·have Cq:∀w,(do eqGuard BinOp.neq 9 (.tmp 25) (.tmp 28) (.string bt) (.string bf);binOp BinOp.neq 9 (.string bt) (.string bf):Sem Value).run Tryz.prog w=.ok (.bool false) w:=by
     intro w;have hb:bt=bf:=by rw[CN.out,Cd.out,he]
     subst hb;go_simp
    refine bX [] (λw':World=>w'.cell? ⟨kg,i*2+1,none⟩=some (.string bt)/\w'.cell? ⟨X,3,none⟩=some (.string bf)) 8 rfl (by kernel_rfl) ⟨s2,s3⟩ (λa' Q hA hQ hP hS=>?_);have z:a'.tmps.size=50:=by rw[hA.out];rfl
    have e6:a'.eval (.tmp 6)=Value.pointer (some ⟨kg,i*2,none⟩):=by rw[hA.out];rfl
    have e5:a'.eval (.tmp 5)=Value.pointer (some ⟨X,0,none⟩):=by rw[hA.out];rfl
    refine aU 0 (some 22) rfl rfl hP (af rfl) (λwx=>ah rfl e6) hS ?_;refine aU 1 (some 23) rfl rfl hP (af rfl) (λwx=>aS rfl (evz z)) hS ?_;refine aU 2 (some 24) rfl rfl hP (af rfl) (λwx=>aj ⟨kg,i*2+1,none⟩ rfl (evz (szq z))) hS ?_;refine ft 3 (some 25) rfl rfl hP (af rfl) (λwx hw=>aq rfl (evz (sz2 z)) (aH hw.1)) hS ?_;refine aU 4 (some 26) rfl rfl hP (af rfl) (λwx=>aj ⟨X,1,none⟩ rfl (ev4 e5)) hS ?_;refine aU 5 (some 27) rfl rfl hP (af rfl) (λwx=>aj ⟨X,3,none⟩ rfl (evz (sz4 z))) hS ?_;refine ft 6 (some 28) rfl rfl hP (af rfl) (λwx hw=>aq rfl (evz (sz4 (szq z))) (aH hw.2)) hS ?_;refine dN (i:=7) (d:=some 29) (by kernel_rfl) rfl rfl (af rfl) (bA (v:=.bool false) rfl (ev2 (ev1 (evz (sz2 (szq z))))) (evz (sz4 (sz2 z))) (Cq _)) (λ_=>hS) ?_;refine bW (by kernel_rfl) (hQ.out _ _ ?_) _;rw[hA.out];simp only[Act.put,List.setIfInBounds_toArray];dsimp only[List.set];clear hQ hP hA z hS Q a' e6 e5 s2 s3;go_wp2_with fail;rw[if_pos he]at Ca;refine⟨⟨k+1,n,zs,ys,by omega,by omega,by simp,?_,Cu,Cj,Cx,Cv.out.trans (aO.below (((Below.refl _ w2).drew).drew))⟩,by simp[RowKit.intOf];omega⟩;unfold Hid;rw[HT.out,Ca.out];exact⟨HY.out.1,HY.out.2.1,rfl⟩
   ·have Cq:∀w,(do eqGuard BinOp.neq 9 (.tmp 25) (.tmp 28) (.string bt) (.string bf);binOp BinOp.neq 9 (.string bt) (.string bf):Sem Value).run Tryz.prog w=.ok (.bool true) w:=by
     intro w;have hb:(bt.toList==bf.toList)=false:=by
      rw[ByteArray.toList_eq,ByteArray.toList_eq,Cy.out,Cc.out];simpa using he
     go_simp
    have Dl:=hid he;clear he;refine bX [] (λw':World=>w'.cell? ⟨kg,i*2+1,none⟩=some (.string bt)/\w'.cell? ⟨X,3,none⟩=some (.string bf)) 8 rfl (by kernel_rfl) ⟨s2,s3⟩ (λa' Q hA hQ hP hS=>?_);have z:a'.tmps.size=50:=by rw[hA.out];rfl
    have e6:a'.eval (.tmp 6)=Value.pointer (some ⟨kg,i*2,none⟩):=by rw[hA.out];rfl
    have e5:a'.eval (.tmp 5)=Value.pointer (some ⟨X,0,none⟩):=by rw[hA.out];rfl
    refine aU 0 (some 22) rfl rfl hP (af rfl) (λwx=>ah rfl e6) hS ?_;refine aU 1 (some 23) rfl rfl hP (af rfl) (λwx=>aS rfl (evz z)) hS ?_;refine aU 2 (some 24) rfl rfl hP (af rfl) (λwx=>aj ⟨kg,i*2+1,none⟩ rfl (evz (szq z))) hS ?_;refine ft 3 (some 25) rfl rfl hP (af rfl) (λwx hw=>aq rfl (evz (sz2 z)) (aH hw.1)) hS ?_;refine aU 4 (some 26) rfl rfl hP (af rfl) (λwx=>aj ⟨X,1,none⟩ rfl (ev4 e5)) hS ?_;refine aU 5 (some 27) rfl rfl hP (af rfl) (λwx=>aj ⟨X,3,none⟩ rfl (evz (sz4 z))) hS ?_;refine ft 6 (some 28) rfl rfl hP (af rfl) (λwx hw=>aq rfl (evz (sz4 (szq z))) (aH hw.2)) hS ?_;refine dN (i:=7) (d:=some 29) (by kernel_rfl) rfl rfl (af rfl) (bA (v:=.bool true) rfl (ev2 (ev1 (evz (sz2 (szq z))))) (evz (sz4 (sz2 z))) (Cq _)) (λ_=>hS) ?_;refine bW (by kernel_rfl) (hQ.out _ _ ?_) _;rw[hA.out];simp only[Act.put,List.setIfInBounds_toArray];dsimp only[List.set];clear hQ hP hA z hS Q a' e6 e5 s2 s3;rw[if_neg Dl.out]at Ca;have r0:w2.drew.drew.cell? ⟨kg,i*2+1,none⟩=some (.string bt):=T2.out;have r1:w2.drew.drew.frozen? ⟨kg,i*2+1,none⟩=false:=ch Cj.out _;have r3:w2.drew.drew.cell? ⟨X,3,none⟩=some (.string bf):=ae (o:=3) HX.out rfl;go_wp2_with fail;have C2:kg≠X:=by omega
    have Cb:Hid (aO V (.slice (some ⟨kg,0,none⟩) ks.length vc) (.slice (some ⟨kg,0,none⟩) ks.length vc) w1 (w2.setCell ⟨kg,i*2+1,none⟩ (.string bf)).drew.drew):=⟨(Cv.out.but.setRow (o:=i*2+1) rfl (.string bf)).below (((Below.refl _ _).drew).drew),λb hb=>Or.inl hb⟩;have C9:Hid (cD (w2.setCell ⟨kg,i*2+1,none⟩ (.string bf)).drew.drew V G look (.slice (some ⟨kg,0,none⟩) ks.length vc)):=(alP _ _ _ _ (by simpa using Ne.symm Co)).trans Cu.out;have CJ:Hid ((w2.setCell ⟨kg,i*2+1,none⟩ (.string bf)).drew.drew.heap[X]?=some (.cells #[.int .i64 ((i:Int)+1),.int .i64 mk,.int .i64 mu,.string bf,.string b3,.string b4] 335 (0,0))):=(alP _ _ _ _ (by simpa using Ne.symm C2)).trans HX.out;have CK:Hid ((w2.setCell ⟨kg,i*2+1,none⟩ (.string bf)).drew.drew.ownsRow B 346 2 (.slice (some ⟨kg,0,none⟩) ks.length vc) ks.length (dD (zs.set i ⟨zs[i].uid,f⟩))):=by
     have:=dz Cj.out (i*2+1) (.string bf);rw[Cd.out,nX _ _ _ _ HZ.out,←Cd.out]at this;exact this.drew.drew
    have Cw:Hid ((w2.setCell ⟨kg,i*2+1,none⟩ (.string bf)).drew.drew.ownsRow w1.heap.size 9 1 u3 n (bD ys)):=(ownsRow_setCell_below (a:=⟨kg,i*2+1,none⟩) Cx.out (by simp;omega) (.string bf)).drew.drew;have CT:(w2.setCell ⟨kg,i*2+1,none⟩ (.string bf)).drew.drew.heap.size=w2.heap.size:=by simp
    clear r0 r1 r3 Cu HX Cj Cx Cv T2 T1;generalize(w2.setCell ⟨kg,i*2+1,none⟩ (.string bf)).drew.drew=w3 at*;have C7:=HE.out w3 ((aO.below CP.out).trans Cb.out);have gT:=oX bf w3.drew;rw[Cc.out]at gT;obtain⟨tl,Dc,B7⟩:=ai (Mb.tell f);rw[←Dc.out]at gT;have Dr:(Mb.tell f).length<=1001:=by unfold Mb.tell;split<;>(try simp)<;>omega
    obtain⟨fl,CM,kF⟩:=aL Tryz.prog ⟨#[70,76,65,71,83,32]⟩ tl (by rw[B7.out];simp;omega);have gA:=rC ((i:Int)+1) (by omega) (by omega) fl (by rw[CM.out,B7.out];simp;omega) w3.drew (C7.below ((Below.refl _ w3).drew) (alU));rw[CM.out,B7.out]at gA;obtain⟨bl,CO,_⟩:=ai (dM ((i:Int)+1) ([70,76,65,71,83,32]++Mb.tell f));rw[show(⟨#[70,76,65,71,83,32]⟩:ByteArray).data.toList=[70,76,65,71,83,32]from rfl,←CO.out]at gA;rw[←CO.out]at Ca;have s0:w3.drew.cell? ⟨X,0,none⟩=some (.int .i64 ((i:Int)+1)):=ae (o:=0) CJ.out rfl;have s1:w3.drew.cell? ⟨kg,i*2+1,none⟩=some (.string bf):=by
     have:=aE CK.out (gl (zs.set i ⟨zs[i].uid,f⟩) i ⟨zs[i].uid,f⟩ (by simp[Ch])).2;rw[←Cd.out]at this;exact this
    have C4:X<w3.heap.size:=(alJ.1 CJ.out).1;have Cp:kg<w3.heap.size:=by omega
    refine aA 12 (λw':World=>w'.cell? ⟨X,0,none⟩=some (.int .i64 ((i:Int)+1))/\w'.cell? ⟨kg,i*2+1,none⟩=some (.string bf)) 13 rfl (by kernel_rfl) ⟨s0,s1⟩ (λa' Q hA hQ hP hS=>?_);have z:a'.tmps.size=50:=by rw[hA.out];rfl
    have e3:a'.eval (.tmp 3)=u3:=by rw[hA.out];rfl
    have e6:a'.eval (.tmp 6)=Value.pointer (some ⟨kg,i*2,none⟩):=by rw[hA.out];rfl
    have e5:a'.eval (.tmp 5)=Value.pointer (some ⟨X,0,none⟩):=by rw[hA.out];rfl
    refine tkA 0 (some 36) rfl rfl hP (λwx hw=>ah rfl e3) hS ?_;refine tkA 1 (some 37) rfl rfl hP (λwx hw=>aj ⟨X,0,none⟩ rfl (ev1 e5)) hS ?_;refine tkA 2 (some 38) rfl rfl hP (λwx hw=>aq rfl (evz (szq z)) (aH hw.1)) hS ?_;refine tkA 3 (some 39) rfl rfl hP (λwx hw=>ah rfl (ev2 (ev1 e6))) hS ?_;refine tkA 4 (some 40) rfl rfl hP (λwx hw=>aS rfl (evz (sz2 (szq z)))) hS ?_;refine tkA 5 (some 41) rfl rfl hP (λwx hw=>aj ⟨kg,i*2+1,none⟩ rfl (evz (sz4 z))) hS ?_;refine tkA 6 (some 42) rfl rfl hP (λwx hw=>aq rfl (evz (sz4 (szq z))) (aH hw.2)) hS ?_;refine cE (i:=7) (d:=some 43) (by kernel_rfl) rfl rfl rfl rfl Tryz.func133 (by kernel_rfl) rfl (mF (evz (sz4 (sz2 z)))) gT ?_;rintro e w4 ⟨rfl,rfl⟩;refine⟨_,rfl,λ_=>hS,?_⟩;refine bz (i:=8) (d:=some 44) (by kernel_rfl) rfl rfl rfl (bA (v:=.string fl) rfl rfl (evz (sz4 (sz2 (szq z)))) (by have:=kF;go_simp)) (λ_=>hS) ?_;refine cE (i:=9) (d:=some 45) (by kernel_rfl) rfl rfl rfl rfl Tryz.func251 (by kernel_rfl) rfl (fm (ev4 (ev2 (evz (sz2 z)))) (evz (sz8 z))) gA ?_;rintro e w4 ⟨rfl,CI⟩;have hb4':Below w3.heap.size w3 w4:=(Below.refl _ w3).drew.trans CI;have Du:=hb4'.size;have hS:w4.cell? ⟨X,0,none⟩=some (.int .i64 ((i:Int)+1))/\w4.cell? ⟨kg,i*2+1,none⟩=some (.string bf):=⟨(hb4'.cell (p:=⟨X,0,none⟩) C4).trans s0,(hb4'.cell (p:=⟨kg,i*2+1,none⟩) Cp).trans s1⟩;refine⟨_,rfl,λ_=>hS,?_⟩;have C3:X<w4.heap.size:=by omega
    have C1:kg<w4.heap.size:=by omega
    have Ci:(w4.alloc (.cells #[.string bl] 9)).cell? ⟨X,0,none⟩=some (.int .i64 ((i:Int)+1))/\(w4.alloc (.cells #[.string bl] 9)).cell? ⟨kg,i*2+1,none⟩=some (.string bf):=⟨(aC ⟨X,0,none⟩ (alB w4 _ C3)).trans hS.1,(aC ⟨kg,i*2+1,none⟩ (alB w4 _ C1)).trans hS.2⟩;refine dl (i:=10) (d:=some 46) (v:=.slice (some ⟨w4.heap.size,0,none⟩) 1 1) (w':=w4.alloc (.cells #[.string bl] 9)) (by kernel_rfl) rfl rfl rfl rfl (evz (sz8 (szq z))) uL (λ_=>Ci) ?_;have B3:=(bQ Cw.out hb4').alloc (.cells #[.string bl] 9);refine cZ (i:=11) (d:=some 47) [.string bl] (by kernel_rfl) rfl rfl rfl rfl yb (by decide) (ev8 (ev2 (evz z))) B3 (evz (sz8 (sz2 z))) rfl (alF (cs:=#[.string bl]) (t:=9) (fr:=(0,0)) (alA w4 _)) (by simp[Value.oneCell']) (by decide) (by unfold maxLen;omega) (by omega) (by simp;omega) ?_;intro g gc w8 B4 B1 Cr CX;have Cm:some X≠u3.ownBlock:=λe=>Nat.lt_irrefl _ (Db.out X e.symm)
    have Cl:some kg≠u3.ownBlock:=λe=>by have:=(Cw.out.lt kg e.symm).1;omega
    have r0:=(B1.cell_far ⟨X,0,none⟩ (by simp;omega) Cm).trans Ci.1;have r1:=(B1.cell_far ⟨kg,i*2+1,none⟩ (by simp;omega) Cl).trans Ci.2;refine⟨λ_=>⟨r0,r1⟩,?_⟩;clear hS;have hS:=And.intro r0 r1;refine bz (i:=12) (d:=some 3) (by kernel_rfl) rfl rfl rfl (aR rfl (evz (sz8 (sz2 (szq z))))) (λ_=>hS) ?_;have B5:Below w1.heap.size w3 w8:=((hb4'.mono (by omega)).alloc (by omega) _).grown B1 (by simp;omega) (bY Cw.out);have hb5':∀b,b<w3.heap.size->some b≠u3.ownBlock->w8.heap[b]?=w3.heap[b]?:=λb h1 h2=>(B1.block b (by simp;omega) h2).trans ((alB w4 _ (by omega)).trans (hb4'.block b h1))
    have C8:Hid (cD w8 V G look (.slice (some ⟨kg,0,none⟩) ks.length vc)):=(B5.block V (by omega)).trans C9.out;have Di:Hid (w8.ownsRow B 346 2 (.slice (some ⟨kg,0,none⟩) ks.length vc) ks.length (dD (zs.set i ⟨zs[i].uid,f⟩))):=ay (λb hb=>by injection hb with hb;subst hb;exact B5.block _ (by simp;omega)) CK.out;have Dn:Hid (w8.ownsRow w1.heap.size 9 1 (.slice (some ⟨g,0,none⟩) (n+1) gc) (n+1) (bD (ys++[bl]))):=by unfold Hid;rw[fT];exact B4
    have Dd:Hid (aO V (.slice (some ⟨kg,0,none⟩) ks.length vc) (.slice (some ⟨kg,0,none⟩) ks.length vc) w1 w8):=⟨⟨B5.os.trans Cb.out.but.os,B5.tape.trans Cb.out.but.tape,B5.output.trans Cb.out.but.output,by have:=B5.size;omega,λb h1 h2 h3=>(B5.block b h1).trans (Cb.out.but.block b h1 h2 h3)⟩,λb hb=>Or.inl hb⟩;clear B4 B1 Cr B3 B5 hb5' hb4' CI gA gT;refine aB (by kernel_rfl) (hQ.out _ _ ?_) _;rw[hA.out];simp only[Act.put,List.setIfInBounds_toArray];dsimp only[List.set];clear hQ hP hA z hS Q a' e3 e6 e5 Ci r0 r1 s0 s1;go_wp2_with fail;refine⟨⟨k+1,n+1,zs.set i ⟨zs[i].uid,f⟩,ys++[bl],by omega,by omega,by simp,?_,C8,Di,Dn,Dd⟩,by simp[RowKit.intOf];omega⟩;unfold Hid;rw[HT.out,Ca.out];exact⟨by simp[HY.out.1],by simp[HY.out.2.1],rfl⟩
  ·have C0:k=ps.length:=by omega
   subst C0;go_wp2_with fail;go_ret;have h:=HY.out;rw[List.take_length]at h;rw[De.out,h.2.2];refine⟨u3,rfl,?_,hV.out,?_,?_⟩
   ·unfold fd;rw[h.2.1];exact fZ hL.out CU
   ·unfold ew;rw[h.1];exact hO.out
   ·exact(aO.below CP.out).trans Cf.out
section
variable {P:Program}
theorem oD(w:World)(t ty e:TypeId)(i:TypeInfo)(z:Value)(size bytes base B5:Nat)(ht:P.underlying t=some (.slice e))(hi:P.info? e=some i)(hz:i.zero=some z)(B3:i.size=size)(B9:i.bytes=bytes)(B7:z.cells.size=size)(B8:0<size)
  (v v2:Value) (n m:Nat) (xs B1:List Value) (ho:w.ownsRow base e size v n xs) (B6:w.ownsRow B5 e size v2 m B1) (h1:∀u∈B1,u.oneCell'=true) (Ca:n+m<=maxLen) (hb:(n+m)*bytes<=140737488355328) (B4:base<=w.heap.size):
  ∃v' w',(Builtin.append_ #[t,t] ty #[v,v2]).run P w=.ok v' w'/\w'.ownsRow base e size v' (n+m) (xs++B1)/\w.grownBy w' v.ownBlock:=by
 rcases B6.2 with⟨rfl,rfl⟩|⟨g,c,Cb,rfl,_⟩
 ·have h0:B1=[]:=alN (by simpa using B6.1);subst h0;exact⟨v,w,run_append_owned_none (P:=P) (w:=w) base t ty e i size ht hi v n xs ho,by simpa using ho,⟨rfl,rfl,rfl,alU,λ_ _ _=>rfl⟩⟩
 ·obtain⟨u,w',h2,h3,h4,_⟩:=run_append_own (P:=P) w base t ty e i z size bytes ht hi hz B3 B9 B7 B8 v n xs ho ⟨g,0,none⟩ m c B1 B6.1 (λj u hj=>by have:=aE B6 hj;by_cases h0:j=0<;>simp[Addr.add,h0]<;>simpa[h0]using this) h1 Ca hb B4;exact⟨u,w',h2,h3,h4⟩
theorem dH{w:World}{ops:Array Oper}{rest:List Oper}{o:Oper}{a:Act}{Q:Exit->Act->World->Prop}(Ca:o.guard=none)(s x:Operand)(t:TypeId)
  (ho:o.op=.call {callee:=.builtin .append,args:=#[s,x],argTypes:=#[t,t]})
  (e:TypeId) (i:TypeInfo) (z:Value) (size bytes base B3:Nat) (ht:P.underlying t=some (.slice e)) (hi:P.info? e=some i) (hz:i.zero=some z) (B4:i.size=size) (Cb:i.bytes=bytes) (B6:z.cells.size=size) (B7:0<size)
  (v v2:Value) (hs:a.eval s=v) (hx:a.eval x=v2) (n m:Nat) (xs B1:List Value) (B9:w.ownsRow base e size v n xs) (B8:w.ownsRow B3 e size v2 m B1) (h1:∀u∈B1,u.oneCell'=true) (Cc:n+m<=maxLen) (hb:(n+m)*bytes<=140737488355328) (B5:base<=w.heap.size)
  (h:∀v' w',w'.ownsRow base e size v' (n+m) (xs++B1)->w.grownBy w' v.ownBlock->wpList P ops Q rest (a.put o.dst v') w'):wpList P ops Q (o::rest) a w:=by
 refine wpList_plain Ca λK hK=>?_
 obtain⟨v',w',hr,h2,h3⟩:=oD (P:=P) w t o.type e i z size bytes base B3 ht hi hz B4 Cb B6 B7 v v2 n m xs B1 B9 B8 h1 Cc hb B5;unfold Oper.wp execOp;simp only[ho,resolve,invoke,builtin,Sem.run_bind,Sem.run_pure,Result.andThen_ok,List.map_toArray,List.map_cons,List.map_nil,hs,hx,hr];exact hK _ _ (h v' w' h2 h3)
end
def cq (drop:Bool) (ms:List al) (ks:List aQ):List aQ×List ByteArray:=
 let k1:=if drop then cU ms ks else ks
 let l1:=if drop then cJ ms 0 ks else []
 let k2:=aI k1 ms
 let l2:=l1++(if k1.length<k2.length then [⟨([42,32,67,79,85,78,84,32]++Lib.itoa (k2.length:Int)).toArray⟩]else [])
 let s:=(aG k2 ms).foldl aV (k2,[])
 (s.1,l2++s.2)
theorem p6(s:List aQ×List ByteArray)(p:di):(aV s p).2.length<=s.2.length+1:=by
 unfold aV
 split
 ·split<;>simp
 ·omega
theorem iy(ps:List di):∀(s:List aQ×List ByteArray),(ps.foldl aV s).2.length<=s.2.length+ps.length:=by
 induction ps with
 |nil=>intro s;simp
 |cons p r ih=>
  intro s;have h1:=ih (aV s p);have h2:=p6 s p;simp only[List.foldl_cons,List.length_cons];omega
def jW (B:Nat) (w:World):Prop:=∀W:World,(∀b,b<B->W.heap[b]?=w.heap[b]?)->Env W
theorem jW.step{B:Nat}{w w':World}(h:jW B w)(hb:∀b,b<B->w'.heap[b]?=w.heap[b]?):jW B w':=λW hW=>h W λb hB=>(hW b hB).trans (hb b hB)
theorem aO.low{B A:Nat}{v v':Value}{w w':World}(h:aO A v v' w w')(hA:B<=A)(hw:B<=w.heap.size)(hv:∀b,v.ownBlock=some b->B<=b):∀b,b<B->w'.heap[b]?=w.heap[b]?:=λb hb=>h.but.block b (by omega) (by omega) (λe=>by have:=hv b e;omega)
theorem oR(xs:List ByteArray):∀u∈bD xs,u.oneCell'=true:=by
 intro u hu;unfold bD at hu;rw[List.mem_map]at hu;obtain⟨x,_,rfl⟩:=hu
 rfl
theorem dU.step{w w':World}{a:Option Addr}{xs:List al}(h:dU w a xs)(hb:xs≠[]->∀b off,a=some ⟨b,off,none⟩->w'.heap[b]?=w.heap[b]?):dU w' a xs:=by
 rcases h with h|⟨b,off,h1,h2,h3⟩
 ·exact Or.inl h
 ·by_cases hx:xs=[]
  ·exact Or.inl hx
  ·have he:=hb hx b off h1;refine Or.inr ⟨b,off,h1,?_,λi x hi=>?_⟩
   ·rw[Array.getElem?_eq_getElem h2]at he;exact(alJ.1 he).1
   ·obtain⟨c0,c1,c2,c3,c4⟩:=h3 i x hi;exact⟨(aC ⟨b,off+i*5,none⟩ he).trans c0,(aC ⟨b,off+i*5+1,none⟩ he).trans c1,(aC ⟨b,off+i*5+2,none⟩ he).trans c2,(aC ⟨b,off+i*5+3,none⟩ he).trans c3,(aC ⟨b,off+i*5+4,none⟩ he).trans c4⟩
theorem But.then{K B:Nat}{row:Option Nat}{w w1 w2:World}(h:But K row w w1)(k:Below B w1 w2)(hB:w.heap.size=B):But K row w w2:=by
 subst hB;exact⟨k.os.trans h.os,k.tape.trans h.tape,k.output.trans h.output,alS h.size k.size,λb h1 h2 h3=>(k.block b h1).trans (h.block b h1 h2 h3)⟩
theorem fd.step{w w':World}{A B0:Nat}{v x y:Value}{xs:List ByteArray}(h:fd w B0 v xs)(hs:aO A x y w w')(hA:A<B0)(hx:∀b,v.ownBlock=some b->x.ownBlock≠some b):fd w' B0 v xs:=
 ay (λb hb=>hs.but.block b (h.lt b hb).2 (by have:=(h.lt b hb).1;omega) (hx b hb)) h
theorem rH{w:World}{B V G:Nat}{look:Bool}{name Cd:ByteArray}{ep nx:Int}{kv:Value}{a:Option Addr}{cap:Nat}{ks:List aQ}{ms:List al}(h:cD w V G look kv)(ho:ew w B kv ks)(Df:kv.ownBlock≠some V)(hB:B<=w.heap.size)(CZ:B<=V)(hF:bw w G name Cd ep nx (.slice a ms.length cap))(Dq:G≠V)(Dp:kv.ownBlock≠some G)(hm:dU w a ms)(Cz:ms≠[]->∀b off,a=some ⟨b,off,none⟩->b≠V/\kv.ownBlock≠some b)(hl:ks.length+ms.length<=1000)(Dg:∀m∈ms,m.flags.length<=1000)(hE:jW B w):
  Calls Tryz.prog 149 #[.pointer (some ⟨V,0,none⟩),.bool false] w λe w'=>∃v CL,e=.returned v/\fd w' w.heap.size v (cq false ms ks).2/\cD w' V G look CL/\ew w' B CL (cq false ms ks).1/\CL.ownBlock≠some V/\aO V kv CL w w':=by
 obtain⟨j0,hj,CU,CT,CS⟩:=alQ eV;have Cu:=h.cells.2.2.2.2;have Do:=hF.cells.2.2.2.2.2.2;have Ca:aO V kv kv w w:=aO.below (Below.refl _ _);have Cw:fd w w.heap.size (.slice none 0 0) []:=alG _ _ _ _;have CC:∀b,(Value.slice none 0 0).ownBlock=some b->kv.ownBlock≠some b:=by intro b hb;cases hb
 have Dj:=h;have CW:=ho;have Cy:=Df;have DG:ks.length<=1000:=by omega
 have Cc:([]:List ByteArray).length<=1000:=by simp
 go_enter Tryz.func149,Tryz.ntmps149;go_wp2_with fail;have Dn:∀b,kv.ownBlock=some b->B<=b:=λb hb=>(ho.lt b hb).1
 have DF:ks.length+ms.length<=1000:=by omega
 have DI:B<=w.heap.size:=by have:=Ca.but.size;omega
 have C2:bw w G name Cd ep nx (.slice a ms.length cap):=(Ca.but.block G Do Dq Dp).trans hF;have CM:ms≠[]->∀b off,a=some ⟨b,off,none⟩->b<w.heap.size:=λB7 b off hb=>by
  rcases hm with h0|⟨b',DA,e1,e2,_⟩
  ·exact absurd h0 B7
  ·rw[hb]at e1;injection e1 with e1;injection e1 with e1;omega
 have C1:dU w a ms:=hm.step λB7 b off hb=>Ca.but.block b (CM B7 b off hb) (Cz B7 b off hb).1 (Cz B7 b off hb).2
 have Cj:ms≠[]->∀b off,a=some ⟨b,off,none⟩->b≠V/\kv.ownBlock≠some b:=λB7 b off hb=>⟨(Cz B7 b off hb).1,λe=>by
  rcases Ca.row b e with h1|h1
  ·exact(Cz B7 b off hb).2 h1
  ·have:=CM B7 b off hb;omega⟩
 have gI:=lv Dj CW Cy DI C2 C1 Cj DF;have Ce:=hid Ca;have Cp:=hid Cw;have Cr:=hid CC;have Dc:=hid C2;have Dw:=hid C1;have Cq:=hid Cj;have DN:=hid CW;have HE:=hid hE;have DP:=hid Dn;have Dv:=hid CM;have Dy:=hid Dg;clear Ca Cw CC C2 C1 Cj CW hE Dn hF hm Cz h ho Df Dj Cy CM Dg hl;go_wp2_with fail;refine gI.mono ?_;rintro e w2 ⟨rfl,Ci,Di,C0,Cx,B6⟩;clear gI;have DH:=fA ks ms;generalize CB:aI ks ms=B1 at*;have CQ:=hid CB;clear CB;have DV:=B6.but.size;have B9:aO V kv Ci w w2:=Ce.out.trans B6;have CV:=B9.but.size;have Dl:fd w2 w.heap.size (Value.slice none 0 0) ([]:List ByteArray):=Cp.out.step B6 Cu Cr.out;have Cv:∀b,(Value.slice none 0 0).ownBlock=some b->b<w.heap.size:=λb hb=>(Cp.out.lt b hb).2
 have Du:∀b,(Value.slice none 0 0).ownBlock=some b->Ci.ownBlock≠some b:=λb hb e=>by
  rcases B6.row b e with h1|h1
  ·exact Cr.out b hb h1
  ·have:=Cv b hb;omega
 have Ch:kv.ownBlock≠some G:=λe=>by
  rcases Ce.out.row G e with h1|h1
  ·exact Dp h1
  ·omega
 have Dr:=Dc.out.cells.2.2.2.2.2.2;have Ds:bw w2 G name Cd ep nx (.slice a ms.length cap):=(B6.but.block G Dr Dq Ch).trans Dc.out;have Dm:dU w2 a ms:=Dw.out.step λB7 b off hb=>B6.but.block b (alH (Dv.out B7 b off hb) Ce.out.but.size) (Cq.out B7 b off hb).1 (Cq.out B7 b off hb).2
 have Dt:jW B w2:=HE.out.step (B9.low CZ hB DP.out);have Cg:∀b,Ci.ownBlock=some b->B<=b:=λb hb=>(C0.lt b hb).1
 have CO:=hid Di;have CI:=hid C0;have CP:=hid Cx;have CH:=hid B9;have C8:=hid Dl;have CJ:=hid Du;have Db:=hid Ds;have Da:=hid Dm;have CR:=hid Dt;have Dx:=hid Cg;clear Di C0 Cx B9 Dl Cv Du Ch Dr Ds Dm Dt Cg B6 Ce Cp Cr Dc Dw Cq DN
 by_cases Cs:ks.length<B1.length
 ·rw[decide_eq_true Cs];have CK:Hid ((if ks.length<B1.length then [(⟨([42,32,67,79,85,78,84,32]++Lib.itoa (B1.length:Int)).toArray⟩:ByteArray)]else [])=[(⟨([42,32,67,79,85,78,84,32]++Lib.itoa (B1.length:Int)).toArray⟩:ByteArray)]):=if_pos Cs;clear Cs;obtain⟨qa,qc,DC,_,_,_⟩:=ew.form CI.out;subst DC;have gC:=fJ CO.out;go_wp2_with fail;refine gC.mono ?_;rintro e w' ⟨rfl,DT⟩;subst w';clear gC;have gN:=co (B1.length:Int) (by omega) (by omega) w2 (CR.out w2 λ_ _=>rfl);have DE:(Lib.itoa (B1.length:Int)).length<=1000:=alS (Mb.itoa_len 6 _ (by decide) (by omega) (by have:((10^6:Nat):Int)=1000000:=rfl;omega)) (by decide);obtain⟨bN,DJ,CG⟩:=ai (Lib.itoa (B1.length:Int));rw[←DJ.out]at gN;obtain⟨ct,HC,kC⟩:=aL Tryz.prog ⟨#[42,32,67,79,85,78,84,32]⟩ bN (by rw[CG.out];simp;omega);have Dd:Hid (ct=⟨([42,32,67,79,85,78,84,32]++Lib.itoa (B1.length:Int)).toArray⟩):=dZ (by rw[HC.out,CG.out])
  replace CK:Hid ((if ks.length<B1.length then [(⟨([42,32,67,79,85,78,84,32]++Lib.itoa (B1.length:Int)).toArray⟩:ByteArray)]else [])=[ct]):=by unfold Hid;rw[Dd.out];exact CK.out
  go_wp2_with fail;refine gN.mono ?_;rintro e w3 ⟨rfl,CN⟩;clear gN;have DU:=CN.size;have De:=hid CN;have C7:=hid (bQ C8.out CN);clear CN;go_wp2_with(at_builtin;refine wpList_append_lies _ rfl (.tmp 11) (.tmp 16) 113 rfl w.heap.size 9 j0 (.string ByteArray.empty) 1 16 Tryz.underlying113 hj CU CT CS rfl (by decide) _ ([]:List ByteArray).length (bD ([]:List ByteArray)) rfl (C7.out.alloc _) ⟨w3.heap.size,0,none⟩ 1 1 [.string ct] rfl rfl ?c1 ?c2 (by decide) ?c3 ?c4 ?c5 _ rfl ?_)
  case c1=>exact alF (cs:=#[.string ct]) (t:=9) (fr:=(0,0)) (alA w3 _)
  case c2=>intro u hu;simp only[List.mem_cons,List.not_mem_nil,or_false]at hu;subst hu;rfl
  case c3=>unfold maxLen;omega
  case c4=>omega
  case c5=>simp;omega
  intro g gc w4 Cf B8 CD DD;have Ct:Below w.heap.size w2 w4:=((De.out.mono CV).alloc (by omega) _).grown B8 (by simp;omega) (bY C7.out);have Co:Hid (aO V kv (.slice qa B1.length qc) w w4):=⟨CH.out.but.then Ct rfl,CH.out.row⟩;have DK:Hid (cD w4 V G look (.slice qa B1.length qc)):=(Ct.block V Cu).trans CO.out;have Cb:∀b,(Value.slice qa B1.length qc).ownBlock=some b->b<w2.heap.size:=λb hb=>(CI.out.lt b hb).2
  have DM:Hid (ew w4 B (.slice qa B1.length qc) B1):=ay (λb hb=>(B8.block b (by have:=Cb b hb;simp;omega) (λe=>CJ.out b e.symm hb)).trans ((alB w3 _ (by have:=Cb b hb;omega)).trans (De.out.block b (Cb b hb)))) CI.out;have DQ:Hid (bw w4 G name Cd ep nx (.slice a ms.length cap)):=(Ct.block G Do).trans Db.out;have DO:Hid (dU w4 a ms):=Da.out.step λB7 b off hb=>Ct.block b (Dv.out B7 b off hb)
  have DR:Hid (jW B w4):=CR.out.step λb hb=>Ct.block b (by omega)
  have DL:Hid (fd w4 w.heap.size (.slice (some ⟨g,0,none⟩) (([]:List ByteArray).length+1) gc) (([]:List ByteArray)++[ct])):=by
   unfold Hid fd;rw[fT,show(([]:List ByteArray)++[ct]).length=([]:List ByteArray).length+1 by simp];exact Cf
  have Dz:Hid (∀b,(Value.slice (some ⟨g,0,none⟩) (([]:List ByteArray).length+1) gc).ownBlock=some b->(Value.slice qa B1.length qc).ownBlock≠some b):=by
   intro b hb Dh;injection hb with hb
   have hb:g=b:=hb;subst hb
   rcases CD with h1|h1
   ·exact CJ.out _ h1 Dh
   ·have:=Cb _ Dh;omega
  have DS:w.heap.size<=w4.heap.size:=Co.out.but.size;clear Cf B8 CD Ct Cb CO CI Db Da CR C8 CJ CH De C7 kC;have gT:=fR DK.out DM.out CP.out DQ.out DO.out (by omega) (by omega) Dy.out (λW hW=>DR.out W (hW.low CZ (by omega) Dx.out));go_wp2_with fail;refine gT.mono ?_;rintro e w5 ⟨v3,rfl,CF,CE,Cm,B5⟩;clear gT;have CA:=iy (aG B1 ms) (B1,[]);have CY:=ee B1 ms;have CX:((aG B1 ms).foldl aV (B1,[])).2.length<=1000:=by simp at CA;omega
  have Cl:fd w5 w.heap.size (.slice (some ⟨g,0,none⟩) (([]:List ByteArray).length+1) gc) (([]:List ByteArray)++[ct]):=DL.out.step B5 Cu Dz.out;have DB:=B5.but.size;go_wp2_with(at_builtin;refine dH rfl (.tmp 18) (.tmp 20) 113 rfl 9 j0 (.string ByteArray.empty) 1 16 w.heap.size w4.heap.size Tryz.underlying113 hj CU CT CS rfl (by decide) _ _ rfl rfl _ _ _ _ Cl CF (oR _) ?c6 ?c7 ?c8 ?_)
  case c6=>unfold maxLen;(try simp at Cc⊢);omega
  case c7=>(try simp at Cc⊢);omega
  case c8=>omega
  intro v6 w6 B3 B4;have Ck:Below w.heap.size w5 w6:=((Below.refl _ _)).grown B4 (by omega) (bY Cl);have C3:Hid (cD w6 V G look (.slice qa B1.length qc)):=(Ck.block V Cu).trans CE;have C9:Hid (ew w6 B (.slice qa B1.length qc) ((aG B1 ms).foldl aV (B1,[])).1):=ay (λb hb=>B4.block b (Cm.lt b hb).2 (λe=>Dz.out b e.symm hb)) Cm;have Cn:Hid (aO V kv (.slice qa B1.length qc) w w6):=⟨(Co.out.trans B5).but.then Ck rfl,(Co.out.trans B5).row⟩;have C6:Hid (fd w6 w.heap.size v6 ((([]:List ByteArray)++[ct])++((aG B1 ms).foldl aV (B1,[])).2)):=by
   unfold Hid fd;rw[show bD ((([]:List ByteArray)++[ct])++((aG B1 ms).foldl aV (B1,[])).2)=bD (([]:List ByteArray)++[ct])++bD ((aG B1 ms).foldl aV (B1,[])).2 by simp[bD]]
   (try simp only[List.length_append]at B3)
   (try simp only[List.length_cons]at B3)
   (try simp only[List.length_nil]at B3)
   (try simp only[Nat.zero_add]at B3)
   (try simp only[List.length_append])
   (try simp only[List.length_cons])
   (try simp only[List.length_nil])
   (try simp only[Nat.zero_add])
   exact B3
  have C5:Hid ((cq false ms ks).1=((aG B1 ms).foldl aV (B1,[])).1):=by
   unfold Hid cq;simp only[Bool.false_eq_true,if_false,CQ.out]
  have C4:Hid ((cq false ms ks).2=(([]:List ByteArray)++[ct])++((aG B1 ms).foldl aV (B1,[])).2):=by
   unfold Hid cq;simp only[Bool.false_eq_true,if_false,CQ.out,CK.out]
   try simp
  clear B3 B4 Ck CF CE Cm B5 Cl CA CY CX;go_wp2_with fail;go_ret;rw[C5.out,C4.out];exact⟨v6,(.slice qa B1.length qc),rfl,C6.out,C3.out,C9.out,CP.out,Cn.out⟩
 ·rw[decide_eq_false Cs];have CK:Hid ((if ks.length<B1.length then [(⟨([42,32,67,79,85,78,84,32]++Lib.itoa (B1.length:Int)).toArray⟩:ByteArray)]else [])=[]):=if_neg Cs;clear Cs;have gT:=fR CO.out CI.out CP.out Db.out Da.out (by omega) (by omega) Dy.out (λW hW=>CR.out W (hW.low CZ (by omega) Dx.out));go_wp2_with fail;refine gT.mono ?_;rintro e w5 ⟨v3,rfl,CF,CE,Cm,B5⟩;clear gT;have CA:=iy (aG B1 ms) (B1,[]);have CY:=ee B1 ms;have CX:((aG B1 ms).foldl aV (B1,[])).2.length<=1000:=by simp at CA;omega
  have Cl:fd w5 w.heap.size (Value.slice none 0 0) ([]:List ByteArray):=C8.out.step B5 Cu CJ.out;have DB:=B5.but.size;go_wp2_with(at_builtin;refine dH rfl (.tmp 18) (.tmp 20) 113 rfl 9 j0 (.string ByteArray.empty) 1 16 w.heap.size w2.heap.size Tryz.underlying113 hj CU CT CS rfl (by decide) _ _ rfl rfl _ _ _ _ Cl CF (oR _) ?c6 ?c7 ?c8 ?_)
  case c6=>unfold maxLen;(try simp at Cc⊢);omega
  case c7=>(try simp at Cc⊢);omega
  case c8=>omega
  intro v6 w6 B3 B4;have Ck:Below w.heap.size w5 w6:=((Below.refl _ _)).grown B4 (by omega) (bY Cl);have C3:Hid (cD w6 V G look Ci):=(Ck.block V Cu).trans CE;have C9:Hid (ew w6 B Ci ((aG B1 ms).foldl aV (B1,[])).1):=ay (λb hb=>B4.block b (Cm.lt b hb).2 (λe=>CJ.out b e.symm hb)) Cm;have Cn:Hid (aO V kv Ci w w6):=⟨(CH.out.trans B5).but.then Ck rfl,(CH.out.trans B5).row⟩;have C6:Hid (fd w6 w.heap.size v6 (([]:List ByteArray)++((aG B1 ms).foldl aV (B1,[])).2)):=by
   unfold Hid fd;rw[show bD (([]:List ByteArray)++((aG B1 ms).foldl aV (B1,[])).2)=bD ([]:List ByteArray)++bD ((aG B1 ms).foldl aV (B1,[])).2 by simp[bD]]
   (try simp only[List.length_append]at B3)
   (try simp only[List.length_cons]at B3)
   (try simp only[List.length_nil]at B3)
   (try simp only[Nat.zero_add]at B3)
   (try simp only[List.length_append])
   (try simp only[List.length_cons])
   (try simp only[List.length_nil])
   (try simp only[Nat.zero_add])
   exact B3
  have C5:Hid ((cq false ms ks).1=((aG B1 ms).foldl aV (B1,[])).1):=by
   unfold Hid cq;simp only[Bool.false_eq_true,if_false,CQ.out]
  have C4:Hid ((cq false ms ks).2=([]:List ByteArray)++((aG B1 ms).foldl aV (B1,[])).2):=by
   unfold Hid cq;simp only[Bool.false_eq_true,if_false,CQ.out,CK.out]
   try simp
  clear B3 B4 Ck CF CE Cm B5 Cl CA CY CX;go_wp2_with fail;go_ret;rw[C5.out,C4.out];exact⟨v6,Ci,rfl,C6.out,C3.out,C9.out,CP.out,Cn.out⟩
theorem ti{w:World}{B V G:Nat}{look:Bool}{name Ce:ByteArray}{ep nx:Int}{kv:Value}{a:Option Addr}{cap:Nat}{ks:List aQ}{ms:List al}(h:cD w V G look kv)(ho:ew w B kv ks)(DN:kv.ownBlock≠some V)(hB:B<=w.heap.size)(C5:B<=V)(hF:bw w G name Ce ep nx (.slice a ms.length cap))(Dy:G≠V)(Dx:kv.ownBlock≠some G)(hm:dU w a ms)(CC:ms≠[]->∀b off,a=some ⟨b,off,none⟩->b≠V/\kv.ownBlock≠some b)(hl:ks.length+ms.length<=1000)(Do:∀m∈ms,m.flags.length<=1000)(hE:jW B w):
  Calls Tryz.prog 149 #[.pointer (some ⟨V,0,none⟩),.bool true] w λe w'=>∃v CP,e=.returned v/\fd w' w.heap.size v (cq true ms ks).2/\cD w' V G look CP/\ew w' B CP (cq true ms ks).1/\CP.ownBlock≠some V/\aO V kv CP w w':=by
 obtain⟨j0,hj,C0,CZ,CY⟩:=alQ eV;have Cw:=h.cells.2.2.2.2;have Dw:=hF.cells.2.2.2.2.2.2;obtain⟨va,vc,DK,_,Dm,_⟩:=ew.form ho;subst DK;have gD:=sr h Dm hF hm (by omega) (by omega) (hE w λ_ _=>rfl);go_enter Tryz.func149,Tryz.ntmps149;go_wp2_with fail;refine gD.mono ?_;rintro e w1 ⟨vl,Cx,rfl,Cz,Dr,CQ,CF,CG⟩;clear gD;have Cb:aO V (Value.slice va ks.length vc) Cx w w1:=⟨But.row _ CG,λb hb=>Or.inr (CQ.lt b hb).1⟩;have CB:Cx.ownBlock≠some V:=λe=>by have:=(CQ.lt V e).1;omega
 have C2:ew w1 B Cx (cU ms ks):=fZ CQ hB;have DR:=sZ ms ks;have Cd:(cJ ms 0 ks).length<=1000:=by have:=jO ms ks 0;omega
 clear CQ CG Dm;generalize Dn:cU ms ks=Ck at*;generalize Dv:cJ ms 0 ks=B6 at*;have CW:=hid Dn;have DF:=hid Dv;clear Dn Dv;have Du:∀b,(Value.slice va ks.length vc).ownBlock=some b->B<=b:=λb hb=>(ho.lt b hb).1
 have DQ:Ck.length+ms.length<=1000:=by omega
 have DT:B<=w1.heap.size:=by have:=Cb.but.size;omega
 have C8:bw w1 G name Ce ep nx (.slice a ms.length cap):=(Cb.but.block G Dw Dy Dx).trans hF;have CR:ms≠[]->∀b off,a=some ⟨b,off,none⟩->b<w.heap.size:=λB8 b off hb=>by
  rcases hm with h0|⟨b',DJ,e1,e2,_⟩
  ·exact absurd h0 B8
  ·rw[hb]at e1;injection e1 with e1;injection e1 with e1;omega
 have C7:dU w1 a ms:=hm.step λB8 b off hb=>Cb.but.block b (CR B8 b off hb) (CC B8 b off hb).1 (CC B8 b off hb).2
 have Cl:ms≠[]->∀b off,a=some ⟨b,off,none⟩->b≠V/\Cx.ownBlock≠some b:=λB8 b off hb=>⟨(CC B8 b off hb).1,λe=>by
  rcases Cb.row b e with h1|h1
  ·exact(CC B8 b off hb).2 h1
  ·have:=CR B8 b off hb;omega⟩
 have gI:=lv Dr C2 CB DT C8 C7 Cl DQ;have Cf:=hid Cb;have Cr:=hid Cz;have Ct:=hid CF;have Di:=hid C8;have DE:=hid C7;have Cs:=hid Cl;have DY:=hid C2;have HE:=hid hE;have D0:=hid Du;have DD:=hid CR;have DH:=hid Do;clear Cb Cz CF C8 C7 Cl C2 hE Du hF hm CC h ho DN Dr CB CR Do hl;go_wp2_with fail;refine gI.mono ?_;rintro e w2 ⟨rfl,Cj,Dq,C6,CA,B7⟩;clear gI;have DS:=fA Ck ms;generalize CE:aI Ck ms=B1 at*;have CV:=hid CE;clear CE;have D6:=B7.but.size;have Ca:aO V (Value.slice va ks.length vc) Cj w w2:=Cf.out.trans B7;have C1:=Ca.but.size;have Ds:fd w2 w.heap.size vl B6:=Cr.out.step B7 Cw Ct.out;have Cy:∀b,vl.ownBlock=some b->b<w1.heap.size:=λb hb=>(Cr.out.lt b hb).2
 have DC:∀b,vl.ownBlock=some b->Cj.ownBlock≠some b:=λb hb e=>by
  rcases B7.row b e with h1|h1
  ·exact Ct.out b hb h1
  ·have:=Cy b hb;omega
 have Ci:Cx.ownBlock≠some G:=λe=>by
  rcases Cf.out.row G e with h1|h1
  ·exact Dx h1
  ·omega
 have Dz:=Di.out.cells.2.2.2.2.2.2;have DA:bw w2 G name Ce ep nx (.slice a ms.length cap):=(B7.but.block G Dz Dy Ci).trans Di.out;have Dt:dU w2 a ms:=DE.out.step λB8 b off hb=>B7.but.block b (alH (DD.out B8 b off hb) Cf.out.but.size) (Cs.out B8 b off hb).1 (Cs.out B8 b off hb).2
 have DB:jW B w2:=HE.out.step (Ca.low C5 hB D0.out);have Ch:∀b,Cj.ownBlock=some b->B<=b:=λb hb=>(C6.lt b hb).1
 have CT:=hid Dq;have CM:=hid C6;have CU:=hid CA;have CL:=hid Ca;have De:=hid Ds;have CN:=hid DC;have Dh:=hid DA;have Dg:=hid Dt;have CX:=hid DB;have DG:=hid Ch;clear Dq C6 CA Ca Ds Cy DC Ci Dz DA Dt DB Ch B7 Cf Cr Ct Di DE Cs DY
 by_cases Cu:Ck.length<B1.length
 ·rw[decide_eq_true Cu];have CO:Hid ((if Ck.length<B1.length then [(⟨([42,32,67,79,85,78,84,32]++Lib.itoa (B1.length:Int)).toArray⟩:ByteArray)]else [])=[(⟨([42,32,67,79,85,78,84,32]++Lib.itoa (B1.length:Int)).toArray⟩:ByteArray)]):=if_pos Cu;clear Cu;obtain⟨qa,qc,DM,_,_,_⟩:=ew.form CM.out;subst DM;have gC:=fJ CT.out;go_wp2_with fail;refine gC.mono ?_;rintro e w' ⟨rfl,D4⟩;subst w';clear gC;have gN:=co (B1.length:Int) (by omega) (by omega) w2 (CX.out w2 λ_ _=>rfl);have DP:(Lib.itoa (B1.length:Int)).length<=1000:=alS (Mb.itoa_len 6 _ (by decide) (by omega) (by have:((10^6:Nat):Int)=1000000:=rfl;omega)) (by decide);obtain⟨bN,DU,CK⟩:=ai (Lib.itoa (B1.length:Int));rw[←DU.out]at gN;obtain⟨ct,HC,kC⟩:=aL Tryz.prog ⟨#[42,32,67,79,85,78,84,32]⟩ bN (by rw[CK.out];simp;omega);have Dj:Hid (ct=⟨([42,32,67,79,85,78,84,32]++Lib.itoa (B1.length:Int)).toArray⟩):=dZ (by rw[HC.out,CK.out])
  replace CO:Hid ((if Ck.length<B1.length then [(⟨([42,32,67,79,85,78,84,32]++Lib.itoa (B1.length:Int)).toArray⟩:ByteArray)]else [])=[ct]):=by unfold Hid;rw[Dj.out];exact CO.out
  go_wp2_with fail;refine gN.mono ?_;rintro e w3 ⟨rfl,CS⟩;clear gN;have D5:=CS.size;have Dl:=hid CS;have Dd:=hid (bQ De.out CS);clear CS;go_wp2_with(at_builtin;refine wpList_append_lies _ rfl (.tmp 11) (.tmp 16) 113 rfl w.heap.size 9 j0 (.string ByteArray.empty) 1 16 Tryz.underlying113 hj C0 CZ CY rfl (by decide) _ B6.length (bD B6) rfl (Dd.out.alloc _) ⟨w3.heap.size,0,none⟩ 1 1 [.string ct] rfl rfl ?c1 ?c2 (by decide) ?c3 ?c4 ?c5 _ rfl ?_)
  case c1=>exact alF (cs:=#[.string ct]) (t:=9) (fr:=(0,0)) (alA w3 _)
  case c2=>intro u hu;simp only[List.mem_cons,List.not_mem_nil,or_false]at hu;subst hu;rfl
  case c3=>unfold maxLen;omega
  case c4=>omega
  case c5=>simp;omega
  intro g gc w4 Cg B9 CH DO;have Cv:Below w.heap.size w2 w4:=((Dl.out.mono C1).alloc (by omega) _).grown B9 (by simp;omega) (bY Dd.out);have Cq:Hid (aO V (Value.slice va ks.length vc) (.slice qa B1.length qc) w w4):=⟨CL.out.but.then Cv rfl,CL.out.row⟩;have DV:Hid (cD w4 V G look (.slice qa B1.length qc)):=(Cv.block V Cw).trans CT.out;have Cc:∀b,(Value.slice qa B1.length qc).ownBlock=some b->b<w2.heap.size:=λb hb=>(CM.out.lt b hb).2
  have DX:Hid (ew w4 B (.slice qa B1.length qc) B1):=ay (λb hb=>(B9.block b (by have:=Cc b hb;simp;omega) (λe=>CN.out b e.symm hb)).trans ((alB w3 _ (by have:=Cc b hb;omega)).trans (Dl.out.block b (Cc b hb)))) CM.out;have D1:Hid (bw w4 G name Ce ep nx (.slice a ms.length cap)):=(Cv.block G Dw).trans Dh.out;have DZ:Hid (dU w4 a ms):=Dg.out.step λB8 b off hb=>Cv.block b (DD.out B8 b off hb)
  have D2:Hid (jW B w4):=CX.out.step λb hb=>Cv.block b (by omega)
  have DW:Hid (fd w4 w.heap.size (.slice (some ⟨g,0,none⟩) (B6.length+1) gc) (B6++[ct])):=by
   unfold Hid fd;rw[fT,show(B6++[ct]).length=B6.length+1 by simp];exact Cg
  have DI:Hid (∀b,(Value.slice (some ⟨g,0,none⟩) (B6.length+1) gc).ownBlock=some b->(Value.slice qa B1.length qc).ownBlock≠some b):=by
   intro b hb Dp;injection hb with hb
   have hb:g=b:=hb;subst hb
   rcases CH with h1|h1
   ·exact CN.out _ h1 Dp
   ·have:=Cc _ Dp;omega
  have D3:w.heap.size<=w4.heap.size:=Cq.out.but.size;clear Cg B9 CH Cv Cc CT CM Dh Dg CX De CN CL Dl Dd kC;have gT:=fR DV.out DX.out CU.out D1.out DZ.out (by omega) (by omega) DH.out (λW hW=>D2.out W (hW.low C5 (by omega) DG.out));go_wp2_with fail;refine gT.mono ?_;rintro e w5 ⟨v3,rfl,CJ,CI,Co,B5⟩;clear gT;have CD:=iy (aG B1 ms) (B1,[]);have C4:=ee B1 ms;have C3:((aG B1 ms).foldl aV (B1,[])).2.length<=1000:=by simp at CD;omega
  have Cn:fd w5 w.heap.size (.slice (some ⟨g,0,none⟩) (B6.length+1) gc) (B6++[ct]):=DW.out.step B5 Cw DI.out;have DL:=B5.but.size;go_wp2_with(at_builtin;refine dH rfl (.tmp 18) (.tmp 20) 113 rfl 9 j0 (.string ByteArray.empty) 1 16 w.heap.size w4.heap.size Tryz.underlying113 hj C0 CZ CY rfl (by decide) _ _ rfl rfl _ _ _ _ Cn CJ (oR _) ?c6 ?c7 ?c8 ?_)
  case c6=>unfold maxLen;(try simp at Cd⊢);omega
  case c7=>(try simp at Cd⊢);omega
  case c8=>omega
  intro v6 w6 B3 B4;have Cm:Below w.heap.size w5 w6:=((Below.refl _ _)).grown B4 (by omega) (bY Cn);have C9:Hid (cD w6 V G look (.slice qa B1.length qc)):=(Cm.block V Cw).trans CI;have Df:Hid (ew w6 B (.slice qa B1.length qc) ((aG B1 ms).foldl aV (B1,[])).1):=ay (λb hb=>B4.block b (Co.lt b hb).2 (λe=>DI.out b e.symm hb)) Co;have Cp:Hid (aO V (Value.slice va ks.length vc) (.slice qa B1.length qc) w w6):=⟨(Cq.out.trans B5).but.then Cm rfl,(Cq.out.trans B5).row⟩;have Dc:Hid (fd w6 w.heap.size v6 ((B6++[ct])++((aG B1 ms).foldl aV (B1,[])).2)):=by
   unfold Hid fd;rw[show bD ((B6++[ct])++((aG B1 ms).foldl aV (B1,[])).2)=bD (B6++[ct])++bD ((aG B1 ms).foldl aV (B1,[])).2 by simp[bD]]
   (try simp only[List.length_append]at B3)
   (try simp only[List.length_cons]at B3)
   (try simp only[List.length_nil]at B3)
   (try simp only[Nat.zero_add]at B3)
   (try simp only[List.length_append])
   (try simp only[List.length_cons])
   (try simp only[List.length_nil])
   (try simp only[Nat.zero_add])
   exact B3
  have Db:Hid ((cq true ms ks).1=((aG B1 ms).foldl aV (B1,[])).1):=by
   unfold Hid cq;simp only[if_true,CW.out,CV.out]
  have Da:Hid ((cq true ms ks).2=(B6++[ct])++((aG B1 ms).foldl aV (B1,[])).2):=by
   unfold Hid cq;simp only[if_true,CW.out,DF.out,CV.out,CO.out]
   try simp
  clear B3 B4 Cm CJ CI Co B5 Cn CD C4 C3;go_wp2_with fail;go_ret;rw[Db.out,Da.out];exact⟨v6,(.slice qa B1.length qc),rfl,Dc.out,C9.out,Df.out,CU.out,Cp.out⟩
 ·rw[decide_eq_false Cu];have CO:Hid ((if Ck.length<B1.length then [(⟨([42,32,67,79,85,78,84,32]++Lib.itoa (B1.length:Int)).toArray⟩:ByteArray)]else [])=[]):=if_neg Cu;clear Cu;have gT:=fR CT.out CM.out CU.out Dh.out Dg.out (by omega) (by omega) DH.out (λW hW=>CX.out W (hW.low C5 (by omega) DG.out));go_wp2_with fail;refine gT.mono ?_;rintro e w5 ⟨v3,rfl,CJ,CI,Co,B5⟩;clear gT;have CD:=iy (aG B1 ms) (B1,[]);have C4:=ee B1 ms;have C3:((aG B1 ms).foldl aV (B1,[])).2.length<=1000:=by simp at CD;omega
  have Cn:fd w5 w.heap.size vl B6:=De.out.step B5 Cw CN.out;have DL:=B5.but.size;go_wp2_with(at_builtin;refine dH rfl (.tmp 18) (.tmp 20) 113 rfl 9 j0 (.string ByteArray.empty) 1 16 w.heap.size w2.heap.size Tryz.underlying113 hj C0 CZ CY rfl (by decide) _ _ rfl rfl _ _ _ _ Cn CJ (oR _) ?c6 ?c7 ?c8 ?_)
  case c6=>unfold maxLen;(try simp at Cd⊢);omega
  case c7=>(try simp at Cd⊢);omega
  case c8=>omega
  intro v6 w6 B3 B4;have Cm:Below w.heap.size w5 w6:=((Below.refl _ _)).grown B4 (by omega) (bY Cn);have C9:Hid (cD w6 V G look Cj):=(Cm.block V Cw).trans CI;have Df:Hid (ew w6 B Cj ((aG B1 ms).foldl aV (B1,[])).1):=ay (λb hb=>B4.block b (Co.lt b hb).2 (λe=>CN.out b e.symm hb)) Co;have Cp:Hid (aO V (Value.slice va ks.length vc) Cj w w6):=⟨(CL.out.trans B5).but.then Cm rfl,(CL.out.trans B5).row⟩;have Dc:Hid (fd w6 w.heap.size v6 (B6++((aG B1 ms).foldl aV (B1,[])).2)):=by
   unfold Hid fd;rw[show bD (B6++((aG B1 ms).foldl aV (B1,[])).2)=bD B6++bD ((aG B1 ms).foldl aV (B1,[])).2 by simp[bD]]
   (try simp only[List.length_append]at B3)
   (try simp only[List.length_cons]at B3)
   (try simp only[List.length_nil]at B3)
   (try simp only[Nat.zero_add]at B3)
   (try simp only[List.length_append])
   (try simp only[List.length_cons])
   (try simp only[List.length_nil])
   (try simp only[Nat.zero_add])
   exact B3
  have Db:Hid ((cq true ms ks).1=((aG B1 ms).foldl aV (B1,[])).1):=by
   unfold Hid cq;simp only[if_true,CW.out,CV.out]
  have Da:Hid ((cq true ms ks).2=B6++((aG B1 ms).foldl aV (B1,[])).2):=by
   unfold Hid cq;simp only[if_true,CW.out,DF.out,CV.out,CO.out]
   try simp
  clear B3 B4 Cm CJ CI Co B5 Cn CD C4 C3;go_wp2_with fail;go_ret;rw[Db.out,Da.out];exact⟨v6,Cj,rfl,Dc.out,C9.out,Df.out,CU.out,Cp.out⟩
end Go.Proofs.YtlbcgmlhaeeoeaaGreatDoor
