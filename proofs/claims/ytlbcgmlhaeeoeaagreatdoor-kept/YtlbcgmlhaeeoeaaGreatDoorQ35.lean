import Derived.Test.YtlbcgmlhaeeoeaaGreatDoorQ18
set_option maxRecDepth 100000
set_option maxHeartbeats 16000000
namespace Go.Proofs.YtlbcgmlhaeeoeaaGreatDoor
open Go.RowKit Go.Lib
theorem mn{g n cap k:Nat}{w:World}(hk:k<n):(Instr.indexAt 40 (.slice (some ⟨g,0,none⟩) n cap) (.int .i64 (k:Int))).run Tryz.prog w=.ok (.pointer (some ⟨g,k*2,none⟩)) w:=by
 have:=gb (g:=g) (off:=0) (cap:=cap) (w:=w) hk
 rwa [Nat.zero_add]at this
structure fY (D:bP):Prop where
 sure:D.sure=D.names
 since:D.since=[]
 node:∀(k:Nat) (x:bC),D.names[k]?=some x->∃(nd:Nat) (y:dG),x.node=(nd:Int)/\D.nodes[nd]?=some y/\y.safe=(y.data.length:Int)/\y.data.length<=1048576
def bm:Nat->List aW->List bC
 |_,[]=>[]
 |k,x::r=>⟨x.name,(k:Int)⟩::bm (k+1) r
def dp (xs:List aW):List dG:=xs.map λx=>⟨x.data,(x.data.length:Int)⟩
def fB (xs:List aW):bP:={names:=bm 0 xs,sure:=bm 0 xs,nodes:=dp xs,since:=[],made:=[]}
theorem cI:∀(k:Nat) (xs:List aW),(bm k xs).length=xs.length
 |_,[]=>rfl
 |k,_::r=>by simp[bm,cI (k+1) r]
theorem iS:∀(k:Nat) (xs:List aW) (x:aW),bm k (xs++[x])=bm k xs++[⟨x.name,((k+xs.length:Nat):Int)⟩]
 |k,[],x=>by simp[bm]
 |k,y::r,x=>by
  rw[List.cons_append,bm,iS (k+1) r x,bm];simp only[List.cons_append,List.length_cons];congr 4;omega
theorem mi(fb fo cap:Nat)(xs:List aW)(w:World)(hb:fb<w.heap.size)(hc:iV w fb fo xs)(hl:xs.length<=1048576):
  Calls Tryz.prog 4 #[.slice (some ⟨fb,fo,none⟩) xs.length cap] w λe w'=>e=.returned (.pointer (some ⟨w.heap.size,0,none⟩))/\(∃role V,cC role w.heap.size w.heap.size V (fB xs) w')/\Below w.heap.size w w':=by
 have Hc:=hid hc;clear hc;generalize Cz:w.heap.size=K at*;go_enter Tryz.func4,Tryz.ntmps4;go_wp2_with fail;go_loopw [4] (λi wr=>∃(k:Nat),k<=xs.length/\i=.int .i64 k/\Hid (∃role V,cC role K K V {names:=bm 0 (xs.take k),sure:=[],nodes:=dp (xs.take k),since:=[],made:=[]} wr)/\Hid (Below K w wr)) (λi _=>xs.length-(RowKit.intOf i).toNat)
 case atStart=>
  refine⟨0,alT _,rfl,⟨λb=>if b=K then 1 else 0,⟨.slice none 0 0,.slice none 0 0,.slice none 0 0,.slice none 0 0,.slice none 0 0⟩,alU,?_,by simp,fp.nil _ _ _ _ _ _,fp.nil _ _ _ _ _ _,fp.nil _ _ _ _ _ _,fp.nil _ _ _ _ _ _,fp.nil _ _ _ _ _ _⟩,(Below.refl _ _).alloc (by omega) _⟩;rw[←Cz];exact alA w _
 case round=>
  obtain⟨k,hk,rfl,hD,Cj⟩:=hrel;have Cq:K<=wr.heap.size:=Cz▸Cj.out.size
  by_cases Ch:k<xs.length
  ·obtain⟨role,V,h1⟩:=hD.out;have h1:=hid h1;have Cu:(xs.take k).length=k:=by simp;omega
   have Cn:(dp (xs.take k)).length=k:=by simp[dp];omega
   have Cx:(bm 0 (xs.take k)).length=k:=by rw[cI];exact Cu
   have HT:Hid (xs.take (k+1)=xs.take k++[xs[k]]):=alL Ch;obtain⟨c0,c1⟩:=Hc.out k xs[k] (by simp[Ch]);obtain⟨bn,CB,Cm⟩:=ai xs[k].name;obtain⟨bd,CC,Cw⟩:=ai xs[k].data;rw[←CB.out]at c0;rw[←CC.out]at c1;have fn:=(Cj.out.cell (p:=⟨fb,fo+k*2,none⟩) hb).trans c0;have f1:=(Cj.out.cell (p:=⟨fb,fo+k*2+1,none⟩) hb).trans c1;obtain⟨va,vc,Cg,_⟩:=bv h1.out.od.1;simp only[Cn]at Cg;have k2:=h1.out.cellsK.2.2.1;rw[Cg]at k2;have B6:wr.ownsRow K 48 2 (.slice va k vc) k (cG (dp (xs.take k))):=by
    have:=h1.out.od.1;rw[Cg]at this;simpa only[Cn]using this
   have B9:=(B6.drew).alloc (.cells #[.string bd,.int .i64 (bd.data.toList.length:Int)] 48);have Cy:some K≠(Value.slice va k vc).ownBlock:=λe=>by rw[←Cg]at e;have h4:=h1.out.od.2 K e.symm;rw[h1.out.rk]at h4;exact absurd h4 (by decide)
   have CH:some fb≠(Value.slice va k vc).ownBlock:=λe=>by have:=(B6.lt fb e.symm).1;omega
   have Cl:K<wr.heap.size:=h1.out.lt;have CJ:fb<wr.heap.size:=by omega
   have HN:=hid (And.intro Cn (And.intro Cx Cu));clear c0 c1 Cn Cx Cu CB CC;go_wp2_with fail;refine aA 21 (λw':World=>w'.cell? ⟨K,2,none⟩=some (.slice va k vc)/\w'.cell? ⟨fb,fo+k*2+1,none⟩=some (.string bd)) 22 rfl (by kernel_rfl) ⟨k2,f1⟩ (λa' Q hA hQ hP hS=>?_);have z:a'.tmps.size=59:=by rw[hA.out];rfl
   have e0:a'.eval (.tmp 0)=Value.slice (some ⟨fb,fo,none⟩) xs.length cap:=by rw[hA.out];rfl
   have e3:a'.eval (.tmp 3)=Value.pointer (some ⟨K,0,none⟩):=by rw[hA.out];rfl
   have e4:a'.eval (.tmp 4)=Value.int .i64 (k:Int):=by rw[hA.out];rfl
   refine tkA 0 (some 13) rfl rfl hP (λw hw=>ah rfl e3) hS ?_;refine tkA 1 (some 14) rfl rfl hP (λw hw=>ah rfl (ev1 e3)) hS ?_;refine tkA 2 (some 15) rfl rfl hP (λw hw=>aS rfl (evz (szq z))) hS ?_;refine tkA 3 (some 16) rfl rfl hP (λw hw=>aj ⟨K,2,none⟩ rfl (evz (sz2 z))) hS ?_;refine tkA 4 (some 17) rfl rfl hP (λw hw=>aq rfl (evz (sz2 (szq z))) (aH hw.1)) hS ?_;refine tkA 5 (some 18) rfl rfl hP (λw hw=>ah rfl (ev4 (ev1 e0))) hS ?_;refine tkA 6 (some 19) rfl rfl hP (λw hw=>ah rfl (ev4 (ev2 e4))) hS ?_;refine tkA 7 (some 20) rfl rfl hP (λw hw=>bJ (v:=.pointer (some ⟨fb,fo+k*2,none⟩)) rfl (ev1 (evz (sz4 (szq z)))) (evz (sz4 (sz2 z))) (dm Ch)) hS ?_;refine tkA 8 (some 21) rfl rfl hP (λw hw=>aj ⟨fb,fo+k*2+1,none⟩ rfl (evz (sz4 (sz2 (szq z))))) hS ?_;refine tkA 9 (some 22) rfl rfl hP (λw hw=>aq rfl (evz (sz8 z)) (aH hw.2)) hS ?_;refine tkA 10 (some 23) rfl rfl hP (λw hw=>ah rfl (ev8 (ev2 e0))) hS ?_;refine tkA 11 (some 24) rfl rfl hP (λw hw=>ah rfl (ev8 (ev2 (ev1 e4)))) hS ?_;refine tkA 12 (some 25) rfl rfl hP (λw hw=>bJ (v:=.pointer (some ⟨fb,fo+k*2,none⟩)) rfl (ev1 (evz (sz8 (sz2 z)))) (evz (sz8 (sz2 (szq z)))) (dm Ch)) hS ?_;refine tkA 13 (some 26) rfl rfl hP (λw hw=>aj ⟨fb,fo+k*2+1,none⟩ rfl (evz (sz8 (sz4 z)))) hS ?_;refine tkA 14 (some 27) rfl rfl hP (λw hw=>aq rfl (evz (sz8 (sz4 (szq z)))) (aH hw.2)) hS ?_;refine tkA 15 (some 28) rfl rfl hP (λw hw=>lW (v:=.int .i64 (bd.data.toList.length:Int)) rfl (evz (sz8 (sz4 (sz2 z)))) (λρ hρ=>by go_simp)) hS ?_;refine tkA 16 (some 29) rfl rfl hP (λw hw=>d8 (v:=.agg #[.string bd,.int .i64 (bd.data.toList.length:Int)]) rfl (ev4 (ev2 (evz (sz8 (szq z))))) (evz (sz8 (sz4 (sz2 (szq z))))) xy) hS ?_;have B7:(wr.drew.alloc (.cells #[.string bd,.int .i64 (bd.data.toList.length:Int)] 48)).cell? ⟨K,2,none⟩=some (.slice va k vc)/\(wr.drew.alloc (.cells #[.string bd,.int .i64 (bd.data.toList.length:Int)] 48)).cell? ⟨fb,fo+k*2+1,none⟩=some (.string bd):=⟨(aC ⟨K,2,none⟩ (alB wr.drew _ Cl)).trans k2,(aC ⟨fb,fo+k*2+1,none⟩ (alB wr.drew _ CJ)).trans f1⟩;refine dl (i:=17) (d:=some 30) (v:=.slice (some ⟨wr.drew.heap.size,0,none⟩) 1 1) (w':=wr.drew.alloc (.cells #[.string bd,.int .i64 (bd.data.toList.length:Int)] 48)) (by kernel_rfl) rfl rfl rfl rfl (evz (sz8 (sz8 z))) vq (λ_=>B7) ?_;refine cZ (i:=18) (d:=some 31) [.string bd,.int .i64 (bd.data.toList.length:Int)] (by kernel_rfl) rfl rfl rfl rfl ye (by decide) (ev8 (ev4 (ev1 (evz (sz4 z))))) B9 (evz (sz8 (sz8 (szq z)))) rfl (alF (cs:=#[.string bd,.int .i64 (bd.data.toList.length:Int)]) (t:=48) (fr:=(0,0)) (alA wr.drew _)) (by simp[Value.oneCell']) (by decide) (by unfold maxLen;omega) (by omega) (by simp;omega) ?_;intro g gc w3 B4 B1 Ce Ct;have r2:=(B1.cell_far ⟨K,2,none⟩ (by simp;omega) Cy).trans B7.1;have rf:=(B1.frozen_far ⟨K,2,none⟩ (by simp;omega) Cy).trans ((alE (a:=⟨K,2,none⟩) (alB wr.drew _ Cl)).trans (h1.out.cellsK.2.2.2.2.2 2));have r1:=(B1.cell_far ⟨fb,fo+k*2+1,none⟩ (by simp;omega) CH).trans B7.2;refine⟨λ_=>⟨r2,r1⟩,?_⟩;clear hS;have hS:=And.intro r2 r1;refine bz (i:=19) (d:=some 32) (by kernel_rfl) rfl rfl rfl (aS rfl (ev8 (ev8 (ev2 (evz z))))) (λ_=>hS) ?_;refine bz (i:=20) (d:=some 33) (by kernel_rfl) rfl rfl rfl (aj ⟨K,2,none⟩ rfl (evz (sz8 (sz8 (sz2 (szq z)))))) (λ_=>hS) ?_;refine et (i:=21) (by kernel_rfl) rfl rfl rfl rfl (evz (sz8 (sz8 (sz4 z)))) (ev2 (evz (sz8 (sz8 (sz2 z))))) (λw h1 h2=>by simp[Instr.storeAt,go_sem,h1,h2]) r2 rf (λh=>absurd rfl h) ?_;refine aB (by kernel_rfl) (hQ.out _ _ ?_) _;rw[hA.out];simp only[Act.put,List.setIfInBounds_toArray];dsimp only[List.set];clear hQ hP hA z hS Q a' e0 e3 e4 B7 r2 rf r1 k2 f1;rw[←Cg]at B1 Ce;have h4:=(h1.out.below (((Below.refl _ _).drew).alloc (alU) (.cells #[.string bd,.int .i64 (bd.data.toList.length:Int)] 48))).growD B1 (n:=k+1) (ns:=dp (xs.take (k+1))) (by simp[dp];omega) (by rw[HT.out];simp only[dp,List.map_append,List.map_cons,List.map_nil];rw[mj,←Cw.out];exact B4) (by simpa using Ce);have H4:=hid h4;have CA:Hid (Below K w (w3.setCell ⟨K,2,none⟩ (.slice (some ⟨g,0,none⟩) (k+1) gc))):=(((Cj.out.drew).alloc Cq _).grown B1 (by simp;omega) (λk' Cc=>by rw[Cg]at Cc;exact(B6.lt k' Cc).1)).setCell (alU) _;clear h4 B4 B1 Ce Ct B9 B6;generalize CG:w3.setCell ⟨K,2,none⟩ (.slice (some ⟨g,0,none⟩) (k+1) gc)=w4 at*;clear CG;obtain⟨na,nc,Cf,_⟩:=bv H4.out.on.1;simp only[HN.out.2.1]at Cf;have k0:=H4.out.cellsK.1;simp only[Cf]at k0;have B5:w4.ownsRow K 50 2 (.slice na k nc) k (bM (bm 0 (xs.take k))):=by
    have:=H4.out.on.1;simp only[Cf]at this;simpa only[HN.out.2.1]using this
   have B8:=(B5.drew).alloc (.cells #[.string bn,.int .i64 (k:Int)] 50);have Ci:some K≠(Value.slice na k nc).ownBlock:=λe=>by rw[←Cf]at e;have h4:=H4.out.on.2 K e.symm;rw[H4.out.rk]at h4;exact absurd h4 (by decide)
   have Cr:some fb≠(Value.slice na k nc).ownBlock:=λe=>by have:=(B5.lt fb e.symm).1;omega
   have Ck:K<w4.heap.size:=H4.out.lt;have Cv:fb<w4.heap.size:=by omega
   obtain⟨c0,_⟩:=Hc.out k xs[k] (by simp[Ch]);rw[←km Cm.out]at c0;have f0:=(CA.out.cell (p:=⟨fb,fo+k*2,none⟩) hb).trans c0;have Cp:K<=w4.heap.size:=by omega
   clear c0 fn;go_wp2_with fail;refine aA 16 (λw':World=>w'.cell? ⟨K,0,none⟩=some (.slice na k nc)/\w'.cell? ⟨fb,fo+k*2,none⟩=some (.string bn)) 17 rfl (by kernel_rfl) ⟨k0,f0⟩ (λa' Q hA hQ hP hS=>?_);have z:a'.tmps.size=59:=by rw[hA.out];rfl
   have e0:a'.eval (.tmp 0)=Value.slice (some ⟨fb,fo,none⟩) xs.length cap:=by rw[hA.out];rfl
   have e3:a'.eval (.tmp 3)=Value.pointer (some ⟨K,0,none⟩):=by rw[hA.out];rfl
   have e4:a'.eval (.tmp 4)=Value.int .i64 (k:Int):=by rw[hA.out];rfl
   refine tkA 0 (some 34) rfl rfl hP (λw hw=>ah rfl e3) hS ?_;refine tkA 1 (some 35) rfl rfl hP (λw hw=>ah rfl (ev1 e3)) hS ?_;refine tkA 2 (some 36) rfl rfl hP (λw hw=>aS rfl (evz (szq z))) hS ?_;refine tkA 3 (some 37) rfl rfl hP (λw hw=>aj ⟨K,0,none⟩ rfl (evz (sz2 z))) hS ?_;refine tkA 4 (some 38) rfl rfl hP (λw hw=>aq rfl (evz (sz2 (szq z))) (aH hw.1)) hS ?_;refine tkA 5 (some 39) rfl rfl hP (λw hw=>ah rfl (ev4 (ev1 e0))) hS ?_;refine tkA 6 (some 40) rfl rfl hP (λw hw=>ah rfl (ev4 (ev2 e4))) hS ?_;refine tkA 7 (some 41) rfl rfl hP (λw hw=>bJ (v:=.pointer (some ⟨fb,fo+k*2,none⟩)) rfl (ev1 (evz (sz4 (szq z)))) (evz (sz4 (sz2 z))) (dm Ch)) hS ?_;refine tkA 8 (some 42) rfl rfl hP (λw hw=>aj ⟨fb,fo+k*2,none⟩ rfl (evz (sz4 (sz2 (szq z))))) hS ?_;refine tkA 9 (some 43) rfl rfl hP (λw hw=>aq rfl (evz (sz8 z)) (aH hw.2)) hS ?_;refine tkA 10 (some 44) rfl rfl hP (λw hw=>ah rfl (ev8 (ev2 e4))) hS ?_;refine tkA 11 (some 45) rfl rfl hP (λw hw=>d8 (v:=.agg #[.string bn,.int .i64 (k:Int)]) rfl (ev1 (evz (sz8 (szq z)))) (evz (sz8 (sz2 z))) vv) hS ?_;have B7:(w4.drew.alloc (.cells #[.string bn,.int .i64 (k:Int)] 50)).cell? ⟨K,0,none⟩=some (.slice na k nc)/\(w4.drew.alloc (.cells #[.string bn,.int .i64 (k:Int)] 50)).cell? ⟨fb,fo+k*2,none⟩=some (.string bn):=⟨(aC ⟨K,0,none⟩ (alB w4.drew _ Ck)).trans k0,(aC ⟨fb,fo+k*2,none⟩ (alB w4.drew _ Cv)).trans f0⟩;refine dl (i:=12) (d:=some 46) (v:=.slice (some ⟨w4.drew.heap.size,0,none⟩) 1 1) (w':=w4.drew.alloc (.cells #[.string bn,.int .i64 (k:Int)] 50)) (by kernel_rfl) rfl rfl rfl rfl (evz (sz8 (sz2 (szq z)))) tN (λ_=>B7) ?_;refine cZ (i:=13) (d:=some 47) [.string bn,.int .i64 (k:Int)] (by kernel_rfl) rfl rfl rfl rfl vY (by decide) (ev8 (evz (sz4 z))) B8 (evz (sz8 (sz4 z))) rfl (alF (cs:=#[.string bn,.int .i64 (k:Int)]) (t:=50) (fr:=(0,0)) (alA w4.drew _)) (by simp[Value.oneCell']) (by decide) (by unfold maxLen;omega) (by omega) (by simp;omega) ?_;intro g2 CM w5 Ca B3 Cd Cs;have r2:=(B3.cell_far ⟨K,0,none⟩ (by simp;omega) Ci).trans B7.1;have rf:=(B3.frozen_far ⟨K,0,none⟩ (by simp;omega) Ci).trans ((alE (a:=⟨K,0,none⟩) (alB w4.drew _ Ck)).trans (H4.out.cellsK.2.2.2.2.2 0));have r1:=(B3.cell_far ⟨fb,fo+k*2,none⟩ (by simp;omega) Cr).trans B7.2;refine⟨λ_=>⟨r2,r1⟩,?_⟩;clear hS;have hS:=And.intro r2 r1;refine bz (i:=14) (d:=some 48) (by kernel_rfl) rfl rfl rfl (aS rfl (ev8 (ev4 (ev1 (evz z))))) (λ_=>hS) ?_;refine bz (i:=15) (d:=some 49) (by kernel_rfl) rfl rfl rfl (aj ⟨K,0,none⟩ rfl (evz (sz8 (sz4 (sz2 z))))) (λ_=>hS) ?_;refine et (i:=16) (by kernel_rfl) rfl rfl rfl rfl (evz (sz8 (sz4 (sz2 (szq z))))) (ev2 (evz (sz8 (sz4 (szq z))))) (λw h1 h2=>by simp[Instr.storeAt,go_sem,h1,h2]) r2 rf (λh=>absurd rfl h) ?_;refine aB (by kernel_rfl) (hQ.out _ _ ?_) _;rw[hA.out];simp only[Act.put,List.setIfInBounds_toArray];dsimp only[List.set];clear hQ hP hA z hS Q a' e0 e3 e4 B7 r2 rf r1 k0 f0;rw[←Cf]at B3 Cd;have h6:=(H4.out.below (((Below.refl _ _).drew).alloc (alU) (.cells #[.string bn,.int .i64 (k:Int)] 50))).growN B3 (n:=k+1) (ns:=bm 0 (xs.take (k+1))) (by rw[cI];simp;omega) (by rw[HT.out,iS,jC,HN.out.2.2,←Cm.out,Nat.zero_add];exact Ca) (by simpa using Cd);have H6:=hid h6;have CK:Hid (Below K w (w5.setCell ⟨K,0,none⟩ (.slice (some ⟨g2,0,none⟩) (k+1) CM))):=(((CA.out.drew).alloc Cp _).grown B3 (by simp;omega) (λk' Cc=>by rw[Cf]at Cc;exact(B5.lt k' Cc).1)).setCell (alU) _;clear h6 Ca B3 Cd Cs B8 B5 H4 h1 hD;go_wp2_with fail;exact⟨⟨k+1,by omega,by simp,⟨_,_,H6.out⟩,CK⟩,by simp[RowKit.intOf];omega⟩
  ·obtain⟨role,V,h1⟩:=hD.out;have h1:=hid h1;have CI:Hid (xs.take k=xs):=alO (by omega);rw[CI.out]at h1;obtain⟨a,n,Co,_⟩:=bv h1.out.on.1;simp only[cI]at Co;obtain⟨i0,hi,CF,CE,CD⟩:=alQ cv;have k0:=h1.out.cellsK.1;have k1:=h1.out.cellsK.2.1;have f1:=h1.out.cellsK.2.2.2.2.2 1;rw[Co]at k0;have Cb:=ri h1.out.on.1;rw[Co,cI]at Cb;have HV:=hid Cb;have Cl:K<wr.heap.size:=h1.out.lt;clear Cb hD;go_wp2_with(at_builtin;refine fq rfl _ (.tmp 54) 40 rfl 50 i0 _ 2 24 Tryz.underlying40 hi CF CE CD rfl (by decide) rfl (.slice a xs.length n) rfl xs.length (bM (bm 0 xs)) (by rw[kb,cI]) HV.out (nR _) (by unfold maxLen;omega) (by omega) ?_);intro ua uc w3 B4 B1;have m1:=(B1.cell_far ⟨K,1,none⟩ Cl (by simp)).trans k1;have q1:=(B1.frozen_far ⟨K,1,none⟩ Cl (by simp)).trans f1;have h5:=h1.out.newS B1 (ns:=bm 0 xs) (by rw[cI];exact B4) Cq;have H5:=hid h5;have CL:Hid (Below K w (w3.setCell ⟨K,1,none⟩ (.slice ua xs.length uc))):=(Cj.out.grown B1 Cq (λk' Cc=>by cases Cc)).setCell (alU) _;clear h5 B4 B1;go_wp2_with fail;go_ret;exact⟨rfl,⟨_,_,H5.out⟩,CL.out⟩
end Go.Proofs.YtlbcgmlhaeeoeaaGreatDoor
namespace Go.Proofs.YtlbcgmlhaeeoeaaGreatDoor
abbrev Bs:Go.Conc.Locks.MuLink:={lock:=31,unlock:=32,ilock:=51,iunlock:=52,lockSlow:=85,unlockSlow:=88,disable:=81,enable:=83,acquire:=84,relMerge:=86,cas32:=82,add32:=87,tMutex:=80,tIMutex:=78,tPMutex:=146,tPIMutex:=191,tPI32:=193,tUP:=195,tNoCopy:=75,tU32:=76}
theorem AY:Go.Conc.Locks.MuLib Tryz.prog Bs:=
 ⟨Tryz.func31,Tryz.func32,Tryz.func51,Tryz.func52,Tryz.func81,Tryz.func83,Tryz.func84,Tryz.func86,Tryz.func82,Tryz.func87,Tryz.underlying78,Tryz.runUnderlying78,Tryz.sizeOf78,Tryz.isAgg78,Tryz.zeroValue78,Tryz.underlying80,Tryz.runUnderlying80,Tryz.sizeOf80,Tryz.isAgg80,Tryz.zeroValue80,Tryz.underlying146,Tryz.runUnderlying146,Tryz.sizeOf146,Tryz.isAgg146,Tryz.zeroValue146,Tryz.underlying191,Tryz.runUnderlying191,Tryz.sizeOf191,Tryz.isAgg191,Tryz.zeroValue191,Tryz.underlying193,Tryz.runUnderlying193,Tryz.sizeOf193,Tryz.isAgg193,Tryz.zeroValue193,Tryz.underlying195,Tryz.runUnderlying195,Tryz.sizeOf195,Tryz.isAgg195,Tryz.zeroValue195,Tryz.underlying75,Tryz.runUnderlying75,Tryz.sizeOf75,Tryz.isAgg75,Tryz.zeroValue75,Tryz.underlying21,Tryz.runUnderlying21,Tryz.sizeOf21,Tryz.isAgg21,Tryz.zeroValue21,(by kernel_rfl)⟩
end Go.Proofs.YtlbcgmlhaeeoeaaGreatDoor
namespace Go.Proofs.YtlbcgmlhaeeoeaaGreatDoor
open Go.RowKit Go.Lib Go.MuLone
structure Sv where
 kt:Nat
 kf:Nat
 fr:Nat
 fc:Nat
 mv:Value
 tk:Value
 q:Int
def Sv.foot (s:Sv) (K b:Nat):Prop:=b=K∨b=s.kt∨b=s.kf∨b=s.fr∨s.mv.ownBlock=some b
def kw (w:World) (K kt:Nat) (q:Int) (tk:Value) (st:Int):Prop:=w.heap[K]?=some (.cells #[.int .i32 st,.int .u32 q,.pointer (some ⟨kt,0,none⟩),tk] 82 (0,0))
theorem kw.cells{w:World}{K kt:Nat}{q:Int}{tk:Value}{st:Int}(h:kw w K kt q tk st):w.cell? ⟨K,0,none⟩=some (.int .i32 st)/\w.cell? ⟨K,2,none⟩=some (.pointer (some ⟨kt,0,none⟩))/\(∀o,w.frozen? ⟨K,o,none⟩=false)/\K<w.heap.size:=by
 unfold kw at h;exact⟨by simp[World.cell?,h],by simp[World.cell?,h],λo=>by simp[World.frozen?,h],(alJ.1 h).1⟩
theorem kw.set{w:World}{K kt:Nat}{q:Int}{tk:Value}{st:Int}(h:kw w K kt q tk st)(z:Int):kw (w.setCell ⟨K,0,none⟩ (.int .i32 z)) K kt q tk z:=by
 have:=ag (o:=0) (.int .i32 z) h;unfold kw;simpa using this
structure pY (B K:Nat) (s:Sv) (ts:List (List UInt8)) (w:World):Prop where
 srv:kw w K s.kt s.q s.tk 0
 sto:mQ w s.kt s.fr s.fc
 row:ik w s.fr s.kf
 fol:bw w s.kf aw aw 1 ((ts.length+1:Nat):Int) s.mv
 own:cx w B s.mv (yI ts)
 base:B<=K/\B<=s.kt/\B<=s.kf/\B<=s.fr
 ne:K≠s.kt/\K≠s.kf/\K≠s.fr/\s.kt≠s.kf/\s.kt≠s.fr/\s.kf≠s.fr
 mne:s.mv.ownBlock≠some K/\s.mv.ownBlock≠some s.kt/\s.mv.ownBlock≠some s.kf/\s.mv.ownBlock≠some s.fr
theorem pY.lt{B K:Nat}{s:Sv}{ts:List (List UInt8)}{w:World}(h:pY B K s ts w):∀b,s.foot K b->b<w.heap.size:=by
 rintro b (rfl|rfl|rfl|rfl|hb)
 ·exact h.srv.cells.2.2.2
 ·exact h.sto.cells.2.2.2
 ·exact h.fol.cells.2.2.2.2.2.2
 ·exact h.row.2
 ·exact(h.own.lt b hb).2
theorem pY.ge{B K:Nat}{s:Sv}{ts:List (List UInt8)}{w:World}(h:pY B K s ts w):∀b,s.foot K b->B<=b:=by
 rintro b (rfl|rfl|rfl|rfl|hb)
 ·exact h.base.1
 ·exact h.base.2.1
 ·exact h.base.2.2.1
 ·exact h.base.2.2.2
 ·exact(h.own.lt b hb).1
theorem pY.kept{B K:Nat}{s:Sv}{ts:List (List UInt8)}{w w':World}(h:pY B K s ts w)(hb:∀b,s.foot K b->w'.heap[b]?=w.heap[b]?)(hs:w.heap.size<=w'.heap.size):pY B K s ts w':=
 ⟨(hb K (Or.inl rfl)).trans h.srv,(hb _ (Or.inr (Or.inl rfl))).trans h.sto,⟨(aC ⟨s.fr,0,none⟩ (hb _ (Or.inr (Or.inr (Or.inr (Or.inl rfl)))))).trans h.row.1,alH h.row.2 hs⟩,(hb _ (Or.inr (Or.inr (Or.inl rfl)))).trans h.fol,ay (λb B1=>hb b (Or.inr (Or.inr (Or.inr (Or.inr B1))))) h.own,h.base,h.ne,h.mne⟩
structure sP (K:Nat) (s s':Sv) (w w':World):Prop where
 os:w'.os=w.os
 tape:w'.tape=w.tape
 output:w'.output=w.output
 size:w.heap.size<=w'.heap.size
 block:∀b,b<w.heap.size->¬s.foot K b->w'.heap[b]?=w.heap[b]?
 foot:∀b,s'.foot K b->s.foot K b∨w.heap.size<=b
theorem sP.base{K B:Nat}{s s':Sv}{ts:List (List UInt8)}{w w':World}(h:sP K s s' w w')(ha:pY B K s ts w)(hB:B<=w.heap.size):Below B w w':=
 ⟨h.os,h.tape,h.output,h.size,λb hb=>h.block b (by omega) (λhf=>by have:=ha.ge b hf;omega)⟩
theorem sP.same{K:Nat}{s:Sv}{w w':World}(B4:w'.os=w.os)(B1:w'.tape=w.tape)(B3:w'.output=w.output)(hs:w.heap.size<=w'.heap.size)(hb:∀b,b<w.heap.size->b≠K->w'.heap[b]?=w.heap[b]?):sP K s s w w':=
 ⟨B4,B1,B3,hs,λb h1 h2=>hb b h1 (λe=>h2 (Or.inl e)),λ_ h=>Or.inl h⟩
end Go.Proofs.YtlbcgmlhaeeoeaaGreatDoor
