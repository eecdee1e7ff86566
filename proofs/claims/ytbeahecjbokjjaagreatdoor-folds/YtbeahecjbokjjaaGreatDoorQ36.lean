import Derived.Test.YtbeahecjbokjjaaGreatDoorQ35
set_option maxRecDepth 100000
set_option maxHeartbeats 16000000
namespace Go.Proofs.YtbeahecjbokjjaaGreatDoor
open Go.RowKit Go.Lib
theorem sZ{w:World}{B Cq:Nat}{v:Value}{fl:List (List UInt8)}(h:dA w B Cq v fl)(hl:fl.length<=100)(p:Nat)(h1:1<=p)(h2:p<=fl.length)(f:List UInt8)(hf:(∀b∈f,b≠32/\b≠10)/\f.length<=4)(B6:ByteArray)(B5:B6.data.toList=aV (p:Int) ([70,76,65,71,83,32]++f)):
  Calls Tryz.prog 17 #[.pointer (some ⟨Cq,0,none⟩),.string B6] w λe w'=>e=.returned (.tuple #[])/\∃v',dA w' B Cq v' (fl.set (p-1) f)/\dX Cq v v' w w':=by
 have Cd:B6.size<=1000000:=by
  have:=cD p (by omega);rw[Lib.size_eq,B5];simp[aV];omega
 have gW:=fw B6 Cd w;have Cc:Mb.splitC 32 (aV (p:Int) ([70,76,65,71,83,32]++f))=[[42],Lib.itoa (p:Int),[70,76,65,71,83],f]:=by
  rw[dv];congr 2;rw[show [70,76,65,71,83,32]++f=[70,76,65,71,83]++32::f by simp,Mb.splitC_app 32 _ _ (by decide),Mb.splitC_free 32 _ λb hb=>(hf.1 b hb).1]
 rw[B5,Cc]at gW;have HH:=hid h;clear h B5 Cd Cc;go_enter Tryz.func17,Tryz.ntmps17;go_wp2_with fail;refine gW.mono ?_;rintro e w1 ⟨vl,rfl,hO,hb⟩;obtain⟨gl,cl,rfl,Ch,Cn,hc⟩:=dY hO (by simp);have d2:w1.cell? ⟨gl,2,none⟩=some (.string ⟨#[70,76,65,71,83]⟩):=hc 2 _ rfl;obtain⟨bp,Ck,Ca⟩:=aj (Lib.itoa (p:Int));obtain⟨bf,Cl,Cb⟩:=aj f;have d1:w1.cell? ⟨gl,1,none⟩=some (.string bp):=by rw[Ck.out];exact hc 1 _ rfl
 have df:w1.cell? ⟨gl,3,none⟩=some (.string bf):=by rw[Cl.out];exact hc 3 _ rfl
 have Cj:gl≠Cq:=by have:=HH.out.lt;omega
 have Ci:v.ownBlock≠some gl:=λe=>by have:=(HH.out.own.lt gl e).2;omega
 have gN:=eq p (by omega) bp Ca.out w1.drew;have Ce:=HH.out.below hb;have B8:Below w1.heap.size w1 w1.drew:=(Below.refl _ _).drew;have gS:=rD (Ce.below B8) p h1 h2 (by omega) bf;rw[Cb.out]at gS;have Cm:=hid (hb.trans (B8.mono hb.size));simp only[List.length_cons,List.length_nil]at*;clear hO hc hb Ce gW B8;go_wp2_with fail;refine aC 9 (λw':World=>w'.cell? ⟨gl,1,none⟩=some (.string bp)/\w'.cell? ⟨gl,3,none⟩=some (.string bf)) 9 rfl (by kernel_rfl) ⟨d1,df⟩ (λa' Q hA hQ hP hS=>?_);have z:a'.tmps.size=183:=by rw[hA.out];rfl
 have e0:a'.eval (.tmp 0)=Value.pointer (some ⟨Cq,0,none⟩):=by rw[hA.out];rfl
 have e4:a'.eval (.tmp 4)=Value.slice (some ⟨gl,0,none⟩) 4 cl:=by rw[hA.out];rfl
 refine tkA 0 (some 114) rfl rfl hP (λwx hw=>ag rfl e0) hS ?_;refine tkA 1 (some 115) rfl rfl hP (λwx hw=>ag rfl (ev1 e4)) hS ?_;refine tkA 2 (some 116) rfl rfl hP (λwx hw=>bB (v:=.pointer (some ⟨gl,1,none⟩)) rfl (evz (szq z)) rfl (cG (k:=1) (by decide))) hS ?_;refine tkA 3 (some 117) rfl rfl hP (λwx hw=>aq rfl (evz (sz2 z)) (aO hw.1)) hS ?_;refine tkA 5 (some 119) rfl rfl hP (λwx hw=>ag rfl (ev4 e4)) hS ?_;refine tkA 6 (some 120) rfl rfl hP (λwx hw=>bB (v:=.pointer (some ⟨gl,3,none⟩)) rfl (evz (sz4 z)) rfl (cG (k:=3) (by decide))) hS ?_;refine tkA 7 (some 121) rfl rfl hP (λwx hw=>aq rfl (evz (sz4 (szq z))) (aO hw.2)) hS ?_;refine bG (i:=4) (d:=some 118) (by kernel_rfl) rfl rfl rfl rfl Tryz.func30 (by kernel_rfl) rfl (jy (ev2 (ev1 (evz (sz2 (szq z)))))) gN ?_;rintro e w3 ⟨rfl,rfl⟩;refine⟨_,rfl,λ_=>hS,?_⟩;refine bG (i:=8) (d:=some 122) (by kernel_rfl) rfl rfl rfl rfl Tryz.func31 (by kernel_rfl) rfl (rm (ev4 (ev2 (ev1 (evz z)))) (evz (sz4 (sz2 (szq z)))) (ev1 (evz (sz4 (sz2 z))))) gS ?_;rintro e w4 ⟨rfl,Cg,B9⟩;have HA:=hid (And.intro Cg B9);have B7:=B9.but.block gl Ch Cj Ci;have Cf:w4.cell? ⟨gl,1,none⟩=some (.string bp)/\w4.cell? ⟨gl,3,none⟩=some (.string bf):=⟨(aF ⟨gl,1,none⟩ B7).trans d1,(aF ⟨gl,3,none⟩ B7).trans df⟩;refine⟨_,rfl,λ_=>Cf,?_⟩;refine aD (by kernel_rfl) (hQ.out _ _ ?_) _;rw[hA.out];simp only[Act.put,List.setIfInBounds_toArray];dsimp only[List.set];clear hQ hP hA z hS Q a' e0 e4 Cg B9 B7 Cf;go_wp2_with fail;go_end0;exact⟨rfl,v,HA.out.1,(dX.of_below Cm.out).trans HA.out.2⟩
theorem xh{w:World}{B Cq:Nat}{v:Value}{fl:List (List UInt8)}(h:dA w B Cq v fl)(hl:fl.length<=100)(p:Nat)(h1:1<=p)(h2:p<=fl.length)(f:List UInt8)(hf:(∀b∈f,b≠32/\b≠10)/\f.length<=4)(B6:ByteArray)(B5:B6.data.toList=aV (p:Int) ([71,69,84,32,70,32]++f)):
  Calls Tryz.prog 17 #[.pointer (some ⟨Cq,0,none⟩),.string B6] w λe w'=>e=.returned (.tuple #[])/\∃v',dA w' B Cq v' (fl.set (p-1) f)/\dX Cq v v' w w':=by
 have Cd:B6.size<=1000000:=by
  have:=cD p (by omega);rw[Lib.size_eq,B5];simp[aV];omega
 have gW:=fw B6 Cd w;have Cc:Mb.splitC 32 (aV (p:Int) ([71,69,84,32,70,32]++f))=[[42],Lib.itoa (p:Int),[71,69,84],[70],f]:=by
  rw[dv];congr 2;rw[show [71,69,84,32,70,32]++f=[71,69,84]++32::([70]++32::f)by simp,Mb.splitC_app 32 _ _ (by decide),Mb.splitC_app 32 _ _ (by decide),Mb.splitC_free 32 _ λb hb=>(hf.1 b hb).1]
 rw[B5,Cc]at gW;have HH:=hid h;clear h B5 Cd Cc;go_enter Tryz.func17,Tryz.ntmps17;go_wp2_with fail;refine gW.mono ?_;rintro e w1 ⟨vl,rfl,hO,hb⟩;obtain⟨gl,cl,rfl,Ch,Cn,hc⟩:=dY hO (by simp);have d2:w1.cell? ⟨gl,2,none⟩=some (.string ⟨#[71,69,84]⟩):=hc 2 _ rfl;have d3:w1.cell? ⟨gl,3,none⟩=some (.string ⟨#[70]⟩):=hc 3 _ rfl;obtain⟨bp,Ck,Ca⟩:=aj (Lib.itoa (p:Int));obtain⟨bf,Cl,Cb⟩:=aj f;have d1:w1.cell? ⟨gl,1,none⟩=some (.string bp):=by rw[Ck.out];exact hc 1 _ rfl
 have df:w1.cell? ⟨gl,4,none⟩=some (.string bf):=by rw[Cl.out];exact hc 4 _ rfl
 have Cj:gl≠Cq:=by have:=HH.out.lt;omega
 have Ci:v.ownBlock≠some gl:=λe=>by have:=(HH.out.own.lt gl e).2;omega
 have gN:=eq p (by omega) bp Ca.out w1.drew;have Ce:=HH.out.below hb;have B8:Below w1.heap.size w1 w1.drew:=(Below.refl _ _).drew;have gS:=rD (Ce.below B8) p h1 h2 (by omega) bf;rw[Cb.out]at gS;have Cm:=hid (hb.trans (B8.mono hb.size));simp only[List.length_cons,List.length_nil]at*;clear hO hc hb Ce gW B8;go_wp2_with fail;refine aC 9 (λw':World=>w'.cell? ⟨gl,1,none⟩=some (.string bp)/\w'.cell? ⟨gl,4,none⟩=some (.string bf)) 9 rfl (by kernel_rfl) ⟨d1,df⟩ (λa' Q hA hQ hP hS=>?_);have z:a'.tmps.size=183:=by rw[hA.out];rfl
 have e0:a'.eval (.tmp 0)=Value.pointer (some ⟨Cq,0,none⟩):=by rw[hA.out];rfl
 have e4:a'.eval (.tmp 4)=Value.slice (some ⟨gl,0,none⟩) 5 cl:=by rw[hA.out];rfl
 refine tkA 0 (some 139) rfl rfl hP (λwx hw=>ag rfl e0) hS ?_;refine tkA 1 (some 140) rfl rfl hP (λwx hw=>ag rfl (ev1 e4)) hS ?_;refine tkA 2 (some 141) rfl rfl hP (λwx hw=>bB (v:=.pointer (some ⟨gl,1,none⟩)) rfl (evz (szq z)) rfl (cG (k:=1) (by decide))) hS ?_;refine tkA 3 (some 142) rfl rfl hP (λwx hw=>aq rfl (evz (sz2 z)) (aO hw.1)) hS ?_;refine tkA 5 (some 144) rfl rfl hP (λwx hw=>ag rfl (ev4 e4)) hS ?_;refine tkA 6 (some 145) rfl rfl hP (λwx hw=>bB (v:=.pointer (some ⟨gl,4,none⟩)) rfl (evz (sz4 z)) rfl (cG (k:=4) (by decide))) hS ?_;refine tkA 7 (some 146) rfl rfl hP (λwx hw=>aq rfl (evz (sz4 (szq z))) (aO hw.2)) hS ?_;refine bG (i:=4) (d:=some 143) (by kernel_rfl) rfl rfl rfl rfl Tryz.func30 (by kernel_rfl) rfl (jy (ev2 (ev1 (evz (sz2 (szq z)))))) gN ?_;rintro e w3 ⟨rfl,rfl⟩;refine⟨_,rfl,λ_=>hS,?_⟩;refine bG (i:=8) (d:=some 147) (by kernel_rfl) rfl rfl rfl rfl Tryz.func31 (by kernel_rfl) rfl (rm (ev4 (ev2 (ev1 (evz z)))) (evz (sz4 (sz2 (szq z)))) (ev1 (evz (sz4 (sz2 z))))) gS ?_;rintro e w4 ⟨rfl,Cg,B9⟩;have HA:=hid (And.intro Cg B9);have B7:=B9.but.block gl Ch Cj Ci;have Cf:w4.cell? ⟨gl,1,none⟩=some (.string bp)/\w4.cell? ⟨gl,4,none⟩=some (.string bf):=⟨(aF ⟨gl,1,none⟩ B7).trans d1,(aF ⟨gl,4,none⟩ B7).trans df⟩;refine⟨_,rfl,λ_=>Cf,?_⟩;refine aD (by kernel_rfl) (hQ.out _ _ ?_) _;rw[hA.out];simp only[Act.put,List.setIfInBounds_toArray];dsimp only[List.set];clear hQ hP hA z hS Q a' e0 e4 Cg B9 B7 Cf;go_wp2_with fail;go_end0;exact⟨rfl,v,HA.out.1,(dX.of_below Cm.out).trans HA.out.2⟩
theorem ik(p:Nat){b:ByteArray}(hb:b.data.toList=Lib.itoa (p:Int))(ws:List UInt8)(c:UInt8)(hc:c∈ws)(hd:57<c.toNat):(b.toList==ws)=false:=by
 rw[ByteArray.toList_eq,hb];simp only[beq_eq_false_iff_ne,ne_eq];intro e;rw[←e]at hc;have:=Mb.itoa_digit (p:Int) (by omega) c hc;simp[Mb.digit]at this;omega
theorem zA(p:Nat)(h1:1<=p)(h2:p<=1000)(w:World):(do eqGuard .sub 3 (.tmp 91) (.const (.int .i64 1)) (.int .i64 (p:Int)) (.int .i64 1);binOp .sub 3 (.int .i64 (p:Int)) (.int .i64 1):Sem Value).run Tryz.prog w=.ok (.int .i64 ((p-1:Nat):Int)) w:=by
 have e:((p-1:Nat):Int)=(p:Int)-1:=by omega
 have e2:IntKind.i64.wrap ((p:Int)-1)=(p:Int)-1:=by
  rw[IntWalk.i64_left];unfold wrap64;omega
 rw[e];go_simp
theorem y8{g n cap k:Nat}{w:World}(hk:k<=n)(hc:n<=cap):(Instr.sliceAt 33 (.slice (some ⟨g,0,none⟩) n cap) none (some (.int .i64 (k:Int))) none).run Tryz.prog w=.ok (.slice (some ⟨g,0,none⟩) k cap) w:=by
 have h1:¬(k:Int)<0:=by omega
 have h2:((k:Int)).toNat=k:=by omega
 have h3:k<=cap:=by omega
 go_simp
theorem y7{g n cap k:Nat}{w:World}(hk:k<=n)(hc:n<=cap):(Instr.sliceAt 33 (.slice (some ⟨g,0,none⟩) n cap) (some (.int .i64 (k:Int))) none none).run Tryz.prog w=.ok (.slice (some ⟨g,if cap=k then 0 else k,none⟩) (n-k) (cap-k)) w:=by
 have h1:¬(k:Int)<0:=by omega
 have h2:((k:Int)).toNat=k:=by omega
 have h3:k<=cap:=by omega
 go_simp
 split<;>rfl
theorem qN(ls:List (List UInt8)):∀u∈aJ (dj ls),u.oneCell'=true:=λu hu=>by
 simp only[aJ,List.mem_map]at hu;obtain⟨x,_,rfl⟩:=hu
 rfl
theorem uP{w:World}{B Cq:Nat}{v:Value}{fl:List (List UInt8)}(h:dA w B Cq v fl)(hB:B<=w.heap.size)(hl:fl.length<=100)(p:Nat)(h1:1<=p)(h2:p<=fl.length)(Ca:ByteArray)(B9:Ca.data.toList=aV (p:Int) [71,79,78,69]):
  Calls Tryz.prog 17 #[.pointer (some ⟨Cq,0,none⟩),.string Ca] w λe w'=>e=.returned (.tuple #[])/\∃v',dA w' B Cq v' (fl.eraseIdx (p-1))/\dX Cq v v' w w':=by
 have Ct:Ca.size<=1000000:=by
  have:=cD p (by omega);rw[Lib.size_eq,B9];simp[aV];omega
 have gW:=fw Ca Ct w;have Cs:Mb.splitC 32 (aV (p:Int) [71,79,78,69])=[[42],Lib.itoa (p:Int),[71,79,78,69]]:=by
  rw[dv];congr 2
 rw[B9,Cs]at gW;have HH:=hid h;clear h B9 Ct Cs;go_enter Tryz.func17,Tryz.ntmps17;go_wp2_with fail;refine gW.mono ?_;rintro e w1 ⟨vl,rfl,hO,hb⟩;obtain⟨gl,cl,rfl,CJ,CL,hc⟩:=dY hO (by simp);have d2:w1.cell? ⟨gl,2,none⟩=some (.string ⟨#[71,79,78,69]⟩):=hc 2 _ rfl;obtain⟨bp,CC,Cl⟩:=aj (Lib.itoa (p:Int));have d1:w1.cell? ⟨gl,1,none⟩=some (.string bp):=by rw[CC.out];exact hc 1 _ rfl
 have CH:(bp.toList==[67,79,85,78,84])=false:=ik p Cl.out _ 67 (by decide) (by decide);have gN:=λw=>eq p (by omega) bp Cl.out w
 have Cc:=HH.out.below hb;obtain⟨g,cap,hv,CK,Cy,CM,CN,Cf⟩:=Cc.form (λe=>by subst e;simp at h2;omega);subst hv;obtain⟨c0,c1,cf⟩:=Cc.cells;have Cx:=hid hb;have e1:decide ((p:Int)<1)=false:=decide_eq_false (by omega);have e2:decide (fl.length<p)=false:=decide_eq_false (by omega);have CF:=hid Cc;have Cz:=Cc.lt;have Co:=zA p h1 (by omega);obtain⟨off,Ck⟩:∃o,Hid (o=if cap=p then 0 else p):=⟨_,hid rfl⟩;have Ce:∀w:World,(Instr.sliceAt 33 (.slice (some ⟨g,0,none⟩) fl.length cap) (some (.int .i64 (p:Int))) none none).run Tryz.prog w=.ok (.slice (some ⟨g,off,none⟩) (fl.length-p) (cap-p)) w:=λw=>by rw[Ck.out];exact y7 h2 Cf
 have Cr:∀(j:Nat) (x:List UInt8),fl[j]?=some x->w1.cell? ⟨g,j,none⟩=some (.string ⟨x.toArray⟩):=λj x hx=>by
  have ho:=Cc.own;unfold cM at ho;rw[di]at ho;exact aE ho (by simp[aJ,dj,hx])
 have CE:Hid (∀j x,(aJ (dj (fl.take (p-1))))[j]?=some x->w1.cell? ((⟨g,0,none⟩:Addr).add j)=some x):=λj x hx=>by
  simp only[aJ,dj,List.getElem?_map,Option.map_eq_some_iff]at hx;obtain⟨_,⟨y,hy,rfl⟩,rfl⟩:=hx;rw[List.getElem?_take]at hy
  split at hy
  ·rw[Lib.add_plain];simpa using Cr j y hy
  ·cases hy
 have CD:Hid (∀j x,(aJ (dj (fl.drop p)))[j]?=some x->w1.cell? ((⟨g,off,none⟩:Addr).add j)=some x):=λj x hx=>by
  simp only[aJ,dj,List.getElem?_map,Option.map_eq_some_iff]at hx;obtain⟨_,⟨y,hy,rfl⟩,rfl⟩:=hx;rw[List.getElem?_drop]at hy;have CI:=(alK.1 hy).1;rw[Ck.out,if_neg (by omega)];rw[Lib.add_plain];exact Cr (p+j) y hy
 simp only[List.length_cons,List.length_nil]at*;clear hO hc hb gW Cc Cr;go_wp2_with(go_at_call 30;refine(gN _).mono ?_;rintro e w2 ⟨rfl,rfl⟩);refine aC 18 (λw':World=>w'.cell? ⟨Cq,0,none⟩=some (.slice (some ⟨g,0,none⟩) fl.length cap)) 19 rfl (by kernel_rfl) c0 (λa' Q hA hQ hP hS=>?_);have z:a'.tmps.size=183:=by rw[hA.out];rfl
 have e0:a'.eval (.tmp 0)=Value.pointer (some ⟨Cq,0,none⟩):=by rw[hA.out];rfl
 have e6:a'.eval (.tmp 6)=Value.int .i64 (p:Int):=by rw[hA.out];rfl
 refine tkA 0 (some 86) rfl rfl hP (λwx hw=>ag rfl e0) hS ?_;refine tkA 1 (some 87) rfl rfl hP (λwx hw=>ag rfl (ev1 e0)) hS ?_;refine tkA 2 (some 88) rfl rfl hP (λwx hw=>aI rfl (evz (szq z))) hS ?_;refine tkA 3 (some 89) rfl rfl hP (λwx hw=>ai ⟨Cq,0,none⟩ rfl (evz (sz2 z))) hS ?_;refine tkA 4 (some 90) rfl rfl hP (λwx hw=>aq rfl (evz (sz2 (szq z))) (aO hw)) hS ?_;refine tkA 5 (some 91) rfl rfl hP (λwx hw=>ag rfl (ev4 (ev1 e6))) hS ?_;refine tkA 6 (some 92) rfl rfl hP (λwx hw=>bz (v:=.int .i64 ((p-1:Nat):Int)) rfl (evz (sz4 (szq z))) rfl (Co _)) hS ?_;refine tkA 7 (some 93) rfl rfl hP (λwx hw=>kd (v:=.slice (some ⟨g,0,none⟩) (p-1) cap) rfl (ev2 (evz (sz4 z))) rfl (congrArg some (evz (sz4 (sz2 z)))) (y8 (by omega) Cf)) hS ?_;refine tkA 9 (some 95) rfl rfl hP (λwx hw=>ag rfl (ev8 e0)) hS ?_;refine tkA 10 (some 96) rfl rfl hP (λwx hw=>aI rfl (evz (sz8 z))) hS ?_;refine tkA 11 (some 97) rfl rfl hP (λwx hw=>ai ⟨Cq,0,none⟩ rfl (evz (sz8 (szq z)))) hS ?_;refine tkA 12 (some 98) rfl rfl hP (λwx hw=>aq rfl (evz (sz8 (sz2 z))) (aO hw)) hS ?_;refine tkA 13 (some 99) rfl rfl hP (λwx hw=>ag rfl (ev8 (ev4 e6))) hS ?_;refine tkA 14 (some 100) rfl rfl hP (λwx hw=>kd (v:=.slice (some ⟨g,off,none⟩) (fl.length-p) (cap-p)) rfl (ev1 (evz (sz8 (sz2 (szq z))))) (congrArg some (evz (sz8 (sz4 z)))) rfl (Ce _)) hS ?_;refine oX (v:=.slice none 0 0) (i:=8) (d:=some 94) (aJ (dj (fl.take (p-1)))) (by kernel_rfl) rfl rfl rfl rfl tT (by decide) rfl (alG _ w2.heap.size _ _) (ev4 (ev2 (evz (sz4 (sz2 (szq z)))))) (by simp[aJ,dj];omega) CE.out (qN _) (by unfold maxLen;omega) (by omega) (by simp) ?_;intro v8 w8 B8 B5;have Cp:w8.heap[Cq]?=w2.heap[Cq]?:=B5.block Cq Cz (by simp[Value.ownBlock]);have Cv:w8.heap[g]?=w2.heap[g]?:=B5.block g Cy (by simp[Value.ownBlock]);have s8:w8.cell? ⟨Cq,0,none⟩=some (.slice (some ⟨g,0,none⟩) fl.length cap):=(aF ⟨Cq,0,none⟩ Cp).trans c0;refine⟨λ_=>s8,?_⟩;refine oX (v:=v8) (i:=15) (d:=some 101) (aJ (dj (fl.drop p))) (by kernel_rfl) rfl rfl rfl rfl tT (by decide) (evz (sz8 (sz4 (sz2 z)))) B8 (ev1 (evz (sz8 (sz4 (szq z))))) (by simp[aJ,dj]) (λj x hj=>by have:=CD.out j x hj;rw[Lib.add_plain]at this⊢;exact(aF ⟨g,_,none⟩ Cv).trans this) (qN _) (by unfold maxLen;omega) (by omega) (alS (by simp) B5.size) ?_;intro CG Cd B7 B6;obtain⟨CB,CA,rfl,_⟩:=cx B7;have Cu:w2.heap.size<=w8.heap.size:=alS (by simp) B5.size;have Cn:∀b,v8.ownBlock=some b->w2.heap.size<=b:=λb hb=>(B8.lt b hb).1
 have Cb:Cd.heap[Cq]?=w2.heap[Cq]?:=(B6.block Cq (by omega) (λe=>by have:=Cn Cq e.symm;omega)).trans Cp;have Cm:Cd.cell? ⟨Cq,0,none⟩=some (.slice (some ⟨g,0,none⟩) fl.length cap):=(aF ⟨Cq,0,none⟩ Cb).trans c0;have Cw:Cd.frozen? ⟨Cq,0,none⟩=false:=(alE (a:=⟨Cq,0,none⟩) Cb).trans (cf 0);have Cg:But Cq (Value.slice (some ⟨g,0,none⟩) fl.length cap).ownBlock w2 Cd:=⟨B6.os.trans B5.os,B6.tape.trans B5.tape,B6.output.trans B5.output,alS Cu B6.size,λb hb _ _=>(B6.block b (by omega) (λe=>by have:=Cn b e.symm;omega)).trans (B5.block b hb (by simp[Value.ownBlock]))⟩;have Ch:cM Cd B (.slice CB (0+(p-1)+(fl.length-p)) CA) (dj (fl.eraseIdx (p-1))):=by
  have e:fl.eraseIdx (p-1)=fl.take (p-1)++fl.drop p:=by rw[List.eraseIdx_eq_take_drop_succ,show p-1+1=p by omega]
  have e2:aJ (dj (fl.eraseIdx (p-1)))=[]++aJ (dj (fl.take (p-1)))++aJ (dj (fl.drop p)):=by rw[e];simp[aJ,dj]
  have e3:(dj (fl.eraseIdx (p-1))).length=0+(p-1)+(fl.length-p):=by rw[di,e,List.length_append,List.length_take,List.length_drop];omega
  unfold cM;rw[e2,e3];exact io B7 (alS hB Cx.out.size)
 obtain⟨Cj,Ci⟩:=CF.out.put Cg Cb Ch (λb hb=>Or.inr (B7.lt b hb).1);have HA:=hid (And.intro Cj Ci);refine⟨λ_=>Cm,?_⟩;clear hS;have hS:=Cm;refine bb (i:=16) (d:=some 102) (by kernel_rfl) rfl rfl rfl (aI rfl (ev8 (ev4 (ev2 (ev1 (evz z)))))) (λ_=>hS) ?_;refine bb (i:=17) (d:=some 103) (by kernel_rfl) rfl rfl rfl (ai ⟨Cq,0,none⟩ rfl (evz (sz8 (sz8 z)))) (λ_=>hS) ?_;refine jh (i:=18) (by kernel_rfl) rfl rfl rfl rfl (evz (sz8 (sz8 (szq z)))) (ev2 (evz (sz8 (sz4 (sz2 (szq z)))))) (λw h1 h2=>by simp[Instr.storeAt,go_sem,h1,h2]) Cm Cw (λh=>absurd rfl h) ?_;refine aD (by kernel_rfl) (hQ.out _ _ ?_) _;rw[hA.out];simp only[Act.put,List.setIfInBounds_toArray];dsimp only[List.set];clear hQ hP hA z hS Q a' e0 e6 Cj Ci Ch Cg Cm Cw Cb Cu Cn B7 B6 B8 B5 s8 Cv Cp;go_wp2_with fail;go_end0;exact⟨rfl,_,HA.out.1,(dX.of_below Cx.out).trans HA.out.2⟩
theorem uQ{w:World}{B Cq:Nat}{v:Value}{fl:List (List UInt8)}(h:dA w B Cq v fl)(hl:fl.length<=100)(ps:List Nat)(Ca:∀p∈ps,1<=p/\p<=fl.length)(Cl:ps.length<=100)(B6:ByteArray)(B5:B6.data.toList=[42,32,70,73,78,68]++ps.flatMap λ(p:Nat)=>[32]++Lib.itoa (p:Int)):
  Calls Tryz.prog 17 #[.pointer (some ⟨Cq,0,none⟩),.string B6] w λe w'=>e=.returned (.tuple #[])/\∃v',dA w' B Cq v' fl/\dX Cq v v' w w':=by
 have Cc:B6.size<=1000000:=by
  have:=jp ps λp hp=>by have:=Ca p hp;omega
  rw[Lib.size_eq,B5,List.length_append];simp only[List.length_cons,List.length_nil];omega
 have gW:=fw B6 Cc w;rw[B5,kU]at gW;have HH:=hid h;have Ci:=hid Ca;clear h B5 Cc Ca;go_enter Tryz.func17,Tryz.ntmps17;go_wp2_with fail;refine gW.mono ?_;rintro e w1 ⟨vl,rfl,hO,hb⟩;obtain⟨gl,cl,rfl,Cr,Cs,hc⟩:=dY hO (by simp);have d1:w1.cell? ⟨gl,1,none⟩=some (.string ⟨#[70,73,78,68]⟩):=hc 1 _ rfl;obtain⟨n,HN⟩:∃n,Hid (([42]::[70,73,78,68]::ps.map λ(p:Nat)=>Lib.itoa (p:Int)).length=n):=⟨_,hid rfl⟩;have Cb:Hid (n=ps.length+2):=by unfold Hid;have:=HN.out;simp at this;omega
 have Cg:2<=n:=by have:=Cb.out;omega
 have Cp:n<=102:=by have:=Cb.out;omega
 rw[HN.out];have HC:Hid (∀(k:Nat),2<=k->k<n->∃p:Nat,(1<=p/\p<=fl.length)/\∃b:ByteArray,Hid (b.data.toList=Lib.itoa (p:Int))/\w1.cell? ⟨gl,k,none⟩=some (.string b)):=λk h2 h3=>by
  have hk:k-2<ps.length:=by have:=Cb.out;omega
  refine⟨ps[k-2],Ci.out _ (List.getElem_mem hk),⟨(Lib.itoa ((ps[k-2]:Nat):Int)).toArray⟩,hid rfl,hc k _ ?_⟩;obtain⟨j,rfl⟩:∃j,k=j+2:=⟨k-2,by omega⟩;simp at hk;simp[hk]
 obtain⟨b2,Ce,g1,g2,g3⟩:∃b2:ByteArray,(2<n->w1.cell? ⟨gl,2,none⟩=some (.string b2))/\(b2.toList==[71,79,78,69])=false/\(b2.toList==[70,76,65,71,83])=false/\(b2.toList==[71,69,84])=false:=by
  by_cases h2:2<n
  ·obtain⟨p,_,b,hb,B7⟩:=HC.out 2 (alU) h2;exact⟨b,λ_=>B7,ik p hb.out _ 71 (by decide) (by decide),ik p hb.out _ 70 (by decide) (by decide),ik p hb.out _ 71 (by decide) (by decide)⟩
  ·exact⟨⟨#[]⟩,λe=>absurd e h2,by rw[ByteArray.toList_eq];decide,by rw[ByteArray.toList_eq];decide,by rw[ByteArray.toList_eq];decide⟩
 obtain⟨q3,q4,q5,Cw,Cv,Cu,hq⟩:∃q3 q4 q5:Bool,((n:Int)==3)=q3/\((n:Int)==4)=q4/\((n:Int)==5)=q5/\((q3=true/\q4=false/\q5=false/\2<n)∨(q3=false/\q4=true/\q5=false/\2<n)∨(q3=false/\q4=false/\q5=true/\2<n)∨(q3=false/\q4=false/\q5=false/\True)):=by
  refine⟨_,_,_,rfl,rfl,rfl,?_⟩
  by_cases e3:n=3
  ·subst e3;exact Or.inl (by decide)
  ·by_cases e4:n=4
   ·subst e4;exact Or.inr (Or.inl (by decide))
   ·by_cases e5:n=5
    ·subst e5;exact Or.inr (Or.inr (Or.inl (by decide)))
    ·exact Or.inr (Or.inr (Or.inr ⟨by simp;omega,by simp;omega,by simp;omega,trivial⟩))
 have Ct:decide (1<(n:Int))=true:=decide_eq_true (by omega);have B8:=HH.out.below hb;obtain⟨c0,c1,cf⟩:=B8.cells;obtain⟨va,vc,Cf⟩:=eX B8.own;subst Cf;have Ck:=hid hb;have Cj:=hid B8;clear hO hc hb gW B8 cf c1
 rcases hq with⟨rfl,rfl,rfl,B9⟩|⟨rfl,rfl,rfl,B9⟩|⟨rfl,rfl,rfl,B9⟩|⟨rfl,rfl,rfl,B9⟩<;>(
  try have d2:=Ce B9
  clear Ce;go_wp2_with fail;go_loopw [7] (λi wr=>∃k:Nat,2<=k/\k<=n/\i=.int .i64 (k:Int)/\wr=w1) (λi _=>n-(RowKit.intOf i).toNat)
  case atStart=>exact⟨2,alU,Cg,rfl,rfl⟩
  case round=>
   obtain⟨k,Ch,hk,rfl,rfl⟩:=hrel
   by_cases Cd:k<n
   ·obtain⟨p,⟨Cn,Cm⟩,b,hb,B7⟩:=HC.out k Ch Cd;have hI:=cG (g:=gl) (cap:=cl) (w:=wr) Cd;have gN:=eq p (by omega) b hb.out wr;have e1:decide ((p:Int)<1)=false:=decide_eq_false (by omega);have e2:decide (fl.length<p)=false:=decide_eq_false (by omega);go_wp2_with(go_at_call 30;refine gN.mono ?_;rintro e w2 ⟨rfl,rfl⟩);exact⟨⟨k+1,by omega,by omega,by simp,trivial⟩,by simp[RowKit.intOf];omega⟩
   ·have Co:¬(k:Int)<(n:Int):=by omega
    go_wp2_with fail;go_end0;exact⟨rfl,_,Cj.out,dX.of_below Ck.out⟩)
theorem za{w:World}{B Cq:Nat}{v:Value}{fl B7:List (List UInt8)}{gn:Bool}{l:List UInt8}(h:dA w B Cq v fl)(hB:B<=w.heap.size)(hl:fl.length<=100)(hr:eC gn l fl B7)(hp:l≠[43])(B6:ByteArray)(B5:B6.data.toList=l):
  Calls Tryz.prog 17 #[.pointer (some ⟨Cq,0,none⟩),.string B6] w λe w'=>e=.returned (.tuple #[])/\∃v',dA w' B Cq v' B7/\dX Cq v v' w w':=by
 cases hr with
 |plus=>exact absurd rfl hp
 |count n _ h1 h2=>exact s5 h hB n h1 h2 B6 B5
 |gone _ p _ h1 h2=>exact uP h hB hl p h1 h2 B6 B5
 |flags p f _ h1 h2 hf=>exact sZ h hl p h1 h2 f hf B6 B5
 |get p f _ h1 h2 hf=>exact xh h hl p h1 h2 f hf B6 B5
 |find ps _ hh hpl=>exact uQ h hl ps hh hpl B6 B5
end Go.Proofs.YtbeahecjbokjjaaGreatDoor
