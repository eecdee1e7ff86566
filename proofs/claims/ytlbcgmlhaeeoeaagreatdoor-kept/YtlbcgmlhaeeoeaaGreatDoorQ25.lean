import Derived.Test.YtlbcgmlhaeeoeaaGreatDoorQ24
set_option maxRecDepth 100000
set_option maxHeartbeats 16000000
namespace Go.Proofs.YtlbcgmlhaeeoeaaGreatDoor
open Go.RowKit Go.Lib
theorem nP(x c:Int)(w:World):Calls Tryz.prog 295 #[.int .i64 x,.int .i64 c] w λe w'=>e=.returned (.int .i64 (if x=0 then c else x))/\w'=w:=by
 by_cases h:x=0
 ·subst h;go_enter Tryz.func295,Tryz.ntmps295;go_wp2;go_ret;exact⟨rfl,rfl⟩
 ·rw[if_neg h];have h2:(x==0)=false:=by simpa using h
  have HH:=hid h;clear h;go_enter Tryz.func295,Tryz.ntmps295;go_wp2;go_ret;exact⟨rfl,rfl⟩
theorem tF(s:Value)(w:World):Calls Tryz.prog 274 #[s,.int .i64 0] w λe w'=>e=.returned (.tuple #[.slice none 0 0,.bool false])/\w'=w:=by
 go_enter Tryz.func274,Tryz.ntmps274;go_wp2;go_ret2;exact⟨rfl,rfl⟩
def iM (n j:Nat):Array Value:=(List.replicate j (Value.bool true)++List.replicate (n-j) (Value.bool false)).toArray
def rI (n:Nat):List Value:=(List.range n).map λ(i:Nat)=>Value.int .i64 ((i:Int)+1)
theorem wM(n:Nat):rI (n+1)=rI n++[.int .i64 ((n:Int)+1)]:=by simp[rI,List.range_succ]
theorem sO:(Tryz.prog.info? 4).map (λi=>(i.zero,i.size,i.bytes))=some (some (.bool false),1,1):=by kernel_rfl
theorem jD{n j:Nat}(h:j<=n):(iM n j).size=n:=by simp[iM];omega
theorem jg{n j k:Nat}(hk:k<n)(_:j<=n):(iM n j)[k]?=some (.bool (decide (k<j))):=by
 unfold iM;rw[List.getElem?_toArray,List.getElem?_append]
 by_cases B1:k<j
 ·simp[B1]
 ·simp[B1,List.getElem?_replicate];omega
theorem xC{n j:Nat}(h:j<n):(iM n j).setIfInBounds j (.bool true)=iM n (j+1):=by
 apply Array.ext_getElem?;intro k
 by_cases hk:k<n
 ·rw[Array.getElem?_setIfInBounds,jg hk h,jD (by omega)]
  by_cases e:j=k
  ·subst e;simp[h]
  ·rw[if_neg e,jg hk (by omega)];simp;omega
 ·rw[Array.getElem?_eq_none (by simp[jD (show j<=n by omega)];omega),Array.getElem?_eq_none (by rw[jD h];omega)]
theorem ul{g n cap k:Nat}{w:World}(hk:k<n):(Instr.indexAt 389 (.slice (some ⟨g,0,none⟩) n cap) (.int .i64 (k:Int))).run Tryz.prog w=.ok (.pointer (some ⟨g,k,none⟩)) w:=by
 have h1:¬(k:Int)<0:=by omega
 have h2:((k:Int)).toNat=k:=by omega
 go_simp
theorem uj{w:World}{b o:Nat}{cs:Array Value}{t:TypeId}{fr:Nat×Nat}{v:Value}(h:w.heap[b]?=some (.cells cs t fr))(hv:cs[o]?=some v):w.cell? ⟨b,o,none⟩=some v:=by
 simp[World.cell?,h,hv]
theorem sN:(Tryz.prog.info? 3).map (λi=>(i.zero,i.size,i.bytes))=some (some (.int .i64 0),1,8):=by kernel_rfl
theorem fZ{w:World}{B B':Nat}{e:TypeId}{size:Nat}{v:Value}{n:Nat}{xs:List Value}(h:w.ownsRow B e size v n xs)(hb:B'<=B):w.ownsRow B' e size v n xs:=by
 refine⟨h.1,h.2.imp id ?_⟩;rintro⟨g,c,B1,h1,h2,h3⟩;exact⟨g,c,B1,h1,alS hb h2,h3⟩
theorem vA(n:Nat)(hn:n<=1000)(w:World):(Instr.makeSlice 389 (.int .i64 (n:Int)) (.int .i64 (n:Int))).run Tryz.prog w=.ok (.slice (some ⟨w.heap.size,0,none⟩) n n) (w.alloc (.cells (iM n 0) 4)):=by
 obtain⟨i0,hi,B4,B3,B1⟩:=alQ sO;rw[run_make (P:=Tryz.prog) (w:=w) 389 4 i0 _ Tryz.underlying389 hi B4 .i64 .i64 n n (by omega) (by omega) (by rw[B1];omega) (by omega),B3];rw[show madeCells (Value.bool false).cells (((n:Int)).toNat*1)=iM n 0 by
  apply Array.ext_getElem?;intro k
  by_cases hk:k<n
  ·rw[jg hk (by omega)];simp[madeCells,hk,Value.cells,Nat.mod_one]
  ·rw[Array.getElem?_eq_none (by rw[size_madeCells];omega),Array.getElem?_eq_none (by rw[jD (by omega)];omega)]]
 simp
theorem uX{w:World}{g c n hi:Nat}{y:Int}(hs:eG w g 1 y)(hy:(if y=0 then(n:Int)else y)=(hi:Int))(h1:1<=hi)(h2:hi<=n)(hn:n<=1000):
  Calls Tryz.prog 274 #[.slice (some ⟨g,0,none⟩) 1 c,.int .i64 (n:Int)] w λe w'=>(∃v,e=.returned (.tuple #[v,.bool true])/\w'.ownsRow w.heap.size 3 1 v hi (rI hi))/\Below w.heap.size w w':=by
 have Ct:((n:Int)==0)=false:=by simp;omega
 have Ce:=hs.lt;have HS:=hid hs;have B6:=vA n hn;clear hs;go_enter Tryz.func274,Tryz.ntmps274;go_wp2_with fail;go_loopw [21] (λi wr=>((i=.int .i64 0/\Hid (wr.heap[w.heap.size]?=some (.cells (iM n 0) 4 (0,0))))∨(i=.int .i64 1/\Hid (wr.heap[w.heap.size]?=some (.cells (iM n hi) 4 (0,0)))))/\Hid (Below w.heap.size w wr)) (λi _=>1-(RowKit.intOf i).toNat)
 case atStart=>exact⟨Or.inl ⟨rfl,alA w _⟩,ax⟩
 case round=>
  clear B6;obtain⟨⟨rfl,hM⟩|⟨rfl,hM⟩,B3⟩:=hrel
  ·have d0:=(B3.out.cell (p:=⟨g,0,none⟩) Ce).trans HS.out.1;have d1:=(B3.out.cell (p:=⟨g,1,none⟩) Ce).trans HS.out.2;have Cc:w.heap.size<wr.heap.size:=(alJ.1 hM.out).1;have Cf:(wr.alloc (.cells #[.int .i64 1,.int .i64 y] 359)).heap[wr.heap.size]?=some (.cells #[.int .i64 1,.int .i64 y] 359 (0,0)):=alA wr _;have Ci:Hid (Below w.heap.size w (wr.alloc (.cells #[.int .i64 1,.int .i64 y] 359))):=B3.out.alloc B3.out.size _;have Cg:Hid ((wr.alloc (.cells #[.int .i64 1,.int .i64 y] 359)).heap[w.heap.size]?=some (.cells (iM n 0) 4 (0,0))):=(alB wr _ Cc).trans hM.out;have Cb:=hid Cf;clear Cf;go_wp2_with fail;generalize(wr.alloc (.cells #[.int .i64 1,.int .i64 y] 359))=w1 at*;generalize wr.heap.size=K at*;have s0:w1.drew.cell? ⟨K,0,none⟩=some (.int .i64 1):=ae (o:=0) Cb.out rfl;have s1:w1.drew.cell? ⟨K,1,none⟩=some (.int .i64 y):=ae (o:=1) Cb.out rfl;refine aA 9 (λw':World=>w'.cell? ⟨K,0,none⟩=some (.int .i64 1)/\w'.cell? ⟨K,1,none⟩=some (.int .i64 y)) 10 rfl (by kernel_rfl) ⟨s0,s1⟩ (λa' Q hA hQ hP hS=>?_);have z:a'.tmps.size=68:=by rw[hA.out];rfl
   have e1:a'.eval (.tmp 1)=Value.int .i64 (n:Int):=by rw[hA.out];rfl
   have e8:a'.eval (.tmp 8)=Value.pointer (some ⟨K,0,none⟩):=by rw[hA.out];rfl
   refine tkA 0 (some 25) rfl rfl hP (λwx hw=>je (p':=⟨K,0,none⟩) rfl e8 (λw=>by kernel_rfl)) hS ?_;refine tkA 1 (some 26) rfl rfl hP (λwx hw=>aq rfl (evz z) (aH hw.1)) hS ?_;refine tkA 2 (some 27) rfl rfl hP (λwx hw=>ah rfl (ev2 e1)) hS ?_;refine tkA 4 (some 29) rfl rfl hP (λwx hw=>aj ⟨K,1,none⟩ rfl (ev2 (ev1 e8))) hS ?_;refine tkA 5 (some 30) rfl rfl hP (λwx hw=>aq rfl (evz (sz2 (szq z))) (aH hw.2)) hS ?_;refine tkA 6 (some 31) rfl rfl hP (λwx hw=>ah rfl (ev4 (ev1 e1))) hS ?_;refine cE (i:=3) (d:=some 28) (by kernel_rfl) rfl rfl rfl rfl Tryz.func295 (by kernel_rfl) rfl (fm (ev4 (evz (szq z))) (ev2 (ev1 (evz (sz2 z))))) (nP 1 n w1.drew) ?_;rintro e w3 ⟨rfl,rfl⟩;rw[if_neg (show¬(1:Int)=0 by decide)];refine⟨_,rfl,λ_=>hS,?_⟩;refine cE (i:=7) (d:=some 32) (by kernel_rfl) rfl rfl rfl rfl Tryz.func295 (by kernel_rfl) rfl (fm (ev2 (evz (sz4 z))) (ev1 (evz (sz4 (szq z))))) (nP y n w1.drew) ?_;rintro e w3 ⟨rfl,rfl⟩;rw[hy];refine⟨_,rfl,λ_=>hS,?_⟩;refine bz (i:=8) (d:=some 9) (by kernel_rfl) rfl rfl rfl (aR rfl (ev1 (evz (sz4 (sz2 z))))) (λ_=>hS) ?_;refine bz (i:=9) (d:=some 10) (by kernel_rfl) rfl rfl rfl (aR rfl (ev1 (evz (sz4 (sz2 (szq z)))))) (λ_=>hS) ?_;refine aB (by kernel_rfl) (hQ.out _ _ ?_) _;rw[hA.out];simp only[Act.put,List.setIfInBounds_toArray];dsimp only[List.set];clear hQ hP hA z hS Q a' e1 e8 s0 s1;have Cu:max (1:Int) (hi:Int)=hi:=by omega
   have Cv:min (1:Int) (hi:Int)=1:=by omega
   have e1:¬(hi:Int)>(n:Int):=by omega
   have Cs:Hid (Below w.heap.size w w1.drew):=Ci.out.drew;have Cr:Hid (w1.drew.heap[w.heap.size]?=some (.cells (iM n 0) 4 (0,0))):=Cg.out;go_wp2_with fail;clear Ci Cg Cb;generalize w1.drew=w2 at*;clear hM B3 d0 d1 Cc w1 wr;go_loopw [11] (λi wr=>∃j:Nat,i=.int .i64 ((j:Int)+1)/\j<=hi/\Hid (wr.heap[w.heap.size]?=some (.cells (iM n j) 4 (0,0)))/\Hid (Below w.heap.size w wr)) (λi _=>hi+1-(RowKit.intOf i).toNat)
   case atStart=>exact⟨0,rfl,alT _,Cr,Cs⟩
   case round=>
    obtain⟨j,rfl,hj,B9,B3⟩:=hrel
    by_cases Cm:j<hi
    ·have hI:∀w1,(Instr.indexAt 389 (.slice (some ⟨w.heap.size,0,none⟩) n n) (.int .i64 (j:Int))).run Tryz.prog w1=.ok (.pointer (some ⟨w.heap.size,j,none⟩)) w1:=λw1=>ul (by omega)
     have c0:wr.cell? ⟨w.heap.size,j,none⟩=some (.bool false):=uj B9.out (by rw[jg (by omega) (by omega)];simp);have f0:=aD B9.out j;go_wp2_with fail;refine⟨⟨j+1,by simp,by omega,?_,B3.out.setCell (alU) _⟩,by simp[RowKit.intOf];omega⟩;unfold Hid;rw[ag (o:=j) _ B9.out,xC (by omega)]
    ·have Co:j=hi:=by omega
     subst Co;go_wp2_with fail;exact⟨⟨Or.inr ⟨rfl,B9⟩,B3⟩,by simp[RowKit.intOf]⟩
  ·obtain⟨i0,Cp,Cl,Ck,Cj⟩:=alQ sN;go_wp2_with fail;have B8:w.heap.size<wr.heap.size:=(alJ.1 hM.out).1;rename World=>wo
   go_loopw [12,55] (λvo i wr=>∃k:Nat,k<=n/\i=.int .i64 (k:Int)/\Hid (wr.ownsRow (w.heap.size+1) 3 1 vo (min k hi) (rI (min k hi)))/\Hid (wr.heap[w.heap.size]?=some (.cells (iM n hi) 4 (0,0)))/\Hid (Below w.heap.size w wr)) (λ_ i _=>n-(RowKit.intOf i).toNat)
   case atStart=>exact⟨0,alT _,rfl,by simpa[rI,Hid]using alG _ _ _ _,hM,B3⟩
   case round=>
    clear hM B3 B8;obtain⟨k,hk,rfl,B1,hM,B3⟩:=hrel;have B8:w.heap.size<wr.heap.size:=(alJ.1 hM.out).1
    by_cases Cm:k<n
    ·have hI:∀w1,(Instr.indexAt 389 (.slice (some ⟨w.heap.size,0,none⟩) n n) (.int .i64 (k:Int))).run Tryz.prog w1=.ok (.pointer (some ⟨w.heap.size,k,none⟩)) w1:=λw1=>ul (by omega)
     have c0:wr.cell? ⟨w.heap.size,k,none⟩=some (.bool (decide (k<hi))):=uj hM.out (by rw[jg (by omega) (by omega)])
     by_cases Cd:k<hi
     ·rw[decide_eq_true Cd]at c0;have B6:min k hi=k:=by omega
      have Ca:min (k+1) hi=k+1:=by omega
      rw[B6]at B1;go_wp2_with(at_builtin;refine wpList_append_own _ rfl (.tmp 61) (.tmp 64) 31 rfl (w.heap.size+1) 3 i0 (.int .i64 0) 1 8 Tryz.underlying31 Cp Cl Ck Cj rfl (by decide) _ k (rI k) rfl (B1.out.alloc _) ⟨wr.heap.size,0,none⟩ 1 1 [.int .i64 ((k:Int)+1)] rfl rfl ?c1 ?c2 ?c3 ?c4 ?c5 ?_)
      case c1=>exact alF (cs:=#[.int .i64 ((k:Int)+1)]) (t:=3) (fr:=(0,0)) (alA wr _)
      case c2=>intro u hu;simp only[List.mem_cons,List.not_mem_nil,or_false]at hu;subst hu;rfl
      case c3=>unfold maxLen;omega
      case c4=>omega
      case c5=>simp;omega
      intro v' w6 B4 B5 B7;have Ch:Hid (Below (w.heap.size+1) wr w6):=((Below.refl _ _).alloc (by omega) _).grown B5 (by simp;omega) (bY B1.out);rw[←wM]at B4;have Cq:=hid B4;clear B4 B5 B7;go_wp2_with fail;refine⟨⟨k+1,by omega,by simp,?_,(Ch.out.block _ (by omega)).trans hM.out,B3.out.trans (Ch.out.mono (by omega))⟩,by simp[RowKit.intOf];omega⟩;unfold Hid;rw[Ca];exact Cq.out
     ·rw[decide_eq_false Cd]at c0;have B6:min k hi=min (k+1) hi:=by omega
      rw[B6]at B1;go_wp2_with fail;exact⟨⟨k+1,by omega,by simp,B1,hM,B3⟩,by simp[RowKit.intOf];omega⟩
    ·have Cn:k=n:=by omega
     subst Cn;have B6:min k hi=hi:=by omega
     rw[B6]at B1;go_wp2_with fail;go_ret2;exact⟨⟨_,rfl,fZ B1.out (by omega)⟩,B3.out⟩
theorem yK{w:World}{B hi:Nat}{v:Value}(h:w.ownsRow B 3 1 v hi (rI hi))(h1:1<=hi)(h2:hi<=1000):∃g cap,v=.slice (some ⟨g,0,none⟩) hi cap/\g<w.heap.size/\∀(W:World) (x:Int),W.heap[g]?=w.heap[g]?->1<=x->Calls Tryz.prog 275 #[.slice (some ⟨g,0,none⟩) hi cap,.int .i64 x] W λe w'=>e=.returned (.bool (decide (x<=(hi:Int))))/\w'=W:=by
 rcases h.2 with⟨_,h0⟩|⟨g,c,B3,hv,h4,h3,_⟩
 ·omega
 ·subst hv;refine⟨g,c,rfl,(alJ.1 h3).1,λW x hW hx=>?_⟩;have hz:∀j,j<hi->((List.range hi).map λ(i:Nat)=>(i:Int)+1).getD j 0=(j:Int)+1:=λj hj=>by simp[hj]
  refine(iZ g 0 hi c ((List.range hi).map λ(i:Nat)=>(i:Int)+1) x W (by simp) (by omega) (λj hj=>?_)).mono ?_
  ·have hj':j<hi:=by simpa using hj
   rw[hz j hj',Nat.zero_add];exact(aC ⟨g,j,none⟩ hW).trans (aE h (by simp[rI,hj']))
  ·rintro e w' ⟨rfl,hw⟩;refine⟨?_,hw⟩;rw[alO (by simp)];congr 2
   by_cases B1:x<=(hi:Int)
   ·rw[decide_eq_true B1];simp only[List.contains_eq_mem,List.mem_map,List.mem_range,decide_eq_true_eq];exact⟨(x-1).toNat,by omega,by omega⟩
   ·rw[decide_eq_false B1];simp only[List.contains_eq_mem,List.mem_map,List.mem_range,decide_eq_false_iff_not];rintro⟨a,h1,h2⟩;omega
def cy (hi:Nat) (ps:List di):List di:=ps.filter λp=>decide (p.place<=(hi:Int))
theorem qd(hi:Nat)(ps:List di)(p:di):cy hi (ps++[p])=if p.place<=(hi:Int)then cy hi ps++[p]else cy hi ps:=by
 unfold cy;rw[List.filter_append]
 by_cases h:p.place<=(hi:Int)<;>simp[h]
theorem sS(ks:List aQ)(ms:List al):∀p∈aG ks ms,1<=p.place:=by
 intro p hp;unfold aG at hp;rw[List.mem_filterMap]at hp;obtain⟨x,_,hx⟩:=hp
 cases h:bj x.1.uid ms with
 |none=>rw[h]at hx;cases hx
 |some m=>rw[h]at hx;simp at hx;subst hx;simp;omega
theorem vz{w:World}{V G:Nat}{look:Bool}{va:Option Addr}{vc:Nat}(h:cD w V G look (.slice va 0 vc))(s:Value):
  Calls Tryz.prog 241 #[.pointer (some ⟨V,0,none⟩),s] w λe w'=>e=.returned (.tuple #[.slice none 0 0,.bool false])/\w'=w:=by
 have gC:=fJ h;clear h;go_enter Tryz.func241,Tryz.ntmps241;go_wp2_with fail;refine gC.mono ?_;rintro e w' ⟨rfl,B1⟩;subst w';clear gC;have gP:=tF s w;go_wp2_with fail;refine gP.mono ?_;rintro e w' ⟨rfl,B1⟩;subst w';go_wp2_with fail;go_ret2;exact⟨rfl,rfl⟩
theorem kR{w:World}{V G g c hi:Nat}{look:Bool}{name Cf:ByteArray}{ep nx y:Int}{va a:Option Addr}{vc cap:Nat}{ks:List aQ}{ms:List al}(h:cD w V G look (.slice va ks.length vc))(hk:oO w va ks)(hF:bw w G name Cf ep nx (.slice a ms.length cap))(hm:dU w a ms)(hl:ms.length<=1000)(Cn:ks.length<=1000)
  (hs:eG w g 1 y) (hy:(if y=0 then(ks.length:Int)else y)=(hi:Int)) (h1:1<=hi) (h2:hi<=ks.length):
  Calls Tryz.prog 241 #[.pointer (some ⟨V,0,none⟩),.slice (some ⟨g,0,none⟩) 1 c] w λe w'=>(∃v,e=.returned (.tuple #[v,.bool true])/\pZ w' w.heap.size v (cy hi (aG ks ms)))/\Below w.heap.size w w':=by
 obtain⟨i0,Cz,Cs,Cr,Cq⟩:=alQ mN;have gC:=fJ h;have HV:=hid h;have HK:=hid hk;have HF:=hid hF;have HM:=hid hm;have HS:=hid hs;clear h hk hF hm hs;go_enter Tryz.func241,Tryz.ntmps241;go_wp2_with fail;refine gC.mono ?_;rintro e w' ⟨rfl,Ct⟩;subst w';clear gC;have gP:=uX (c:=c) HS.out hy h1 h2 Cn;go_wp2_with fail;refine gP.mono ?_;rintro e w1 ⟨⟨v,rfl,hv⟩,B9⟩;clear gP;obtain⟨pg,pc,rfl,Cw,hC⟩:=yK hv h1 (by omega);have Co:cD w1 V G look (.slice va ks.length vc):=(B9.block V HV.out.cells.2.2.2.2).trans HV.out;have gT:=q8 Co (HK.out.below B9) (HF.out.below B9) (HM.out.below B9) hl Cn;have Cc:=hid B9;have HC:=hid hC;clear B9 hC hv Co;go_wp2_with fail;refine gT.mono ?_;rintro e w2 ⟨⟨v2,rfl,Cm⟩,Ce⟩;clear gT;obtain⟨pa,pcap,rfl,_,Cl,Cx⟩:=pZ.form Cm;have Ch:=hid (sS ks ms);have CF:=ee ks ms;have Cb:=hid Ce;have CB:=hid Cl;have Cv:=Ce.size;clear Ce Cl Cm Cx;have Cg:Hid (∀W vo n ys,ys.length=n->cy hi (aG ks ms)=ys->W.ownsRow w2.heap.size 335 6 vo n (dC ys)->Below w2.heap.size w2 W->pZ W w.heap.size vo (cy hi (aG ks ms))/\Below w.heap.size w W):=by
  intro W vo n ys e1 e2 e3 e4;refine⟨?_,(Cc.out.trans (Cb.out.mono Cc.out.size)).trans (e4.mono (alS Cc.out.size Cb.out.size))⟩;rw[e2];unfold pZ;rw[e1];exact fZ e3 (alS Cc.out.size Cb.out.size)
 generalize Ck:aG ks ms=ps at*;have CA:=hid Ck;clear Ck;go_wp2_with fail;go_loopw [8,23] (λvo i wr=>∃(k n:Nat) (ys:List di),k<=ps.length/\n<=k/\i=.int .i64 k/\Hid (ys.length=n/\cy hi (ps.take k)=ys)/\Hid (wr.ownsRow w2.heap.size 335 6 vo n (dC ys))/\Hid (Below w2.heap.size w2 wr)) (λ_ i _=>ps.length-(RowKit.intOf i).toNat)
 case atStart=>exact⟨0,0,[],alT _,alT _,rfl,⟨rfl,rfl⟩,alG _ _ _ _,Below.refl _ _⟩
 case round=>
  obtain⟨k,n,ys,hk,hn,rfl,HY,B6,B4⟩:=hrel;have CE:=B4.out.size
  by_cases B8:k<ps.length
  ·obtain⟨b,off,ha,hb,hc⟩:∃b off,pa=some ⟨b,off,none⟩/\b<w2.heap.size/\un w2 b off ps:=by
    rcases CB.out with hz|hz
    ·rw[hz]at B8;simp at B8
    ·exact hz
   subst ha;obtain⟨c0,c1,c2,c3,c4,c5⟩:=hc k ps[k] (by simp[B8]);have d0:=(B4.out.cell (p:=⟨b,off+k*6,none⟩) hb).trans c0;have d1:=(B4.out.cell (p:=⟨b,off+k*6+1,none⟩) hb).trans c1;have d2:=(B4.out.cell (p:=⟨b,off+k*6+2,none⟩) hb).trans c2;have d3:=(B4.out.cell (p:=⟨b,off+k*6+3,none⟩) hb).trans c3;have d4:=(B4.out.cell (p:=⟨b,off+k*6+4,none⟩) hb).trans c4;have d5:=(B4.out.cell (p:=⟨b,off+k*6+5,none⟩) hb).trans c5;have hI:∀w,(Instr.indexAt 331 (.slice (some ⟨b,off,none⟩) ps.length pcap) (.int .i64 (k:Int))).run Tryz.prog w=.ok (.pointer (some ⟨b,off+k*6,none⟩)) w:=λw=>ma B8
   have HT:Hid (cy hi (ps.take (k+1))=if ps[k].place<=(hi:Int)then cy hi (ps.take k)++[ps[k]]else cy hi (ps.take k)):=by
    unfold Hid;rw[alL B8,qd]
   have B5:1<=ps[k].place:=Ch.out _ (List.getElem_mem B8);have Cp:=hid (md ys ps[k]);generalize ps[k]=p at*;obtain⟨pl,⟨mk,mu,f,cm,tx⟩⟩:=p;simp only at d0 d1 d2 d3 d4 d5 HT B5 Cp;generalize(⟨f.toArray⟩:ByteArray)=b2 at*;generalize(⟨cm.toArray⟩:ByteArray)=b3 at*;generalize(⟨tx.toArray⟩:ByteArray)=b4 at*;have Cd:Below w2.heap.size w2 (wr.alloc (.cells #[.int .i64 pl,.int .i64 mk,.int .i64 mu,.string b2,.string b3,.string b4] 335)):=B4.out.alloc B4.out.size _;have gC:=HC.out (wr.alloc (.cells #[.int .i64 pl,.int .i64 mk,.int .i64 mu,.string b2,.string b3,.string b4] 335)) pl ((Cd.block pg (by omega)).trans (Cb.out.block pg Cw)) B5;have hX:(wr.alloc (.cells #[.int .i64 pl,.int .i64 mk,.int .i64 mu,.string b2,.string b3,.string b4] 335)).heap[wr.heap.size]?=some (.cells #[.int .i64 pl,.int .i64 mk,.int .i64 mu,.string b2,.string b3,.string b4] 335 (0,0)):=alA wr _;have HX:=hid hX;have Ci:=hid (B6.out.alloc (.cells #[.int .i64 pl,.int .i64 mk,.int .i64 mu,.string b2,.string b3,.string b4] 335));have Cj:=hid Cd;have CG:=hid B5;clear c0 c1 c2 c3 c4 c5 hc hX Cd B6 B5;go_wp2_with fail;generalize(wr.alloc (.cells #[.int .i64 pl,.int .i64 mk,.int .i64 mu,.string b2,.string b3,.string b4] 335))=w3 at*;generalize wr.heap.size=X at*;refine gC.mono ?_;rintro e w' ⟨rfl,Ct⟩;subst w';clear gC d0 d1 d2 d3 d4 d5 hI;have Cu:=Cj.out.size
   by_cases B7:pl<=(hi:Int)
   ·rw[decide_eq_true B7];rw[if_pos B7]at HT;have x0:w3.cell? ⟨X,0,none⟩=some (.int .i64 pl):=ae (o:=0) HX.out rfl;have x1:w3.cell? ⟨X,1,none⟩=some (.int .i64 mk):=ae (o:=1) HX.out rfl;have x2:w3.cell? ⟨X,2,none⟩=some (.int .i64 mu):=ae (o:=2) HX.out rfl;have x3:w3.cell? ⟨X,3,none⟩=some (.string b2):=ae (o:=3) HX.out rfl;have x4:w3.cell? ⟨X,4,none⟩=some (.string b3):=ae (o:=4) HX.out rfl;have x5:w3.cell? ⟨X,5,none⟩=some (.string b4):=ae (o:=5) HX.out rfl;clear B7;go_wp2_with(at_builtin;refine wpList_append_own _ rfl (.tmp 31) (.tmp 33) 331 rfl w2.heap.size 335 i0 (.agg #[.int .i64 0,.int .i64 0,.int .i64 0,.string ByteArray.empty,.string ByteArray.empty,.string ByteArray.empty]) 6 72 Tryz.underlying331 Cz Cs Cr Cq rfl (by decide) _ n (dC ys) rfl (Ci.out.alloc _) ⟨w3.heap.size,0,none⟩ 1 1 [.int .i64 pl,.int .i64 mk,.int .i64 mu,.string b2,.string b3,.string b4] rfl rfl ?c1 ?c2 ?c3 ?c4 ?c5 ?_)
    case c1=>exact alF (cs:=#[.int .i64 pl,.int .i64 mk,.int .i64 mu,.string b2,.string b3,.string b4]) (t:=335) (fr:=(0,0)) (alA w3 _)
    case c2=>intro u hu;simp only[List.mem_cons,List.not_mem_nil,or_false]at hu;rcases hu with rfl|rfl|rfl|rfl|rfl|rfl<;>rfl
    case c3=>unfold maxLen;omega
    case c4=>omega
    case c5=>simp;omega
    intro v' w6 B1 B3 Ca;have CD:Hid (Below w2.heap.size w2 w6):=(Cj.out.alloc Cu _).grown B3 (by simp;omega) (bY Ci.out);rw[←Cp.out]at B1;have CC:=hid B1;clear B1 B3 Ca;go_wp2_with fail;refine⟨⟨k+1,n+1,ys++[⟨pl,⟨mk,mu,f,cm,tx⟩⟩],by omega,by omega,by simp,?_,CC,CD⟩,by simp[RowKit.intOf];omega⟩;unfold Hid;rw[HT.out,HY.out.2];exact⟨by simp[HY.out.1],rfl⟩
   ·rw[decide_eq_false B7];rw[if_neg B7]at HT;clear B7;go_wp2_with fail;refine⟨⟨k+1,n,ys,by omega,by omega,by simp,?_,Ci,Cj⟩,by simp[RowKit.intOf];omega⟩;unfold Hid;rw[HT.out];exact HY.out
  ·have Cy:k=ps.length:=by omega
   subst Cy;go_wp2_with fail;go_ret2;have h:=HY.out;rw[List.take_length]at h;have hr:=Cg.out _ _ _ _ h.1 h.2 B6.out B4.out;exact⟨⟨u8,rfl,by rw[CA.out];exact hr.1⟩,hr.2⟩
def dM (n:Int) (s:List UInt8):List UInt8:=[42,32]++Lib.itoa n++[32]++s
theorem dZ{c:ByteArray}{l:List UInt8}(h:c.data.toList=l):c=⟨l.toArray⟩:=by
 subst h;simp
theorem rC(n:Int)(h0:0<=n)(h1:n<=100000)(s:ByteArray)(hs:s.data.toList.length<=100000)(w:World)(hE:Env w):
  Calls Tryz.prog 251 #[.int .i64 n,.string s] w λe w'=>e=.returned (.string ⟨(dM n s.data.toList).toArray⟩)/\Below w.heap.size w w':=by
 have gI:=co n (by omega) (by omega) w hE;have B3:(Lib.itoa n).length<=1000:=alS (Mb.itoa_len 6 n (by decide) h0 (by have:((10^6:Nat):Int)=1000000:=rfl;omega)) (by decide);obtain⟨bK,B5,B1⟩:=ai (Lib.itoa n);rw[←B5.out]at gI;obtain⟨t1,H1,k1⟩:=aL Tryz.prog ⟨#[42,32]⟩ bK (by rw[B1.out];simp;omega);obtain⟨t2,H2,k2⟩:=aL Tryz.prog t1 ⟨#[32]⟩ (by rw[H1.out,B1.out];simp;omega);obtain⟨t3,H3,k3⟩:=aL Tryz.prog t2 s (by rw[H2.out,H1.out,B1.out];simp at hs⊢;omega);have HR:Hid (t3=⟨(dM n s.data.toList).toArray⟩):=by
  refine dZ ?_;rw[H3.out,H2.out,H1.out,B1.out];simp[dM]
 clear B3 hs;go_enter Tryz.func251,Tryz.ntmps251;go_wp2_with fail;refine gI.mono ?_;rintro e w1 ⟨rfl,B4⟩;go_wp2_with fail;go_ret;exact⟨by rw[←HR.out];rfl,B4⟩
theorem Bi{v u:Value}(h:∀b,v.ownBlock=some b->u.ownBlock≠some b):u.ownBlock=none∨u.ownBlock≠v.ownBlock:=by
 cases hu:u.ownBlock with
 |none=>exact Or.inl rfl
 |some b=>exact Or.inr λe=>h b e.symm hu
theorem zV{v u:Value}(h:∀b,v.ownBlock=some b->u.ownBlock≠some b):v.ownBlock=none∨v.ownBlock≠u.ownBlock:=by
 cases hv:v.ownBlock with
 |none=>exact Or.inl rfl
 |some b=>exact Or.inr λe=>h b hv e.symm
def bD (xs:List ByteArray):List Value:=xs.map Value.string
def fd (w:World) (B:Nat) (v:Value) (xs:List ByteArray):Prop:=w.ownsRow B 9 1 v xs.length (bD xs)
theorem fT(xs:List ByteArray)(x:ByteArray):bD (xs++[x])=bD xs++[.string x]:=by simp[bD]
theorem eV:(Tryz.prog.info? 9).map (λi=>(i.zero,i.size,i.bytes))=some (some (.string ByteArray.empty),1,16):=by kernel_rfl
def cU (ms:List al) (ks:List aQ):List aQ:=ks.filter λk=>(bj k.uid ms).isSome
def cJ (ms:List al) (c:Nat):List aQ->List ByteArray
 |[]=>[]
 |k::r=>if(bj k.uid ms).isSome then cJ ms (c+1) r else⟨(dM ((c:Int)+1) [71,79,78,69]).toArray⟩::cJ ms c r
theorem qU(ms:List al)(ks:List aQ)(k:aQ):cU ms (ks++[k])=if(bj k.uid ms).isSome then cU ms ks++[k]else cU ms ks:=by
 unfold cU;rw[List.filter_append]
 by_cases h:(bj k.uid ms).isSome<;>simp[h]
theorem ja(ms:List al):∀(ks:List aQ) (c:Nat) (k:aQ),cJ ms c (ks++[k])=if(bj k.uid ms).isSome then cJ ms c ks else cJ ms c ks++[⟨(dM (((c+(cU ms ks).length:Nat):Int)+1) [71,79,78,69]).toArray⟩]
 |[],c,k=>by by_cases h:(bj k.uid ms).isSome<;>simp[cJ,cU,h]
 |x::r,c,k=>by
  rw[List.cons_append,cJ,cJ,ja ms r,ja ms r]
  by_cases h:(bj x.uid ms).isSome
  ·by_cases h2:(bj k.uid ms).isSome
   ·simp[h,h2]
   ·simp only[h,if_true,h2,cU,List.filter_cons,List.length_cons];rw[show c+1+(r.filter λk=>(bj k.uid ms).isSome).length=c+((r.filter λk=>(bj k.uid ms).isSome).length+1)by omega]
  ·by_cases h2:(bj k.uid ms).isSome
   ·simp[h,h2]
   ·simp[h,h2,cU]
theorem sZ(ms:List al)(ks:List aQ):(cU ms ks).length<=ks.length:=List.length_filter_le _ _
theorem jO(ms:List al):∀(ks:List aQ) (c:Nat),(cJ ms c ks).length<=ks.length
 |[],_=>alU
 |x::r,c=>by
  rw[cJ];have h1:=jO ms r (c+1);have h2:=jO ms r c
  split<;>simp<;>omega
theorem sr{w:World}{V G:Nat}{look:Bool}{name Cj:ByteArray}{ep nx:Int}{va a:Option Addr}{vc cap:Nat}{ks:List aQ}{ms:List al}(h:cD w V G look (.slice va ks.length vc))(hk:oO w va ks)(hF:bw w G name Cj ep nx (.slice a ms.length cap))(hm:dU w a ms)(hl:ms.length<=1000)(C9:ks.length<=1000)(hE:Env w):
  Calls Tryz.prog 204 #[.pointer (some ⟨V,0,none⟩)] w λe w'=>∃v kv,e=.returned v/\fd w' w.heap.size v (cJ ms 0 ks)/\cD w' V G look kv/\ew w' w.heap.size kv (cU ms ks)/\(∀b,v.ownBlock=some b->kv.ownBlock≠some b)/\But V none w w':=by
 obtain⟨i0,hi,CT,CS,CR⟩:=alQ mO;obtain⟨j0,hj,CW,CV,CU⟩:=alQ eV;have k2:=h.cells.2.2.1;have Co:=h.cells.2.2.2.2;have CZ:=hF.cells.2.2.2.2.2.2;have HV:=hid h;have HK:=hid hk;have HF:=hid hF;have HM:=hid hm;have HE:=hid hE;clear h hk hF hm hE;go_enter Tryz.func204,Tryz.ntmps204;go_wp2_with fail;go_loopw [3,4,14] (λvl vk i wr=>∃(k n m:Nat) (ys:List ByteArray) (zs:List aQ),k<=ks.length/\n<=k/\m<=k/\i=.int .i64 k/\Hid (ys.length=n/\cJ ms 0 (ks.take k)=ys)/\Hid (zs.length=m/\cU ms (ks.take k)=zs)/\(∃ka kc,vk=.slice ka m kc)/\Hid (wr.ownsRow w.heap.size 9 1 vl n (bD ys))/\Hid (wr.ownsRow w.heap.size 346 2 vk m (dD zs))/\Hid (∀b,vl.ownBlock=some b->vk.ownBlock≠some b)/\Hid (Below w.heap.size w wr)) (λ_ _ i _=>ks.length-(RowKit.intOf i).toNat)
 case atStart=>exact⟨0,0,0,[],[],alT _,alT _,alT _,rfl,⟨rfl,rfl⟩,⟨rfl,rfl⟩,⟨none,0,rfl⟩,alG _ _ _ _,alG _ _ _ _,(by intro b hb;cases hb),Below.refl _ _⟩
 case round=>
  obtain⟨k,n,m,ys,zs,hk,hn,hm,rfl,HY,HZ,⟨ka,kc,rfl⟩,Cw,Cq,Ck,B9⟩:=hrel;have C4:=B9.out.size
  by_cases Cb:k<ks.length
  ·obtain⟨b,off,ha,hb,hc⟩:∃b off,va=some ⟨b,off,none⟩/\b<w.heap.size/\wL w b off ks:=by
    rcases HK.out with hz|hz
    ·rw[hz]at Cb;simp at Cb
    ·exact hz
   subst ha;obtain⟨c0,c1⟩:=hc k ks[k] (by simp[Cb]);have d0:=(B9.out.cell (p:=⟨b,off+k*2,none⟩) hb).trans c0;have d1:=(B9.out.cell (p:=⟨b,off+k*2+1,none⟩) hb).trans c1;have hI:∀w,(Instr.indexAt 337 (.slice (some ⟨b,off,none⟩) ks.length vc) (.int .i64 (k:Int))).run Tryz.prog w=.ok (.pointer (some ⟨b,off+k*2,none⟩)) w:=λw=>mw Cb
   have HT:Hid (cU ms (ks.take (k+1))=if(bj ks[k].uid ms).isSome then cU ms (ks.take k)++[ks[k]]else cU ms (ks.take k)):=by
    unfold Hid;rw[alL Cb,qU]
   have B6:Hid (cJ ms 0 (ks.take (k+1))=if(bj ks[k].uid ms).isSome then cJ ms 0 (ks.take k)else cJ ms 0 (ks.take k)++[⟨(dM (((cU ms (ks.take k)).length:Int)+1) [71,79,78,69]).toArray⟩]):=by
    unfold Hid;rw[alL Cb,ja,Nat.zero_add]
   have CO:=hid (mz zs ks[k]);generalize ks[k]=kx at*;obtain⟨uid,told⟩:=kx;simp only at d0 d1 HT B6 CO;generalize(⟨told.toArray⟩:ByteArray)=b2 at*;have CM:(wr.alloc (.cells #[.int .i64 uid,.string b2] 346)).heap[wr.heap.size]?=some (.cells #[.int .i64 uid,.string b2] 346 (0,0)):=alA wr _;have CN:Below w.heap.size w (wr.alloc (.cells #[.int .i64 uid,.string b2] 346)):=B9.out.alloc B9.out.size _;have CL:=Cw.out.alloc (.cells #[.int .i64 uid,.string b2] 346);have CK:=Cq.out.alloc (.cells #[.int .i64 uid,.string b2] 346);have CI:wr.heap.size<(wr.alloc (.cells #[.int .i64 uid,.string b2] 346)).heap.size:=by simp
   have CP:=hid CM;have Cl:=hid CN;have B8:=hid CL;have B7:=hid CK;have Ca:=hid CI;clear c0 c1 hc CM CN CL CK CI Cw Cq;go_wp2_with fail;generalize(wr.alloc (.cells #[.int .i64 uid,.string b2] 346))=w1 at*;generalize wr.heap.size=K at*;clear d0 d1 hI k2;obtain⟨mk,mu,c2,c3,c4,CA⟩:=pr (bj uid ms);have B5:cD w1 V G look (.slice (some ⟨b,off,none⟩) ks.length vc):=(Cl.out.block V Co).trans HV.out;have Cp:bw w1 G name Cj ep nx (.slice a ms.length cap):=(Cl.out.block G CZ).trans HF.out;have Ct:dU w1 a ms:=HM.out.below Cl.out;generalize CH:(bj uid ms).isSome=fb;have Cd:=hid CH;clear CH;refine kV (λa a' w'=>∃X,w1.heap.size<=X/\a'=((((((((((((a.put (some 19) (.pointer (some ⟨V,0,none⟩))).put (some 20) (.pointer (some ⟨V,0,none⟩))).put (some 21) (.pointer (some ⟨V,0,none⟩))).put (some 22) (.pointer (some ⟨G,0,none⟩))).put (some 23) (.pointer (some ⟨K,0,none⟩))).put (some 24) (.int .i64 uid)).put (some 25) (.tuple #[.agg #[.int .i64 mk,.int .i64 mu,.string c2,.string c3,.string c4],.bool fb])).put (some 18) (.tuple #[.agg #[.int .i64 mk,.int .i64 mu,.string c2,.string c3,.string c4],.bool fb])).put (some 26) (.agg #[.int .i64 mk,.int .i64 mu,.string c2,.string c3,.string c4])).put (some 27) (.bool fb)).put (some 7) (.pointer (some ⟨X,0,none⟩))).put (some 8) (.bool fb))/\Hid (w'.heap[X]?=some (.cells #[.int .i64 mk,.int .i64 mu,.string c2,.string c3,.string c4] 175 (0,0)))/\Hid (Below w1.heap.size w1 w')) ?_ ?_
   ·intro Q0 CJ;have s0:w1.drew.cell? ⟨V,0,none⟩=some (.pointer (some ⟨G,0,none⟩)):=B5.cells.1;have s1:w1.drew.cell? ⟨K,0,none⟩=some (.int .i64 uid):=ae (o:=0) CP.out rfl;have hV1':=B5.cells.2.2.2.2;have hG1':=Cp.cells.2.2.2.2.2.2;have CY:=Ca.out;refine aA 12 (λw':World=>w'.cell? ⟨V,0,none⟩=some (.pointer (some ⟨G,0,none⟩))/\w'.cell? ⟨K,0,none⟩=some (.int .i64 uid)) 13 rfl (by kernel_rfl) ⟨s0,s1⟩ (λa' Q hA hQ hP hS=>?_);have z:a'.tmps.size=46:=by rw[hA.out];rfl
    have e0:a'.eval (.tmp 0)=Value.pointer (some ⟨V,0,none⟩):=by rw[hA.out];rfl
    have e6:a'.eval (.tmp 6)=Value.pointer (some ⟨K,0,none⟩):=by rw[hA.out];rfl
    refine tkA 0 (some 19) rfl rfl hP (λwx hw=>ah rfl e0) hS ?_;refine tkA 1 (some 20) rfl rfl hP (λwx hw=>aS rfl (evz z)) hS ?_;refine tkA 2 (some 21) rfl rfl hP (λwx hw=>aj ⟨V,0,none⟩ rfl (evz (szq z))) hS ?_;refine tkA 3 (some 22) rfl rfl hP (λwx hw=>aq rfl (evz (sz2 z)) (aH hw.1)) hS ?_;refine tkA 4 (some 23) rfl rfl hP (λwx hw=>aj ⟨K,0,none⟩ rfl (ev4 e6)) hS ?_;refine tkA 5 (some 24) rfl rfl hP (λwx hw=>aq rfl (evz (sz4 z)) (aH hw.2)) hS ?_;refine zv (i:=6) (j:=10) (by kernel_rfl) ?_ ?_
    ·refine wv (i:=6) (d:=some 25) rfl rfl rfl rfl Tryz.func250 (by kernel_rfl) rfl (fm (ev2 (evz (sz2 (szq z)))) (evz (sz4 (szq z)))) (kL (w:=w1.drew) Cp Ct hl uid) ?_;rintro e w3 ⟨rfl,Cn⟩;rw[←CA.out,Cd.out];have hb3':Below w1.heap.size w1 w3:=(Below.refl _ w1).drew.trans Cn;have hS:w3.cell? ⟨V,0,none⟩=some (.pointer (some ⟨G,0,none⟩))/\w3.cell? ⟨K,0,none⟩=some (.int .i64 uid):=⟨(hb3'.cell (p:=⟨V,0,none⟩) hV1').trans s0,(hb3'.cell (p:=⟨K,0,none⟩) Ca.out).trans s1⟩;refine⟨_,rfl,λ_=>hS,?_⟩;refine tkA 7 (some 18) rfl rfl hP (λwx hw=>ah rfl (evz (sz4 (sz2 z)))) hS ?_;refine tkA 8 (some 26) rfl rfl hP (λwx hw=>cK (v:=.agg #[.int .i64 mk,.int .i64 mu,.string c2,.string c3,.string c4]) rfl (evz (sz4 (sz2 (szq z)))) (by go_simp)) hS ?_;refine tkA 9 (some 27) rfl rfl hP (λwx hw=>cK (v:=.bool fb) rfl (ev1 (evz (sz4 (sz2 (szq z))))) (by go_simp)) hS ?_;have Ch:V<w3.heap.size:=alH hV1' hb3'.size;have Ci:K<w3.heap.size:=alH Ca.out hb3'.size;refine bz (i:=10) (d:=some 7) (v:=.pointer (some ⟨w3.heap.size,0,none⟩)) (w':=w3.alloc (.cells #[.int .i64 0,.int .i64 0,.string ⟨#[]⟩,.string ⟨#[]⟩,.string ⟨#[]⟩] 175)) (by kernel_rfl) rfl rfl rfl (iA rfl kK) (λ_=>iP Ch Ci hS) ?_;have hS:=iP (o:=(.cells #[.int .i64 0,.int .i64 0,.string ⟨#[]⟩,.string ⟨#[]⟩,.string ⟨#[]⟩] 175)) Ch Ci hS;have Cg:=hb3'.size;refine iF (i:=11) (w':=((((((w3.alloc (.cells #[.int .i64 0,.int .i64 0,.string ⟨#[]⟩,.string ⟨#[]⟩,.string ⟨#[]⟩] 175)).setCell ⟨w3.heap.size,0,none⟩ (.int .i64 mk)).setCell ⟨w3.heap.size,1,none⟩ (.int .i64 mu)).setCell ⟨w3.heap.size,2,none⟩ (.string c2)).setCell ⟨w3.heap.size,3,none⟩ (.string c3)).setCell ⟨w3.heap.size,4,none⟩ (.string c4))) (by kernel_rfl) rfl rfl rfl rfl (evz (sz8 (sz2 z))) (ev2 (evz (sz8 z))) (kJ (alA w3 _) mk mu c2 c3 c4) (λ_=>iL (by omega) (by omega) hS) ?_;have hS:=iL (X:=w3.heap.size) (v0:=.int .i64 mk) (v1:=.int .i64 mu) (v2:=.string c2) (v3:=.string c3) (v4:=.string c4) (by omega) (by omega) hS;refine bz (i:=12) (d:=some 8) (by kernel_rfl) rfl rfl rfl (aR rfl (ev1 (evz (sz8 (szq z))))) (λ_=>hS) ?_;refine aB (by kernel_rfl) (hQ.out _ _ (CJ _ _ ⟨w3.heap.size,Cg,?_,(eE (alA w3 _) (hb3'.alloc Cg _) Cg _ _ _ _ _).1,(eE (alA w3 _) (hb3'.alloc Cg _) Cg _ _ _ _ _).2⟩)) _
     first|(rw[hA.out];done)|(rw[hA.out];simp only[Act.put,List.setIfInBounds_toArray];done)|(rw[hA.out];simp only[Act.put,List.setIfInBounds_toArray];rfl)
    ·refine yO (i:=10) (d:=some 7) (v:=.pointer (some ⟨w1.heap.size,0,none⟩)) (w':=w1.drew.alloc (.cells #[.int .i64 0,.int .i64 0,.string ⟨#[]⟩,.string ⟨#[]⟩,.string ⟨#[]⟩] 175)) rfl rfl rfl (iA rfl kK) (λ_=>iP hV1' Ca.out hS) ?_;have hS:=iP (o:=(.cells #[.int .i64 0,.int .i64 0,.string ⟨#[]⟩,.string ⟨#[]⟩,.string ⟨#[]⟩] 175)) hV1' Ca.out hS;have Cm:Below w1.heap.size w1 (w1.drew.alloc (.cells #[.int .i64 0,.int .i64 0,.string ⟨#[]⟩,.string ⟨#[]⟩,.string ⟨#[]⟩] 175)):=(Below.refl _ w1).drew.alloc (alU) _;refine cE (i:=6) (d:=some 25) (by kernel_rfl) rfl rfl rfl rfl Tryz.func250 (by kernel_rfl) rfl (fm (ev2 (ev1 (evz (sz2 (szq z))))) (ev1 (evz (sz4 (szq z))))) (kL (w:=w1.drew.alloc (.cells #[.int .i64 0,.int .i64 0,.string ⟨#[]⟩,.string ⟨#[]⟩,.string ⟨#[]⟩] 175)) ((Cm.block G hG1').trans Cp) (Ct.below Cm) hl uid) ?_;rintro e w3 ⟨rfl,Cn⟩;rw[←CA.out,Cd.out];have hb3':Below w1.heap.size w1 w3:=Cm.trans (Cn.mono Cm.size);have hS:w3.cell? ⟨V,0,none⟩=some (.pointer (some ⟨G,0,none⟩))/\w3.cell? ⟨K,0,none⟩=some (.int .i64 uid):=⟨(hb3'.cell (p:=⟨V,0,none⟩) hV1').trans s0,(hb3'.cell (p:=⟨K,0,none⟩) Ca.out).trans s1⟩;have Cr:w3.heap[w1.heap.size]?=some (.cells #[.int .i64 0,.int .i64 0,.string ⟨#[]⟩,.string ⟨#[]⟩,.string ⟨#[]⟩] 175 (0,0)):=(Cn.block w1.heap.size (by simp)).trans (alA w1.drew _);refine⟨_,rfl,λ_=>hS,?_⟩;refine tkA 7 (some 18) rfl rfl hP (λwx hw=>ah rfl (evz (sz4 (sz2 (szq z))))) hS ?_;refine tkA 8 (some 26) rfl rfl hP (λwx hw=>cK (v:=.agg #[.int .i64 mk,.int .i64 mu,.string c2,.string c3,.string c4]) rfl (evz (sz8 z)) (by go_simp)) hS ?_;refine tkA 9 (some 27) rfl rfl hP (λwx hw=>cK (v:=.bool fb) rfl (ev1 (evz (sz8 z))) (by go_simp)) hS ?_;refine iF (i:=11) (w':=(((((w3.setCell ⟨w1.heap.size,0,none⟩ (.int .i64 mk)).setCell ⟨w1.heap.size,1,none⟩ (.int .i64 mu)).setCell ⟨w1.heap.size,2,none⟩ (.string c2)).setCell ⟨w1.heap.size,3,none⟩ (.string c3)).setCell ⟨w1.heap.size,4,none⟩ (.string c4))) (by kernel_rfl) rfl rfl rfl rfl (ev4 (evz (sz4 (sz2 z)))) (ev1 (evz (sz8 (szq z)))) (kJ Cr mk mu c2 c3 c4) (λ_=>iL (by omega) (by omega) hS) ?_;have hS:=iL (X:=w1.heap.size) (v0:=.int .i64 mk) (v1:=.int .i64 mu) (v2:=.string c2) (v3:=.string c3) (v4:=.string c4) (by omega) (by omega) hS;refine bz (i:=12) (d:=some 8) (by kernel_rfl) rfl rfl rfl (aR rfl (evz (sz8 (sz2 z)))) (λ_=>hS) ?_;refine aB (by kernel_rfl) (hQ.out _ _ (CJ _ _ ⟨w1.heap.size,(alU),?_,(eE Cr hb3' (alU) _ _ _ _ _).1,(eE Cr hb3' (alU) _ _ _ _ _).2⟩)) _
     first|(rw[hA.out];done)|(rw[hA.out];simp only[Act.put,List.setIfInBounds_toArray];done)|(rw[hA.out];simp only[Act.put,List.setIfInBounds_toArray];rfl)
   ·rintro _ w5 ⟨X,hX,rfl,HX,Ce⟩;clear HX CA;simp only[Act.put,List.setIfInBounds_toArray];dsimp only[List.set];have C6:=Ce.out.size;have Cv:Below w.heap.size w w5:=Cl.out.trans (Ce.out.mono Cl.out.size);have Cu:w5.heap[K]?=some (.cells #[.int .i64 uid,.string b2] 346 (0,0)):=(Ce.out.block K Ca.out).trans CP.out;have B8:=hid (bQ B8.out Ce.out);have B7:=hid (bQ B7.out Ce.out);have CB:=hid Cv;have CD:w.heap.size<=w5.heap.size:=Cv.size;have C7:n<=1000:=by omega
    have C8:m<=1000:=by omega
    have x0:w5.cell? ⟨K,0,none⟩=some (.int .i64 uid):=ae (o:=0) Cu rfl;have x1:w5.cell? ⟨K,1,none⟩=some (.string b2):=ae (o:=1) Cu rfl;clear Cv B5 Cp Ct Ce Cu;have CE:∀b,u3.ownBlock=some b->b<w5.heap.size:=λb hb=>(B8.out.lt b hb).2
    have CF:∀b,(Value.slice ka m kc).ownBlock=some b->b<w5.heap.size:=λb hb=>(B7.out.lt b hb).2
    have C1:=hid CE;have C2:=hid CF;clear CE CF
    cases CG:(bj uid ms).isSome with
    |false=>
     rw[CG]at Cd HT B6;obtain rfl:false=fb:=Cd.out;simp only[Bool.false_eq_true,if_false]at HT B6;have gA:=rC ((m:Int)+1) (by omega) (by omega) ⟨#[71,79,78,69]⟩ (by simp) w5 (HE.out.below CB.out (alU));obtain⟨bl,CQ,_⟩:=ai (dM ((m:Int)+1) [71,79,78,69]);rw[show(⟨#[71,79,78,69]⟩:ByteArray).data.toList=[71,79,78,69]from rfl,←CQ.out]at gA;rw[HZ.out.2,HZ.out.1,←CQ.out]at B6;clear x0 x1;go_wp2_with fail;refine gA.mono ?_;rintro e w7 ⟨rfl,Cf⟩;have C3:=hid Cf;have C5:=Cf.size;have B8:=hid (bQ B8.out Cf);have B7:=hid (bQ B7.out Cf);clear gA Cf;go_wp2_with(at_builtin;refine wpList_append_lies _ rfl (.tmp 33) (.tmp 38) 113 rfl w.heap.size 9 j0 (.string ByteArray.empty) 1 16 Tryz.underlying113 hj CW CV CU rfl (by decide) _ n (bD ys) rfl (B8.out.alloc _) ⟨w7.heap.size,0,none⟩ 1 1 [.string bl] rfl rfl ?c1 ?c2 (by decide) ?c3 ?c4 ?c5 _ rfl ?_)
     case c1=>exact alF (cs:=#[.string bl]) (t:=9) (fr:=(0,0)) (alA w7 _)
     case c2=>intro u hu;simp only[List.mem_cons,List.not_mem_nil,or_false]at hu;subst hu;rfl
     case c3=>unfold maxLen;omega
     case c4=>omega
     case c5=>simp;omega
     intro g gc w8 B3 B1 B4 Cs;have CC:Hid (Below w.heap.size w w8):=((CB.out.trans (C3.out.mono CD)).alloc (by omega) _).grown B1 (by simp;omega) (bY B8.out);have Cy:Hid (w8.ownsRow w.heap.size 346 2 (.slice ka m kc) m (dD zs)):=(B7.out.alloc _).kept B1 (Bi Ck.out);have Cz:Hid (∀b,(Value.slice (some ⟨g,0,none⟩) (n+1) gc).ownBlock=some b->(Value.slice ka m kc).ownBlock≠some b):=by
      intro b hb Cc;injection hb with hb
      subst hb
      rcases B4 with h1|h1
      ·exact Ck.out _ h1 Cc
      ·have h9:g<w5.heap.size:=C2.out _ Cc;omega
     rw[←fT]at B3;have Cx:=hid B3;clear B3 B1 B4;go_wp2_with fail;refine⟨⟨k+1,n+1,m,ys++[bl],zs,by omega,by omega,by omega,by simp,?_,?_,⟨_,_,rfl⟩,Cx,Cy,Cz,CC⟩,by simp[RowKit.intOf];omega⟩
     ·unfold Hid;rw[B6.out,HY.out.2];exact⟨by simp[HY.out.1],rfl⟩
     ·unfold Hid;rw[HT.out];exact HZ.out
    |true=>
     rw[CG]at Cd HT B6;obtain rfl:true=fb:=Cd.out;simp only[if_true]at HT B6;go_wp2_with(at_builtin;refine wpList_append_lies _ rfl (.tmp 29) (.tmp 31) 337 rfl w.heap.size 346 i0 (.agg #[.int .i64 0,.string ByteArray.empty]) 2 24 Tryz.underlying337 hi CT CS CR rfl (by decide) _ m (dD zs) rfl (B7.out.alloc _) ⟨w5.heap.size,0,none⟩ 1 1 [.int .i64 uid,.string b2] rfl rfl (alF (cs:=#[.int .i64 uid,.string b2]) (t:=346) (fr:=(0,0)) (alA w5 _)) ?c2 (by decide) ?c3 ?c4 ?c5 _ rfl ?_)
     case c2=>exact⟨rfl,rfl⟩
     case c3=>unfold maxLen;omega
     case c4=>omega
     case c5=>omega
     intro g gc w8 B3 B1 B4 Cs;have CC:Hid (Below w.heap.size w w8):=(CB.out.alloc CD _).grown B1 (by simp;omega) (bY B7.out);have Cy:Hid (w8.ownsRow w.heap.size 9 1 u3 n (bD ys)):=(B8.out.alloc _).kept B1 (zV Ck.out);have Cz:Hid (∀b,u3.ownBlock=some b->(Value.slice (some ⟨g,0,none⟩) (m+1) gc).ownBlock≠some b):=by
      intro b hb Cc;injection Cc with Cc
      subst Cc
      rcases B4 with h1|h1
      ·exact Ck.out _ hb h1
      ·have h9:g<w5.heap.size:=C1.out _ hb;omega
     rw[←CO.out]at B3;have Cx:=hid B3;clear B3 B1 B4;go_wp2_with fail;refine⟨⟨k+1,n,m+1,ys,zs++[⟨uid,told⟩],by omega,by omega,by omega,by simp,?_,?_,⟨_,_,rfl⟩,Cy,Cx,Cz,CC⟩,by simp[RowKit.intOf];omega⟩
     ·unfold Hid;rw[B6.out];exact HY.out
     ·unfold Hid;rw[HT.out,HZ.out.2];exact⟨by simp[HZ.out.1],rfl⟩
  ·have CX:k=ks.length:=by omega
   subst CX;have B5:cD wr V G look (.slice va ks.length vc):=(B9.out.block V Co).trans HV.out;have v2:=B5.cells.2.2.1;have vf:=B5.cells.2.2.2.1 2;have C0:=hid B5;clear B5;go_wp2_with fail;go_ret;have h:=HY.out;have h':=HZ.out;rw[List.take_length]at h h';rw[h.2,h'.2];have Da:∀b,(Value.slice ka m kc).ownBlock=some b->w.heap.size<=b:=λb hb=>(Cq.out.lt b hb).1
   refine⟨u3,.slice ka m kc,rfl,?_,?_,?_,Ck.out,?_⟩
   ·unfold fd;rw[h.1];exact ownsRow_setCell_below Cw.out Co _
   ·unfold cD;rw[ag (o:=2) _ C0.out]
    rfl
   ·unfold ew;rw[h'.1];exact ownsRow_setCell_below Cq.out Co _
   ·exact(But.of_below (K:=V) B9.out).setCell (p:=⟨V,2,none⟩) (Or.inl rfl) _
end Go.Proofs.YtlbcgmlhaeeoeaaGreatDoor
