import Derived.Test.YtbeahecjbokjjaaGreatDoorQ36
set_option maxRecDepth 100000
set_option maxHeartbeats 16000000
namespace Go.Proofs.YtbeahecjbokjjaaGreatDoor
open Go.RowKit Go.Lib
theorem eC.plus_same{gn:Bool}{a b:List (List UInt8)}(h:eC gn [43] a b):b=a:=by
 generalize hx:([43]:List UInt8)=x at h
 cases h with
 |plus=>rfl
 |count n _ _ _=>simp at hx
 |gone _ p _ _ _=>simp[aV]at hx
 |flags p f _ _ _ _=>simp[aV]at hx
 |get p f _ _ _ _=>simp[aV]at hx
 |find ps _ _ _=>rfl
theorem eC.ws{gn:Bool}{x:List UInt8}{a b:List (List UInt8)}(h:eC gn x a b)(hp:x≠[43]):2<=(Mb.splitC 32 x).length/\(gn=false->∀w0 w1 w2,Mb.splitC 32 x=[w0,w1,w2]->w2≠[71,79,78,69]):=by
 have B5:∀p:Nat,Lib.itoa (p:Int)≠[71,79,78,69]:=λp e=>by
  have:=Mb.itoa_digit (p:Int) (by omega) 71 (by rw[e];decide);simp[Mb.digit]at this
 cases h with
 |plus=>exact absurd rfl hp
 |count n _ _ _=>
  rw[iy];refine⟨by simp,λ_ w0 w1 w2 e=>?_⟩;injection e with _ e;injection e with _ e;injection e with e _
  rw[←e];exact B5 n
 |gone hg p _ _ _=>
  rw[dv];exact⟨by simp,λe=>by rw[hg]at e;cases e⟩
 |flags p f _ _ _ hf=>
  rw[dv,show [70,76,65,71,83,32]++f=[70,76,65,71,83]++32::f by simp,Mb.splitC_app 32 _ _ (by decide),Mb.splitC_free 32 _ λb hb=>(hf.1 b hb).1];exact⟨by simp,λ_ w0 w1 w2 e=>by simp at e⟩
 |get p f _ _ _ hf=>
  rw[dv,show [71,69,84,32,70,32]++f=[71,69,84]++32::([70]++32::f)by simp,Mb.splitC_app 32 _ _ (by decide),Mb.splitC_app 32 _ _ (by decide),Mb.splitC_free 32 _ λb hb=>(hf.1 b hb).1];exact⟨by simp,λ_ w0 w1 w2 e=>by simp at e⟩
 |find ps _ _ _=>
  rw[kU];refine⟨by simp,λ_ w0 w1 w2 e=>?_⟩;injection e with _ e;injection e with _ e
  cases ps with
  |nil=>simp at e
  |cons p r=>
   injection e with e _
   rw[←e];exact B5 p
def dI (last:List UInt8):List (List UInt8)->List UInt8
 |[]=>last
 |x::_=>x
def ix (last:List UInt8):List (List UInt8)->List UInt8
 |[]=>[]
 |_::ys=>aN ys++(last++[10])
theorem nP(last:List UInt8)(ls:List (List UInt8)):aN ls++(last++[10])=dI last ls++10::ix last ls:=by
 cases ls with
 |nil=>simp[aN,dI,ix]
 |cons x ys=>simp[aN,dI,ix]
def ly (out last:List UInt8) (gn:Bool) (fl':List (List UInt8)) (k f:Nat) (cur:List (List UInt8)):Prop:=
 cur.length<=100/\((∃(pb:List UInt8) (ls:List (List UInt8)),out=pb++(aN ls++(last++[10]))/\f=pb.length/\f<=k/\k<=f+(dI last ls).length/\dQ gn ls cur fl')∨(k=out.length/\cur=fl'))
theorem ly.step{out last:List UInt8}{gn:Bool}{B8 B9:List (List UInt8)}{k f:Nat}(h:ly out last gn B8 k f B9)(Cd:∀b∈last,b≠10)(hk:k<out.length):
  f<=k/\((out[k]≠10/\ly out last gn B8 (k+1) f B9)∨
  (out[k]=10/\k+1=out.length/\ly out last gn B8 (k+1) (k+1) B9)∨
  (out[k]=10/\k+1≠out.length/\∃x f1,(out.drop f).take (k-f)=x/\eC gn x B9 f1/\ly out last gn B8 (k+1) (k+1) f1)):=by
 obtain⟨hc,⟨pb,ls,e1,e2,e3,e4,e5⟩|⟨e,_⟩⟩:=h
 ·refine⟨e3,?_⟩;have hcut:=nP last ls;have eo:out=pb++(dI last ls++10::ix last ls):=by rw[e1,hcut]
  have Ca:∀b∈dI last ls,b≠10:=by
   cases ls with
   |nil=>exact Cd
   |cons x ys=>cases e5 with|cons h1 _=>exact(h1.bytes hc).2
  by_cases Ce:k<f+(dI last ls).length
  ·refine Or.inl ⟨?_,hc,Or.inl ⟨pb,ls,e1,e2,by omega,by omega,e5⟩⟩;have B5:out[k]?=some ((dI last ls)[k-f]'(by omega)):=by
    rw[eo,List.getElem?_append_right (by omega),←e2,List.getElem?_append_left (by omega),alI]
   have:=alI hk;rw[B5]at this;injection this with this
   rw[←this];exact Ca _ (List.getElem_mem _)
  ·have Cc:k=f+(dI last ls).length:=by omega
   have B5:out[k]?=some 10:=by
    rw[eo,List.getElem?_append_right (by omega),←e2,List.getElem?_append_right (by omega),show k-f-(dI last ls).length=0 by omega]
    rfl
   have B7:out[k]=10:=by
    have:=alI hk;rw[B5]at this;injection this with this
    exact this.symm
   have B6:out.length=f+(dI last ls).length+1+(ix last ls).length:=by rw[eo,e2];simp;omega
   have Cb:(out.drop f).take (k-f)=dI last ls:=by
    rw[eo,e2,List.drop_left,show k-pb.length=(dI last ls).length by omega,List.take_left]
   cases ls with
   |nil=>
    have:k+1=out.length:=by simp[ix]at B6;omega
    cases e5
    exact Or.inr (Or.inl ⟨B7,this,hc,Or.inr ⟨this,rfl⟩⟩)
   |cons x ys=>
    cases e5 with
    |cons h1 h2=>
     refine Or.inr (Or.inr ⟨B7,λe=>?_,x,_,Cb,h1,h1.len hc,Or.inl ⟨pb++(x++[10]),ys,?_,?_,alU,by omega,h2⟩⟩)
     ·simp[ix]at B6;omega
     ·rw[e1];simp[aN]
     ·simp[dI]at Cc;simp;omega
 ·omega
theorem tH{w:World}{B Cq:Nat}{v:Value}{fl Cd:List (List UInt8)}{gn:Bool}{an:List UInt8}(h:dA w B Cq v fl)(hB:B<=w.heap.size)(hl:fl.length<=100)(ht:kA gn fl Cd an)(out:ByteArray)(B7:out.data.toList=an):
  Calls Tryz.prog 8 #[.pointer (some ⟨Cq,0,none⟩),.string out,.bool gn] w λe w'=>e=.returned (.tuple #[])/\∃v',dA w' B Cq v' Cd/\dX Cq v v' w w':=by
 have Cu:=(ht.len hl).1;obtain⟨ls,last,e1,e2,Cv,CB,_⟩:=ht;have Cx:Hid (ly out.data.toList last gn Cd 0 0 fl):=⟨hl,Or.inl ⟨[],ls,by rw[B7,e1];rfl,rfl,alU,alT _,e2⟩⟩;have Ce:Hid (out.size=out.data.toList.length):=Lib.size_eq out;have CK:out.size<=300000:=by rw[Ce.out,B7];exact Cu
 have HH:=hid h;have CJ:=hid Cv;have HB:=hid hB;clear h e1 e2 Cv Cu B7 CB hl hB;go_enter Tryz.func8,Tryz.ntmps8;go_wp2_with fail;go_loopw [6,7] (λvf vi wr=>∃(k f:Nat) (v':Value) (Ca:List (List UInt8)),k<=out.size/\vi=.int .i64 (k:Int)/\vf=.int .i64 (f:Int)/\Hid (dA wr B Cq v' Ca)/\Hid (dX Cq v v' w wr)/\Hid (ly out.data.toList last gn Cd k f Ca)) (λ_ i _=>out.size-(RowKit.intOf i).toNat)
 case atStart=>exact⟨0,0,v,fl,alT _,rfl,rfl,HH,dX.refl _ _ _,Cx⟩
 case round=>
  clear Cx HH;obtain⟨k,f,v',Ca,hk,rfl,rfl,HC,B8,HI⟩:=hrel
  by_cases CA:k<out.size
  ·have Cp:k<out.data.toList.length:=by rw[←Ce.out];exact CA
   have Cr:=mL (it:=out) Cp;obtain⟨Cs,Cz⟩:=HI.out.step CJ.out Cp
   rcases Cz with⟨hb,hI⟩|⟨hb,CC,hI⟩|⟨hb,CC,x,f1,hx,Cb,hI⟩
   ·have B9:=hid hI;have CF:((out.data.toList[k].toNat:Int) !=10)=true:=by
     simp only[bne_iff_ne,ne_eq];intro e;exact hb (UInt8.toNat_inj.1 (by have:(10:UInt8).toNat=10:=rfl;omega))
    generalize out.data.toList[k]=ck at*;clear HI hb hI;go_wp2_with fail;exact⟨⟨k+1,f,v',Ca,by omega,by simp,rfl,HC,B8,B9⟩,by simp[RowKit.intOf];omega⟩
   ·obtain⟨pc,CG,B5⟩:=aj ((out.data.toList.drop f).take (k-f));have hcut:=jI (a:=out) (b:=pc) Cs (by omega) B5.out;have B9:=hid hI;have hq:((k:Int)==(out.size:Int)-1)=true:=by simp;have:=Ce.out;omega
    obtain⟨q,Co⟩:∃q,(pc.toList==[43])=q:=⟨_,rfl⟩;rw[hb]at Cr;clear HI hb hI
    cases q<;>(
     go_wp2_with fail;exact⟨⟨k+1,k+1,v',Ca,by omega,by simp,by simp,HC,B8,B9⟩,by simp[RowKit.intOf];omega⟩)
   ·obtain⟨pc,CG,B5⟩:=aj x;have hcut:=jI (a:=out) (b:=pc) Cs (by omega) (B5.out.trans hx.symm);have B9:=hid hI;have hq:((k:Int)==(out.size:Int)-1)=false:=by simp;have:=Ce.out;omega
    rw[hb]at Cr;have Ct:=HI.out.1;clear HI hb hI hx
    by_cases hp:x=[43]
    ·subst hp;have CE:=Cb.plus_same;subst CE;have Co:(pc.toList==[43])=true:=by rw[ByteArray.toList_eq,B5.out];rfl
     go_wp2_with fail;exact⟨⟨k+1,k+1,v',_,by omega,by simp,by simp,HC,B8,B9⟩,by simp[RowKit.intOf];omega⟩
    ·have Co:(pc.toList==[43])=false:=by rw[ByteArray.toList_eq,B5.out];simpa using hp
     have Cy:=(Cb.bytes Ct).1;obtain⟨Cg,Cm⟩:=Cb.ws hp;have gW:=fw pc (by rw[Lib.size_eq,B5.out];omega) wr;rw[B5.out]at gW;have Cn:B<=wr.heap.size:=alS HB.out B8.out.but.size;have Cw:=hid Cb;have CI:=hid Cn;have CH:Hid ((Mb.splitC 32 x).length<=501):=alS (dU 32 x) (by omega);clear Cb Cn Cy;go_wp2_with fail;refine gW.mono ?_;rintro e w1 ⟨vl,rfl,hO,Cf⟩;obtain⟨gl,cl,rfl,CO,CD,hc⟩:=dY hO (λe=>by rw[e]at Cg;simp at Cg);obtain⟨n,HN⟩:∃n,Hid ((Mb.splitC 32 x).length=n):=⟨_,hid rfl⟩;have CN:n<=501:=by have:=CH.out;rw[HN.out]at this;exact this
     obtain⟨b2,Ch,g2⟩:∃b2:ByteArray,(n=3->w1.cell? ⟨gl,2,none⟩=some (.string b2))/\(gn=false->(b2.toList==[71,79,78,69])=false):=by
      by_cases h3:n=3
      ·obtain⟨w0,wa,wb,Cl⟩:∃w0 wa wb,Mb.splitC 32 x=[w0,wa,wb]:=by
        have:=HN.out;rw[h3]at this
        match hm:Mb.splitC 32 x,this with
        |[w0,wa,wb],_=>exact⟨w0,wa,wb,rfl⟩
       refine⟨⟨wb.toArray⟩,λ_=>hc 2 wb (by rw[Cl];rfl),λhg=>?_⟩;have:=Cm hg w0 wa wb Cl;rw[ByteArray.toList_eq];simpa using this
      ·exact⟨⟨#[]⟩,λe=>absurd e h3,λ_=>by rw[ByteArray.toList_eq];decide⟩
     rw[HN.out];have gR:=za (HC.out.below Cf) (alS CI.out Cf.size) Ct Cw.out hp pc B5.out;have B6:=hid (B8.out.trans (dX.of_below Cf));clear gW hO hc Cf Cm Cg Cw HC B8 CD
     cases gn with
     |true=>
      clear Ch g2;go_wp2_with fail;refine gR.mono ?_;rintro e w2 ⟨rfl,v2,Cc,hS2⟩;have Ck:=hid Cc;have Cj:=hid (B6.out.trans hS2);clear gR Cc hS2 B6;go_wp2_with fail;exact⟨⟨k+1,k+1,v2,f1,by omega,by simp,by simp,Ck,Cj,B9⟩,by simp[RowKit.intOf];omega⟩
     |false=>
      have g2:=g2 rfl;obtain⟨q3,CL,Ci⟩:∃q3:Bool,((n:Int)==3)=q3/\(q3=true->n=3):=⟨_,rfl,λe=>by simp at e;omega⟩
      cases q3<;>(
       try(have d2:=Ch (Ci rfl);have CP:2<n:=(by have:=Ci rfl;omega))
       clear Ch Ci;go_wp2_with fail;refine gR.mono ?_;rintro e w2 ⟨rfl,v2,Cc,hS2⟩;have Ck:=hid Cc;have Cj:=hid (B6.out.trans hS2);clear gR Cc hS2 B6;go_wp2_with fail;exact⟨⟨k+1,k+1,v2,f1,by omega,by simp,by simp,Ck,Cj,B9⟩,by simp[RowKit.intOf];omega⟩)
  ·have HE:Hid (Ca=Cd):=by
    obtain⟨_,⟨pb,ls,q1,q2,q3,q4,_⟩|⟨_,e⟩⟩:=HI.out
    ·have:=Ce.out;rw[nP]at q1;have:=congrArg List.length q1;simp at this;omega
    ·exact e
   have CM:¬(k:Int)<(out.size:Int):=by omega
   rw[HE.out]at HC;clear HI;go_wp2_with fail;go_end0;exact⟨rfl,v',HC.out,B8.out⟩
theorem tN{w:World}{B Cq:Nat}{v:Value}{fl:List (List UInt8)}(h:dA w B Cq v fl)(hB:B<=w.heap.size)(n:Nat)(h2:n<=100)(hl:fl.length<=100)(gl cl:Nat)(bn:ByteArray)(Cg:bn.data.toList=Lib.itoa (n:Int))(d1:w.cell? ⟨gl,1,none⟩=some (.string ⟨#[67,79,85,78,84]⟩))(d2:w.cell? ⟨gl,2,none⟩=some (.string bn)):
  Calls Tryz.prog 32 #[.pointer (some ⟨Cq,0,none⟩),.slice (some ⟨gl,0,none⟩) 3 cl] w λe w'=>e=.returned (.tuple #[])/\∃v',dA w' B Cq v' (fl++List.replicate n [63])/\dX Cq v v' w w':=by
 obtain⟨i0,Cp,Cl,Ck,Cj⟩:=alQ cO;have gN:=λw=>eq n h2 bn Cg w
 have HH:=hid h;clear h Cg;go_enter Tryz.func32,Tryz.ntmps32;go_wp2_with(go_at_call 30;refine(gN _).mono ?_;rintro e w2 ⟨rfl,rfl⟩);clear gN d1 d2;rename World=>w0
 go_loopw [5] (λi wr=>∃(j:Nat) (v':Value),i=.int .i64 (j:Int)/\j<=n/\Hid (dA wr B Cq v' (fl++List.replicate j [63]))/\Hid (dX Cq v v' w0 wr)) (λi _=>n-(RowKit.intOf i).toNat)
 case atStart=>exact⟨0,v,rfl,alT _,by simpa using HH,dX.refl _ _ _⟩
 case round=>
  clear HH;obtain⟨j,v',rfl,hj,Ca,Cc⟩:=hrel
  by_cases Ct:j<n
  ·obtain⟨a',c',Cd⟩:=eX Ca.out.own;obtain⟨m,Hm⟩:∃m,Hid ((fl++List.replicate j [63]).length=m):=⟨_,hid rfl⟩;have Ce:m<=200:=by have:=Hm.out;simp at this;omega
   rw[Hm.out]at Cd;subst Cd;obtain⟨c0,c1,cf⟩:=Ca.out.cells;have Cf:(j:Int)<100:=by omega
   clear c1 cf;have Cs:B<=wr.heap.size:=alS hB Cc.out.but.size;have Cm:(dj (fl++List.replicate j [63])).length=m:=by rw[di];exact Hm.out
   have B6:=Ca.out.own;unfold cM at B6;rw[Cm]at B6;have Ci:=hid B6;clear B6;go_wp2_with(at_builtin;refine wpList_append_lies _ rfl (.tmp 27) (.tmp 28) 33 rfl B 9 i0 (.string ByteArray.empty) 1 16 Tryz.underlying33 Cp Cl Ck Cj rfl (by decide) (.slice a' m c') m (aJ (dj (fl++List.replicate j [63]))) rfl (Ci.out.alloc _) ⟨wr.heap.size,0,none⟩ 1 1 [.string ⟨#[63]⟩] rfl rfl (alF (cs:=#[.string ⟨#[63]⟩]) (t:=9) (fr:=(0,0)) (alA wr _)) (by simp[Value.oneCell']) (by decide) (by unfold maxLen;omega) (by omega) (by simp;omega) (wr.heap.size+1) (by simp) ?_);intro g cap w6 B7 B5 B9 Cn;obtain⟨⟨Cb,Cr⟩,hA,Ch⟩:=Ca.out.more Hm.out B7 B5 B9;have B8:fl++List.replicate j [63]++[[63]]=fl++List.replicate (j+1) [63]:=by rw[List.replicate_succ',List.append_assoc]
   rw[B8]at hA;have HA:=hid (And.intro hA (Cc.out.trans Ch));clear B7 B5 B9 hA Ch Ci B8;go_wp2_with fail;exact⟨⟨j+1,_,by simp,by omega,HA.out.1,HA.out.2⟩,by simp[RowKit.intOf];omega⟩
  ·have Co:j=n:=by omega
   subst Co;go_wp2_with fail;refine bodyPost_ret (results_none (by kernel_rfl) _ _ _) rfl ?_;exact⟨rfl,_,Ca.out,Cc.out⟩
theorem xZ{w1:World}{B Cq:Nat}{v:Value}{fl:List (List UInt8)}(B9:dA w1 B Cq v fl)(hl:fl.length<=100)(p:Nat)(h1:1<=p)(h2:p<=fl.length)(gl cl:Nat)(Cc:gl<w1.heap.size)(Ce:gl≠Cq)(Cd:v.ownBlock≠some gl)(bp bf:ByteArray)(B6:bp.data.toList=Lib.itoa (p:Int))(d1:w1.cell? ⟨gl,1,none⟩=some (.string bp))(df:w1.cell? ⟨gl,4,none⟩=some (.string bf)):
  Calls Tryz.prog 32 #[.pointer (some ⟨Cq,0,none⟩),.slice (some ⟨gl,0,none⟩) 5 cl] w1 λe w'=>e=.returned (.tuple #[])/\dA w' B Cq v (fl.set (p-1) bf.data.toList)/\dX Cq v v w1 w':=by
 have Cg:(bp.toList==[67,79,85,78,84])=false:=ik p B6 _ 67 (by decide) (by decide);have gN:=eq p (by omega) bp B6 w1.drew;have B7:Below w1.heap.size w1 w1.drew:=(Below.refl _ _).drew;have gS:=rD (B9.below B7) p h1 h2 (by omega) bf;have Cf:=hid B7;clear B9 B7 B6;go_enter Tryz.func32,Tryz.ntmps32;go_wp2_with fail;refine aC 9 (λw':World=>w'.cell? ⟨gl,1,none⟩=some (.string bp)/\w'.cell? ⟨gl,4,none⟩=some (.string bf)) 9 rfl (by kernel_rfl) ⟨d1,df⟩ (λa' Q hA hQ hP hS=>?_);have z:a'.tmps.size=44:=by rw[hA.out];rfl
 have e0:a'.eval (.tmp 0)=Value.pointer (some ⟨Cq,0,none⟩):=by rw[hA.out];rfl
 have e1:a'.eval (.tmp 1)=Value.slice (some ⟨gl,0,none⟩) 5 cl:=by rw[hA.out];rfl
 refine tkA 0 (some 35) rfl rfl hP (λwx hw=>ag rfl e0) hS ?_;refine tkA 1 (some 36) rfl rfl hP (λwx hw=>ag rfl (ev1 e1)) hS ?_;refine tkA 2 (some 37) rfl rfl hP (λwx hw=>bB (v:=.pointer (some ⟨gl,1,none⟩)) rfl (evz (szq z)) rfl (cG (k:=1) (by decide))) hS ?_;refine tkA 3 (some 38) rfl rfl hP (λwx hw=>aq rfl (evz (sz2 z)) (aO hw.1)) hS ?_;refine tkA 5 (some 40) rfl rfl hP (λwx hw=>ag rfl (ev4 e1)) hS ?_;refine tkA 6 (some 41) rfl rfl hP (λwx hw=>bB (v:=.pointer (some ⟨gl,4,none⟩)) rfl (evz (sz4 z)) rfl (cG (k:=4) (by decide))) hS ?_;refine tkA 7 (some 42) rfl rfl hP (λwx hw=>aq rfl (evz (sz4 (szq z))) (aO hw.2)) hS ?_;refine bG (i:=4) (d:=some 39) (by kernel_rfl) rfl rfl rfl rfl Tryz.func30 (by kernel_rfl) rfl (jy (ev2 (ev1 (evz (sz2 (szq z)))))) gN ?_;rintro e w3 ⟨rfl,rfl⟩;refine⟨_,rfl,λ_=>hS,?_⟩;refine bG (i:=8) (d:=some 43) (by kernel_rfl) rfl rfl rfl rfl Tryz.func31 (by kernel_rfl) rfl (rm (ev4 (ev2 (ev1 (evz z)))) (evz (sz4 (sz2 (szq z)))) (ev1 (evz (sz4 (sz2 z))))) gS ?_;rintro e w4 ⟨rfl,Cb,B8⟩;have HA:=hid (And.intro Cb B8);have B5:=B8.but.block gl Cc Ce Cd;have Ca:w4.cell? ⟨gl,1,none⟩=some (.string bp)/\w4.cell? ⟨gl,4,none⟩=some (.string bf):=⟨(aF ⟨gl,1,none⟩ B5).trans d1,(aF ⟨gl,4,none⟩ B5).trans df⟩;refine⟨_,rfl,λ_=>Ca,?_⟩;refine aD (by kernel_rfl) (hQ.out _ _ ?_) _;rw[hA.out];simp only[Act.put,List.setIfInBounds_toArray];dsimp only[List.set];clear hQ hP hA z hS Q a' e0 e1 Cb B8 B5 Ca;go_wp2_with fail;go_end0;exact⟨rfl,HA.out.1,(dX.of_below Cf.out).trans HA.out.2⟩
theorem rU{w:World}{K:Nat}{name B5:ByteArray}{ep nx:Int}{a:Option Addr}{n cap:Nat}(h:bg w K name B5 ep nx (.slice a n cap))(hn:n<=8)(h0:1<=nx)(h1:nx<=100):
  Calls Tryz.prog 259 #[.pointer (some ⟨K,0,none⟩),.int .i64 0] w λe w'=>e=.returned (.bool true)/\w'=w:=by
 obtain⟨_,_,_,c3,c4,_,_⟩:=h.cells;have h8:(n:Int)<=8:=by omega
 have B6:nx-1<=99:=by omega
 clear h;go_enter Tryz.func259,Tryz.ntmps259;go_wp2;go_ret;exact⟨by simp,rfl⟩
section
variable {role role':Nat->Nat} {S:List Nat} {B:Nat} {W W':World} {f:Fs} {g:List UInt8} {tx:Bool} {z:Int} {ad:Array Value} {vw:Option (List ax)} {an:List UInt8} {ac:Nat} {ms:List ap} {nx:Int}
theorem St.copyNone(h:St role B f g tx z ad vw an ac ms nx W)(B5:aP ms nx)(a':Option Addr)(c:Nat):
  Calls Tryz.prog 225 #[.pointer (some ⟨f.kf,0,none⟩),.slice a' 0 c] W λe w'=>e=.returned (.tuple #[.slice none 0 0,.bool true])/\w'=W:=by
 obtain⟨a,cap,hF,hO,_,h9,_⟩:=h.fo.msgs;have gR:=rU hF B5.len B5.lo B5.hi;clear h B5 hF hO h9;go_enter Tryz.func225,Tryz.ntmps225;go_wp2_with fail;refine gR.mono ?_;rintro e w1 ⟨rfl,hw⟩;subst w1;go_wp2_with fail;refine wp_loop_rounds 1 ?_;rw[rounds_succ];go_wp2_with fail;go_ret2;exact⟨rfl,rfl⟩
theorem St.copyFull(h:St role B f g tx z ad vw an ac ms nx W)(B5:ms.length=8∨nx=100)(hn:ms.length<=8)(a':Option Addr)(c:Nat):
  Calls Tryz.prog 225 #[.pointer (some ⟨f.kf,0,none⟩),.slice a' 1 c] W λe w'=>e=.returned (.tuple #[.slice none 0 0,.bool false])/\w'=W:=by
 obtain⟨a,cap,hF,hO,_,h9,_⟩:=h.fo.msgs;have gR:Calls Tryz.prog 259 #[.pointer (some ⟨f.kf,0,none⟩),.int .i64 1] W λe w'=>e=.returned (.bool false)/\w'=W:=by
  rcases B5 with h8|h8
  ·rw[h8]at hF;exact oW hF
  ·rw[h8]at hF;exact l6 hF hn
 clear h hF hO h9 B5;go_enter Tryz.func225,Tryz.ntmps225;go_wp2_with fail;refine gR.mono ?_;rintro e w1 ⟨rfl,hw⟩;subst w1;go_wp2_with fail;go_ret2;exact⟨rfl,rfl⟩
theorem St.copyOne(h:St role B f g tx z ad vw an ac ms nx W)(Ce:aP ms nx)(hn:ms.length<8)(hx:nx<=99)(k:Nat)(Cn:1<=k)(CB:k<=8)(Cb:∀j:Nat,1<=j->j<k->aU (j:Int) ms=true)(Ch:aU (k:Int) ms=false)(mb mo c:Nat)(m:ap)(hm:dB W (some ⟨mb,mo,none⟩) [m])(Ci:Mb.flagsOk m.flags=true/\m.flags.length<=4)(ht:m.text.length<=40):
  Calls Tryz.prog 225 #[.pointer (some ⟨f.kf,0,none⟩),.slice (some ⟨mb,mo,none⟩) 1 c] W λe w'=>∃va ys role',e=.returned (.tuple #[va,.bool true])/\ed w' W.heap.size va ys/\ys.length<=10/\St role' B f g tx z ad vw an ac (ms++[⟨(k:Int),nx,m.flags,m.flags,m.text⟩]) (nx+1) w'/\Stp role role' [8,9] W w':=by
 obtain⟨i0,CC,Cx,Cw,Cv⟩:=alQ eO;obtain⟨a,cap,hF,hO,_,h9,_⟩:=h.fo.msgs;have CA:=Ce.lo;have gR:=nz hF hn (by omega) hx;have Cl:(Value.slice a ms.length cap).ownBlock≠some f.kf:=λe=>by have:=h9 _ e;have:=h.fo.rf;omega
 have B9:=Ce.snoc hn hx k Cn CB Ch m.flags m.text Ci ht;obtain⟨b',o',Cj,CN,Cm⟩:∃b off,some (⟨mb,mo,none⟩:Addr)=some ⟨b,off,none⟩/\b<W.heap.size/\fu W b off [m]:=by
  rcases hm with h|h
  ·cases h
  ·exact h
 injection Cj with Cj
 injection Cj with h1 h2
 subst h1 h2;obtain⟨c0,c1,c2,c3,c4⟩:=Cm 0 m rfl;simp only[Nat.zero_mul,Nat.add_zero]at c0 c1 c2 c3 c4;have hI:∀w,(Instr.indexAt 112 (.slice (some ⟨mb,mo,none⟩) 1 c) (.int .i64 0)).run Tryz.prog w=.ok (.pointer (some ⟨mb,mo,none⟩)) w:=λw=>by
  have:=cy (g:=mb) (off:=mo) (n:=1) (cap:=c) (k:=0) (w:=w) (by omega);simpa using this
 have HS:=hid h;have HF:=hid hF;have gS:∀w1,Below W.heap.size W w1->Calls Tryz.prog 260 #[.pointer (some ⟨f.kf,0,none⟩),.string ⟨m.flags.toArray⟩,.string ⟨m.text.toArray⟩] w1 λe w'=>∃va ys role',e=.returned (.tuple #[.int .i64 nx,va])/\ed w' W.heap.size va ys/\ys.length=10/\St role' B f g tx z ad vw an ac (ms++[⟨(k:Int),nx,m.flags,m.flags,m.text⟩]) (nx+1) w'/\Stp role role' [8,9] W w':=by
  intro w1 hb;have Cc:=HS.out.below hb;have Co:=HF.out.below hb;have CF:bI w1 B (.slice a ms.length cap) ms:=au (λb B7=>hb.block b (hO.lt b B7).2) hO;have ga:=sW (w:=w1) Co CF Cc.bs.base (Cc.bs.up (by rw[Cc.fo.rf];decide)) (λw' Cy=>Cc.bs.env w' λb B7=>Cy.block b B7) Cl (by omega) (by omega) (by omega) ⟨m.flags.toArray⟩ ⟨m.text.toArray⟩ (by decide) (by have:=Ci.2;simp;omega) (λm hm=>by have:=(Ce.fl m hm).2;omega) k Cn (by omega) Cb Ch B9.list;refine ga.mono ?_;rintro e w' ⟨⟨Cu,rfl,hA⟩,gg,CH,CG,CE,hg,CD⟩;obtain⟨role',q1,q2⟩:=Cc.folder (ms':=ms++[⟨(k:Int),nx,m.flags,m.flags,m.text⟩]) Co CG CE ⟨CD,λb B7=>by
   simp only[Value.ownBlock,Option.some.injEq]at B7;subst B7;exact hg⟩
  exact⟨Cu,_,role',rfl,hA.base hb.size,by simp[bO],q1,(Stp.of_below role _ hb).trans q2⟩
 clear h Ce hF hO h9 Cl B9 Cb Ch CA hm Cm Ci ht;generalize(⟨m.flags.toArray⟩:ByteArray)=b2 at*;generalize(⟨m.came.toArray⟩:ByteArray)=b3 at*;generalize(⟨m.text.toArray⟩:ByteArray)=b4 at*;go_enter Tryz.func225,Tryz.ntmps225;go_wp2_with fail;refine gR.mono ?_;rintro e w1 ⟨rfl,hw⟩;subst w1;clear gR;go_wp2_with fail;refine wp_loop_rounds 2 ?_;rw[rounds_succ];have Cr:=gS (W.alloc (.cells #[.int .i64 m.key,.int .i64 m.uid,.string b2,.string b3,.string b4] 165)) aw;clear gS;go_wp2_with fail;refine Cr.mono ?_;rintro e w2 ⟨va,ys,B8,rfl,Cp,Cf,hS2,Cg⟩;have Ct:Hid (w2.ownsRow W.heap.size 181 4 va 10 (cE ys)):=by unfold Hid;rw[←Cf];exact Cp
 have Cs:=hid Cf;have CI:=hid hS2;have CJ:=hid Cg;have Cz:=Cg.size;clear Cp Cf hS2 Cg Cr c0 c1 c2 c3 c4 hI;obtain⟨da,dc,rfl,_⟩:=cx Ct.out;go_wp2_with(at_builtin;refine dx rfl (.tmp 31) (.tmp 32) 24 rfl 181 i0 (.agg #[.int .i64 0,.string ByteArray.empty,.string ByteArray.empty,.string ByteArray.empty]) 4 _ w2.heap.size W.heap.size Tryz.underlying24 CC Cx Cw Cv rfl (by decide) _ _ rfl rfl 0 10 [] _ (alG _ _ _ _) Ct.out (fV _) ?c6 ?c7 (alU) ?_)
 case c6=>unfold maxLen;omega
 case c7=>omega
 intro v6 w6 B5 B6 Ck;have Ca:Below w2.heap.size w2 w6:=(Below.refl _ w2).grown B6 (alU) (λb hb=>by simp[Value.ownBlock]at hb);have CK:Hid (ed w6 W.heap.size v6 ys):=by
  unfold Hid ed;rw[Cs.out];exact io B5 Cz
 have Cd:=hid Ca;obtain⟨CM,CL,rfl,_⟩:=cx B5;clear B5 B6 Ck Ca;go_wp2_with fail;rw[rounds_succ];go_wp2_with fail;go_ret2;exact⟨_,ys,B8,rfl,CK.out,by rw[Cs.out];omega,CI.out.below Cd.out,CJ.out.trans (Stp.of_below _ _ Cd.out)⟩
end
end Go.Proofs.YtbeahecjbokjjaaGreatDoor
