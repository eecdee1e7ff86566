import Derived.Test.YtbeahecjbokjjaaGreatDoorQ44
set_option maxRecDepth 100000
set_option maxHeartbeats 16000000
namespace Go.Proofs.YtbeahecjbokjjaaGreatDoor
open Go.RowKit Go.Lib
theorem j7.mono{l:List UInt8}{a b:List (List UInt8)}(h:j7 l a b):a.length<=b.length:=by
 cases h with
 |skip=>exact alU
 |count n _ _=>simp
 |get=>simp
theorem ee.mono{ls a b:List (List UInt8)}(h:ee ls a b):a.length<=b.length:=by
 induction h with
 |nil=>exact alU
 |cons h1 _ ih=>exact alS h1.mono ih
def gu (out:List UInt8) (fl':List (List UInt8)) (k f:Nat) (cur:List (List UInt8)):Prop:=
 ∃(pb:List UInt8) (ls:List (List UInt8)),out=pb++aN ls/\f=pb.length/\f<=k/\((ls=[]/\k=f)∨∃x ys,ls=x::ys/\k<=f+x.length)/\ee ls cur fl'
theorem gu.next{out:List UInt8}{B5 B6 ls:List (List UInt8)}{pb:List UInt8}(e1:out=pb++aN ls)(h:ee ls B6 B5):gu out B5 pb.length pb.length B6:=by
 refine⟨pb,ls,e1,rfl,alU,?_,h⟩
 cases ls with
 |nil=>exact Or.inl ⟨rfl,rfl⟩
 |cons x ys=>exact Or.inr ⟨x,ys,rfl,by omega⟩
theorem gu.done{out:List UInt8}{B5 B6:List (List UInt8)}{f:Nat}(h:gu out B5 out.length f B6):B6=B5:=by
 obtain⟨pb,ls,e1,e2,e3,⟨rfl,e4⟩|⟨x,ys,rfl,e4⟩,e5⟩:=h
 ·cases e5;rfl
 ·have:=congrArg List.length e1;simp[aN]at this;omega
theorem gu.step{out:List UInt8}{B6 B8:List (List UInt8)}{k f:Nat}(h:gu out B6 k f B8)(hk:k<out.length):
  f<=k/\((out[k]≠10/\gu out B6 (k+1) f B8)∨
  (out[k]=10/\∃x f1,(out.drop f).take (k-f)=x/\j7 x B8 f1/\f1.length<=B6.length/\gu out B6 (k+1) (k+1) f1)):=by
 obtain⟨pb,ls,e1,e2,e3,⟨rfl,e4⟩|⟨x,ys,rfl,e4⟩,e5⟩:=h
 ·have:=congrArg List.length e1;simp[aN]at this;omega
 ·cases e5 with
  |cons h1 h2=>
   refine⟨e3,?_⟩;have eo:out=pb++(x++10::aN ys):=by rw[e1];simp[aN]
   by_cases Ca:k<f+x.length
   ·refine Or.inl ⟨?_,pb,x::ys,e1,e2,by omega,Or.inr ⟨x,ys,rfl,by omega⟩,.cons h1 h2⟩;have B5:out[k]?=some (x[k-f]'(by omega)):=by
     rw[eo,List.getElem?_append_right (by omega),←e2,List.getElem?_append_left (by omega),alI]
    have:=alI hk;rw[B5]at this;injection this with this
    rw[←this];exact h1.bytes.2 _ (List.getElem_mem _)
   ·have Cb:k=f+x.length:=by omega
    have B5:out[k]?=some 10:=by
     rw[eo,List.getElem?_append_right (by omega),←e2,List.getElem?_append_right (by omega),show k-f-x.length=0 by omega]
     rfl
    have B7:out[k]=10:=by
     have:=alI hk;rw[B5]at this;injection this with this
     exact this.symm
    have B9:(out.drop f).take (k-f)=x:=by
     rw[eo,e2,List.drop_left,show k-pb.length=x.length by omega,List.take_left]
    refine Or.inr ⟨B7,x,_,B9,h1,h2.mono,?_⟩;have:=gu.next (out:=out) (pb:=pb++(x++[10])) (by rw[e1];simp[aN]) h2;have hl:(pb++(x++[10])).length=k+1:=by simp;omega
    rwa [hl]at this
theorem dX.low{Q N:Nat}{v v':Value}{W W':World}(h:dX Q v v' W W')(hQ:N<=Q)(hv:∀b,v.ownBlock=some b->N<=b)(hN:N<=W.heap.size):Below N W W':=
 ⟨h.but.os,h.but.tape,h.but.output,h.but.size,λb hb=>h.but.block b (by omega) (by omega) (λe=>by have:=hv b e;omega)⟩
theorem Ap{B K:Nat}{d:Dv}{q:Int}{Qf:Nat->Nat}{vf:Nat->Value}{fl:Nat->List (List UInt8)}{ks:Nat->List ax}{ms:List ap}{nx:Int}{role:Nat->Nat}{W:World}(h:iV B K d q Qf vf fl ks ms nx role W):
  Calls Tryz.prog 18 #[.pointer (some ⟨K,0,none⟩)] W λe w'=>∃vl,e=.returned (.tuple #[vl,.bool true])/\∃role' w1,iV B K d q Qf vf fl ks ms nx role' w1/\ng 2 role role' W w1/\Below w1.heap.size w1 w'/\cM w' w1.heap.size vl (dj (cY ms)):=by
 have h8:=h.ok.len;obtain⟨ls,l1,l2,gF⟩:=yW h.sd rfl (by simp[vwF]) h.ok ⟨zT.toArray⟩ rfl;have CT:=l1.bytes;unfold qD at gF;have CG:(⟨zT.toArray⟩:ByteArray)=⟨#[97,32,76,79,79,75,32,105,110,10,98,32,71,69,84,32,49,58,42,32,70,10,99,32,83,72,85,84,10]⟩:=rfl;rw[CG]at gF;obtain⟨out,Cl,B7⟩:=aj (aN ls);rw[←Cl.out]at gF;have CJ:Hid (gu out.data.toList (cY ms) 0 0 []):=gu.next (pb:=[]) (by rw[B7.out];rfl) l1;have Cz:Hid (out.size=out.data.toList.length):=Lib.size_eq out;have C1:out.size<=20000:=by rw[Cz.out,B7.out];omega
 have CZ:Hid ((cY ms).length<=8):=by unfold Hid cY;simpa using h8
 have HH:=hid h;clear h CT CG l1 l2 h8 Cl B7;go_enter Tryz.func18,Tryz.ntmps18;go_wp2_with fail;refine gF.mono ?_;rintro e w1 ⟨va,Cf,rfl,CC,Cg⟩;have HF:=hid (HH.out.seen CC Cg);have HT:=hid Cg;clear gF CC Cg HH;go_wp2_with fail;have Ci:(w1.alloc (.cells #[.slice none 0 0,.bool false] 35)).heap[w1.heap.size]?=some (.cells #[.slice none 0 0,.bool false] 35 (0,0)):=alA w1 _;have CK:Hid (dA (w1.alloc (.cells #[.slice none 0 0,.bool false] 35)) w1.heap.size w1.heap.size (.slice none 0 0) []):=⟨Ci,alG _ _ _ _,by simp[Value.ownBlock]⟩;have CL:Hid (Below w1.heap.size w1 (w1.alloc (.cells #[.slice none 0 0,.bool false] 35))):=aw;clear Ci;generalize(w1.alloc (.cells #[.slice none 0 0,.bool false] 35))=w2 at*;generalize CI:w1.heap.size=N at*;have CA:=hid CI;clear CI;go_loopw [8,9] (λvf vi wr=>∃(k f:Nat) (v':Value) (B8:List (List UInt8)),k<=out.size/\vi=.int .i64 (k:Int)/\vf=.int .i64 (f:Int)/\Hid (dA wr N N v' B8)/\Hid (Below N w1 wr)/\Hid (gu out.data.toList (cY ms) k f B8)) (λ_ i _=>out.size-(RowKit.intOf i).toNat)
 case atStart=>exact⟨0,0,_,[],alT _,rfl,rfl,CK,CL,CJ⟩
 case round=>
  clear CJ CK CL;obtain⟨k,f,v',B8,hk,rfl,rfl,HC,Cs,HI⟩:=hrel
  by_cases CO:k<out.size
  ·have CE:k<out.data.toList.length:=by rw[←Cz.out];exact CO
   have CQ:=mL (it:=out) CE;obtain⟨CS,Cg⟩:=HI.out.step CE
   rcases Cg with⟨hb,hI⟩|⟨hb,x,f1,hx,Cu,CF,hI⟩
   ·have Cd:=hid hI;have CU:((out.data.toList[k].toNat:Int)==10)=false:=by
     simp only[beq_eq_false_iff_ne,ne_eq];intro e;exact hb (UInt8.toNat_inj.1 (by have:(10:UInt8).toNat=10:=rfl;omega))
    generalize out.data.toList[k]=ck at*;clear HI hb hI;go_wp2_with fail;exact⟨⟨k+1,f,v',B8,by omega,by simp,rfl,HC,Cs,Cd⟩,by simp[RowKit.intOf];omega⟩
   ·obtain⟨pc,C4,Ca⟩:=aj x;have hcut:=jI (a:=out) (b:=pc) CS (by omega) (Ca.out.trans hx.symm);have Cd:=hid hI;have C0:=hid CF;have CM:=Cu.bytes.1;have gW:=fw pc (by rw[Lib.size_eq,Ca.out];omega) wr;rw[Ca.out]at gW;rw[hb]at CQ;have Cr:=hid Cu;clear HI hb hI hx Cu CF CM;go_wp2_with fail;refine gW.mono ?_;rintro e w3 ⟨vl,rfl,hO,Cc⟩;have CH:N<=wr.heap.size:=by have:=Cs.out.size;rw[←CA.out];omega
    have Cb:Hid (Below N w1 w3):=Cs.out.trans (Cc.mono CH);have B5:=HC.out.below Cc;have Ck:N<=w3.heap.size:=alS CH Cc.size;have Co:∀b,v'.ownBlock=some b->N<=b:=λb hb=>(B5.own.lt b hb).1
    have B6:=C0.out;have CD:=CZ.out;have Cn:Hid (∀w5 v5 f5,dA w5 N N v5 f5->dX N v' v5 w3 w5->Below N w1 w5):=λw5 v5 f5 _ hs=>Cb.out.trans (hs.low (alU) Co Ck)
    obtain⟨Cv,Cp⟩:N<wr.heap.size/\∀b,v'.ownBlock=some b->b<wr.heap.size:=⟨HC.out.lt,λb hb=>(HC.out.own.lt b hb).2⟩
    cases Cr.out with
    |skip _ _ hsk _ _=>
     obtain⟨gl,cl,rfl,Cw,Ch,hc⟩:=dY hO (Mb.splitC_ne 32 x);obtain⟨n,HN⟩:∃n,Hid ((Mb.splitC 32 x).length=n):=⟨_,hid rfl⟩;obtain⟨b1,b2,hd,g1,g2⟩:∃b1 b2:ByteArray,(2<n->w3.cell? ⟨gl,1,none⟩=some (.string b1)/\w3.cell? ⟨gl,2,none⟩=some (.string b2))/\(b1.toList==[67,79,85,78,84])=false/\(b2.toList==[71,69,84])=false:=by
      by_cases h2:2<n
      ·obtain⟨wa,wb,wc,r,Ct⟩:∃wa wb wc r,Mb.splitC 32 x=wa::wb::wc::r:=by
        have hl:=HN.out
        match hm:Mb.splitC 32 x,hl with
        |wa::wb::wc::r,_=>exact⟨wa,wb,wc,r,rfl⟩
        |[wa,wb],hl=>simp at hl;omega
        |[wa],hl=>simp at hl;omega
        |[],hl=>simp at hl;omega
       obtain⟨n1,n2⟩:=hsk wa wb wc r Ct;exact⟨⟨wb.toArray⟩,⟨wc.toArray⟩,λ_=>⟨hc 1 wb (by rw[Ct];rfl),hc 2 wc (by rw[Ct];rfl)⟩,by rw[ByteArray.toList_eq];simpa using n1,by rw[ByteArray.toList_eq];simpa using n2⟩
      ·exact⟨⟨#[]⟩,⟨#[]⟩,λe=>absurd e h2,by rw[ByteArray.toList_eq];decide,by rw[ByteArray.toList_eq];decide⟩
     rw[HN.out];have Ce:=hid B5;clear hO hc Cc gW hsk B5 Cn Co Cv Cp Ch Cr
     by_cases h2:2<n
     ·obtain⟨d1,d2⟩:=hd h2;have CR:decide (2<(n:Int))=true:=decide_eq_true (by omega);clear hd;go_wp2_with fail;exact⟨⟨k+1,k+1,v',B8,by omega,by simp,by simp,Ce,Cb,Cd⟩,by simp[RowKit.intOf];omega⟩
     ·have CR:decide (2<(n:Int))=false:=decide_eq_false (by omega);clear hd;go_wp2_with fail;exact⟨⟨k+1,k+1,v',B8,by omega,by simp,by simp,Ce,Cb,Cd⟩,by simp[RowKit.intOf];omega⟩
    |count n _ hn=>
     rw[iy]at hO;obtain⟨gl,cl,rfl,Cw,Ch,hc⟩:=dY hO (by simp);have d1:w3.cell? ⟨gl,1,none⟩=some (.string ⟨#[67,79,85,78,84]⟩):=hc 1 _ rfl;obtain⟨bn,CX,Cx⟩:=aj (Lib.itoa (n:Int));have d2:w3.cell? ⟨gl,2,none⟩=some (.string bn):=by rw[CX.out];exact hc 2 _ rfl
     have gR:=tN B5 Ck n hn (by simp at B6;omega) gl cl bn Cx.out d1 d2;simp only[List.length_cons,List.length_nil]at*;clear hO hc Cc gW Co Cv Cp Ch Cr B6;go_wp2_with fail;refine gR.mono ?_;rintro e w5 ⟨rfl,v5,B9,Cj⟩;have Ce:=hid B9;have CB:=hid (Cn.out _ _ _ B9 Cj);clear gR B9 Cj Cn B5 d1 d2;go_wp2_with fail;exact⟨⟨k+1,k+1,v5,_,by omega,by simp,by simp,Ce,CB,Cd⟩,by simp[RowKit.intOf];omega⟩
    |get p fx _ h1 h2 h3 hf=>
     rw[dv,show [71,69,84,32,70,32]++fx=[71,69,84]++32::([70]++32::fx)by simp,Mb.splitC_app 32 _ _ (by decide),Mb.splitC_app 32 _ _ (by decide),Mb.splitC_free 32 _ λb hb=>(hf.1 b hb).1]at hO;obtain⟨gl,cl,rfl,Cw,Ch,hc⟩:=dY hO (by simp);have d2:w3.cell? ⟨gl,2,none⟩=some (.string ⟨#[71,69,84]⟩):=hc 2 _ rfl;obtain⟨bp,CW,Cm⟩:=aj (Lib.itoa (p:Int));obtain⟨bf,CY,Cy⟩:=aj fx;have d1:w3.cell? ⟨gl,1,none⟩=some (.string bp):=by rw[CW.out];exact hc 1 _ rfl
     have d4:w3.cell? ⟨gl,4,none⟩=some (.string bf):=by rw[CY.out];exact hc 4 _ rfl
     have C3:(bp.toList==[67,79,85,78,84])=false:=ik p Cm.out _ 67 (by decide) (by decide);have gR:=xZ B5 (by simp at B6;omega) p h1 h2 gl cl Cw (by omega) (λe=>by have:=Cp gl e;omega) bp bf Cm.out d1 d4;rw[Cy.out]at gR;simp only[List.length_cons,List.length_nil]at*;clear hO hc Cc gW Co Cv Cp Ch Cr B6 h1 h2 h3 hf;go_wp2_with fail;refine gR.mono ?_;rintro e w5 ⟨rfl,B9,Cj⟩;have Ce:=hid B9;have CB:=hid (Cn.out _ _ _ B9 Cj);clear gR B9 Cj Cn B5 d1 d2 d4;go_wp2_with fail;exact⟨⟨k+1,k+1,v',_,by omega,by simp,by simp,Ce,CB,Cd⟩,by simp[RowKit.intOf];omega⟩
  ·have CP:k=out.data.toList.length:=by rw[←Cz.out];omega
   have HE:Hid (B8=cY ms):=by
    have:=HI.out;rw[CP]at this;exact this.done
   have C2:¬(k:Int)<(out.size:Int):=by omega
   obtain⟨c0,c1,cf⟩:=HC.out.cells;have HO:Hid (cM wr.drew N v' (dj B8)):=au (λ_ _=>rfl) HC.out.own;clear HI cf;obtain⟨a',CV,CN⟩:=eX HC.out.own;subst CN;go_wp2_with fail;refine aC 14 (λw':World=>w'.cell? ⟨N,0,none⟩=some (.slice a' B8.length CV)/\w'.cell? ⟨N,1,none⟩=some (.bool false)) 15 rfl (by kernel_rfl) ⟨c0,c1⟩ (λa' Q hA hQ hP hS=>?_);have z:a'.tmps.size=67:=by rw[hA.out];rfl
   have e7:a'.eval (.tmp 7)=Value.pointer (some ⟨N,0,none⟩):=by rw[hA.out];rfl
   have e6:a'.eval (.tmp 6)=Value.int .i64 0:=by rw[hA.out];rfl
   refine tkA 0 (some 54) rfl rfl hP (λwx hw=>ag rfl e7) hS ?_;refine tkA 1 (some 55) rfl rfl hP (λwx hw=>aI rfl (evz z)) hS ?_;refine tkA 2 (some 56) rfl rfl hP (λwx hw=>ai ⟨N,0,none⟩ rfl (evz (szq z))) hS ?_;refine tkA 3 (some 57) rfl rfl hP (λwx hw=>aq rfl (evz (sz2 z)) (aO hw.1)) hS ?_;refine tkA 4 (some 58) rfl rfl hP (λwx hw=>ag rfl (ev4 e6)) hS ?_;refine tkA 5 (some 59) rfl rfl hP (λwx hw=>bz (v:=.bool true) rfl (evz (sz4 z)) rfl (by go_simp)) hS ?_;refine tkA 6 (some 60) rfl rfl hP (λwx hw=>ag rfl (evz (sz4 (szq z)))) hS ?_;refine jF 7 (some 61) rfl rfl hP (al (e:=60) (b:=true) rfl rfl (evz (sz4 (sz2 z)))) (λwx hw=>ag rfl (ev4 (ev2 (ev1 e7)))) hS ?_;refine jF 8 (some 62) rfl rfl hP (al (e:=60) (b:=true) rfl rfl (ev1 (evz (sz4 (sz2 z))))) (λwx hw=>aI rfl (evz (sz4 (sz2 (szq z))))) hS ?_;refine jF 9 (some 63) rfl rfl hP (al (e:=60) (b:=true) rfl rfl (ev2 (evz (sz4 (sz2 z))))) (λwx hw=>ai ⟨N,1,none⟩ rfl (evz (sz8 z))) hS ?_;refine jF 10 (some 64) rfl rfl hP (al (e:=60) (b:=true) rfl rfl (ev2 (ev1 (evz (sz4 (sz2 z)))))) (λwx hw=>aq rfl (evz (sz8 (szq z))) (aO hw.2)) hS ?_;refine jF 11 (some 65) rfl rfl hP (al (e:=60) (b:=true) rfl rfl (ev4 (evz (sz4 (sz2 z))))) (λwx hw=>yX (v:=.bool true) rfl (evz (sz8 (sz2 z))) (by go_simp)) hS ?_;refine tkA 12 (some 66) rfl rfl hP (λwx hw=>cQ (v:=.bool true) rfl (ev4 (ev1 (evz (sz4 (sz2 z))))) (evz (sz8 (sz2 (szq z)))) rfl rfl) hS ?_;refine bb (i:=13) (d:=some 2) (by kernel_rfl) rfl rfl rfl (aL rfl (ev8 (ev1 (evz (sz2 (szq z)))))) (λ_=>hS) ?_;refine bb (i:=14) (d:=some 3) (by kernel_rfl) rfl rfl rfl (aL rfl (ev1 (evz (sz8 (sz4 z))))) (λ_=>hS) ?_;refine aD (by kernel_rfl) (hQ.out _ _ ?_) _;rw[hA.out];simp only[Act.put,List.setIfInBounds_toArray];dsimp only[List.set];clear hQ hP hA z hS Q a' e7 e6;go_wp2_with fail;go_ret2;exact⟨_,rfl,Cf,w1,HF.out,HT.out,by rw[CA.out];exact Cs.out.drew,by rw[CA.out,←HE.out];exact HO.out⟩
theorem zf{w:World}{B:Nat}{v:Value}{ls:List (List UInt8)}(h:cM w B v (dj ls)){k:Nat}(hk:k<ls.length):∃g cap,v=.slice (some ⟨g,0,none⟩) ls.length cap/\w.cell? ⟨g,k,none⟩=some (.string ⟨(ls[k]).toArray⟩):=by
 obtain⟨g,cap,h1,_,_,h2⟩:=dY h (λe=>by subst e;simp at hk);exact⟨g,cap,h1,h2 k _ (alI hk)⟩
structure Low (B:Nat) (W W':World):Prop where
 os:W'.os=W.os
 tape:W'.tape=W.tape
 output:W'.output=W.output
 size:W.heap.size<=W'.heap.size
 block:∀b,b<B->W'.heap[b]?=W.heap[b]?
theorem Low.trans{B:Nat}{W W1 W2:World}(h:Low B W W1)(k:Low B W1 W2):Low B W W2:=⟨k.os.trans h.os,k.tape.trans h.tape,k.output.trans h.output,alS h.size k.size,λb hb=>(k.block b hb).trans (h.block b hb)⟩
theorem Low.of_below{B:Nat}{W W':World}(hB:B<=W.heap.size)(h:Below W.heap.size W W'):Low B W W':=⟨h.os,h.tape,h.output,h.size,λb hb=>h.block b (by omega)⟩
theorem Low.of_sd{role role':Nat->Nat}{B K c:Nat}{d:Dv}{q:Int}{lk:Nat->Bool}{vw:Nat->Option (List ax)}{ms:List ap}{nx:Int}{W W':World}(h:gj role B K d q lk vw ms nx W)(hs:ng c role role' W W'):Low B W W':=
 ⟨hs.os,hs.tape,hs.output,hs.size,λb hb=>hs.block b (alH hb h.rt.bs.base) (by rw[h.rt.bs.low b hb];decide) (by rw[h.rt.bs.low b hb,jS ⟨by omega,by omega,by omega⟩];decide)⟩
theorem Low.of_cl{B K:Nat}{d:Dv}{q:Int}{Qf:Nat->Nat}{vf:Nat->Value}{fl:Nat->List (List UInt8)}{ks:Nat->List ax}{ms:List ap}{nx:Int}{role:Nat->Nat}{W W':World}{c:Nat}{v':Value}(h:iV B K d q Qf vf fl ks ms nx role W)(hc:c<2)(hs:dX (Qf c) (vf c) v' W W'):Low B W W':=by
 obtain⟨_,h2,h3⟩:=h.cl c hc;refine⟨hs.but.os,hs.but.tape,hs.but.output,hs.but.size,λb hb=>hs.but.block b (alH hb h.sd.rt.bs.base) (λe=>?_) (λe=>?_)⟩
 ·have:=h.sd.rt.bs.low b hb;rw[e,h2]at this;omega
 ·have:=h.sd.rt.bs.low b hb;rw[h3 b e]at this;omega
def BG (B K:Nat) (d:Dv) (q:Int) (Qf:Nat->Nat) (ms:List ap) (nx:Int) (W w':World):Prop:=∃vf' fl' ks' role',iV B K d q Qf vf' fl' ks' ms nx role' w'/\(∀i,i<2->cK [] (fl' i) (ks' i))/\Low B W w'
section
variable {B K:Nat} {d:Dv} {q:Int} {Qf:Nat->Nat} {vf:Nat->Value} {fl:Nat->List (List UInt8)} {ks:Nat->List ax} {ms:List ap} {nx:Int} {role:Nat->Nat} {W:World}
theorem ov(h:iV B K d q Qf vf fl ks ms nx role W)(hA:∀i,i<2->cK [] (fl i) (ks i))(c:Nat)(hc:c<2)(Cq:Nat)(Ca:Qf c=Cq):
  Calls Tryz.prog 9 #[.pointer (some ⟨K,0,none⟩),.int .i64 (c:Int),.pointer (some ⟨Cq,0,none⟩)] W λe w'=>e=.returned (.bool true)/\BG B K d q Qf ms nx W w':=by
 obtain⟨an,CZ,CE,m1,m2,m3,m4,m5,gF⟩:=wn h.sd (c:=c) (by omega) (by simp[vwF,hc]) h.ok (h.vw c hc) (hA c hc) ⟨#[97,32,78,79,79,80,10]⟩ rfl;have CQ:(fl c).length<=100:=by
  rw[(hA c hc).1];have:=(h.vw c hc).len h.ok;omega
 unfold qD at gF;obtain⟨out,Cp,Cc⟩:=aj an;rw[←Cp.out]at gF;obtain⟨s1,s2⟩:=yH h.ok.ris m2 m4 m5;have HS:=hid s2;have CA:(cY ms).length<=8:=by unfold cY;simpa using h.ok.len
 have HH:=hid h;have HA:=hid hA;have HM:=hid (And.intro m1 (And.intro m2 m3));obtain⟨n,HN⟩:∃n,Hid ((cY ms).length=n):=⟨_,hid rfl⟩;have hn8':n<=8:=by rw[←HN.out];exact CA
 have Cd:Hid (CE.length=n):=s1.trans HN.out;clear h hA m1 m2 m3 m4 m5 s1 s2 CA;go_enter Tryz.func9,Tryz.ntmps9;go_wp2_with fail;refine gF.mono ?_;rintro e w1 ⟨va,Cw,rfl,Cz,Ch⟩;have Ce:=HH.out.fed hc Cz Ch HH.out.ok HM.out.2.2 (λ_ h=>h);obtain⟨Co,_,_⟩:=Ce.cl c hc;rw[Ca]at Co;have gD:=tH Co Ce.sd.rt.bs.base CQ HM.out.1 out Cc.out;have Ct:=hid Ce;have CI:Hid (Low B W w1):=Low.of_sd HH.out.sd Ch;clear gF Cz Ch HH Ce Co;go_wp2_with fail;refine gD.mono ?_;rintro e w2 ⟨rfl,v2,CD,hS2⟩;obtain⟨Cv,Cn⟩:=Ct.out.folded hc (by rw[Ca];exact CD) (by rw[Ca];exact hS2);have gS:=Ap Cn;have CJ:=hid Cn;have CH:Hid (Low B W w2):=CI.out.trans (Low.of_cl Ct.out hc (by rw[Ca];exact hS2));clear gD CD hS2 Ct Cn CI;go_wp2_with fail;refine gS.mono ?_;rintro e w4 ⟨vl,rfl,Cu,w3,Cm,B9,Cj,Ck⟩;obtain⟨B8,Cl⟩:=Cm.below Cj;obtain⟨Cb,_,_⟩:=Cl.cl c hc;rw[Ca,eE,eE]at Cb;have CG:Hid (Low B W w4):=(CH.out.trans (Low.of_sd CJ.out.sd B9)).trans (Low.of_below Cm.sd.rt.bs.base Cj);have Cs:Hid (BG B K d q Qf ms nx W w4):=by
  refine⟨_,_,_,B8,Cl,λi hi=>?_,CG.out⟩
  by_cases e:i=c
  ·subst e;rw[eE,eE];exact HM.out.2.1
  ·rw[eT _ _ _ _ e,eT _ _ _ _ e];exact HA.out i hi
 obtain⟨c0,c1,cf⟩:=Cb.cells;obtain⟨CY,Cg,Cy⟩:=eX Cb.own;obtain⟨la,lc,Cx⟩:=eX Ck;rw[Cd.out]at Cy;rw[HN.out]at Cx;subst Cy Cx;have CK:=hid Cb;have CX:=hid Ck;clear gS Cm B9 Cj Ck Cl Cb CH CJ cf CG;go_wp2_with fail;go_loopw [12] (λi wr=>∃k:Nat,k<=n/\i=.int .i64 (k:Int)/\Hid (Below w4.heap.size w4 wr)) (λi _=>n-(RowKit.intOf i).toNat)
 case atStart=>exact⟨0,alT _,rfl,Below.refl _ _⟩
 case round=>
  obtain⟨k,hk,rfl,B7⟩:=hrel
  by_cases B5:k<n
  ·obtain⟨g,cg,hg,x1⟩:=zf CK.out.own (k:=k) (by rw[Cd.out];exact B5);obtain⟨gl,C2,CB,x2⟩:=zf CX.out (k:=k) (by rw[HN.out];exact B5);rw[Cd.out]at hg;rw[HN.out]at CB;injection hg with hg1 hg2 hg3
   injection CB with hl1 hl2 hl3
   subst hg1 hg3 hl1 hl3;have Ci:=HS.out k _ _ (alI (by rw[Cd.out];exact B5)) (alI (by rw[HN.out];exact B5));obtain⟨bf,Cr,CV⟩:=aj (CE[k]'(by rw[Cd.out];exact B5));obtain⟨bl,CF,CU⟩:=aj ((cY ms)[k]'(by rw[HN.out];exact B5));rw[←Cr.out]at x1;rw[←CF.out]at x2;have CS:=CK.out.lt;have CP:=Lib.lt_of_cell x1;have CO:=Lib.lt_of_cell x2;have y0:wr.drew.cell? ⟨Cq,0,none⟩=some (.slice (some ⟨g,0,none⟩) n Cg):=(B7.out.cell (p:=⟨Cq,0,none⟩) CS).trans c0;have y1:wr.drew.cell? ⟨g,k,none⟩=some (.string bf):=(B7.out.cell (p:=⟨g,k,none⟩) CP).trans x1;have y2:wr.drew.cell? ⟨gl,k,none⟩=some (.string bl):=(B7.out.cell (p:=⟨gl,k,none⟩) CO).trans x2;have CC:Hid (Below w4.heap.size w4 wr.drew):=B7.out.drew
   by_cases hq:bf=⟨#[63]⟩
   ·subst hq;clear Ci;go_wp2_with fail;refine aC 22 (λw':World=>w'.cell? ⟨Cq,0,none⟩=some (.slice (some ⟨g,0,none⟩) n Cg)/\w'.cell? ⟨g,k,none⟩=some (.string ⟨#[63]⟩)/\w'.cell? ⟨gl,k,none⟩=some (.string bl)) 22 rfl (by kernel_rfl) ⟨y0,y1,y2⟩ (λa' Q hA hQ hP hS=>?_);have z:a'.tmps.size=78:=by rw[hA.out];rfl
    have e2:a'.eval (.tmp 2)=Value.pointer (some ⟨Cq,0,none⟩):=by rw[hA.out];rfl
    have B6:a'.eval (.tmp 12)=Value.int .i64 (k:Int):=by rw[hA.out];rfl
    have Cf:a'.eval (.tmp 10)=Value.slice (some ⟨gl,0,none⟩) n lc:=by rw[hA.out];rfl
    refine tkA 0 (some 56) rfl rfl hP (λwx hw=>ag rfl e2) hS ?_;refine tkA 1 (some 57) rfl rfl hP (λwx hw=>aI rfl (evz z)) hS ?_;refine tkA 2 (some 58) rfl rfl hP (λwx hw=>ai ⟨Cq,0,none⟩ rfl (evz (szq z))) hS ?_;refine tkA 3 (some 59) rfl rfl hP (λwx hw=>aq rfl (evz (sz2 z)) (aO hw.1)) hS ?_;refine tkA 4 (some 60) rfl rfl hP (λwx hw=>ag rfl (ev4 B6)) hS ?_;refine tkA 5 (some 61) rfl rfl hP (λwx hw=>bB (v:=.pointer (some ⟨g,k,none⟩)) rfl (ev1 (evz (sz2 (szq z)))) (evz (sz4 z)) (cG B5)) hS ?_;refine tkA 6 (some 62) rfl rfl hP (λwx hw=>aq rfl (evz (sz4 (szq z))) (aO hw.2.1)) hS ?_;refine tkA 7 (some 63) rfl rfl hP (λwx hw=>bz (v:=.bool false) rfl (evz (sz4 (sz2 z))) rfl (by go_simp)) hS ?_;refine tkA 8 (some 64) rfl rfl hP (λwx hw=>ag rfl (evz (sz4 (sz2 (szq z))))) hS ?_;refine nR 9 (some 65) rfl rfl hP (aB (e:=64) (b:=true) rfl rfl (evz (sz8 z))) hS ?_;refine nR 10 (some 66) rfl rfl hP (aB (e:=64) (b:=true) rfl rfl (ev1 (evz (sz8 z)))) hS ?_;refine nR 11 (some 67) rfl rfl hP (aB (e:=64) (b:=true) rfl rfl (ev2 (evz (sz8 z)))) hS ?_;refine nR 12 (some 68) rfl rfl hP (aB (e:=64) (b:=true) rfl rfl (ev2 (ev1 (evz (sz8 z))))) hS ?_;refine nR 13 (some 69) rfl rfl hP (aB (e:=64) (b:=true) rfl rfl (ev4 (evz (sz8 z)))) hS ?_;refine nR 14 (some 70) rfl rfl hP (aB (e:=64) (b:=true) rfl rfl (ev4 (ev1 (evz (sz8 z))))) hS ?_;refine nR 15 (some 71) rfl rfl hP (aB (e:=64) (b:=true) rfl rfl (ev4 (ev2 (evz (sz8 z))))) hS ?_;refine nR 16 (some 72) rfl rfl hP (aB (e:=64) (b:=true) rfl rfl (ev4 (ev2 (ev1 (evz (sz8 z)))))) hS ?_;refine nR 17 (some 73) rfl rfl hP (aB (e:=64) (b:=true) rfl rfl (ev8 (evz (sz8 z)))) hS ?_;refine nR 18 (some 74) rfl rfl hP (aB (e:=64) (b:=true) rfl rfl (ev8 (ev1 (evz (sz8 z))))) hS ?_;refine nR 19 (some 75) rfl rfl hP (aB (e:=64) (b:=true) rfl rfl (ev8 (ev2 (evz (sz8 z))))) hS ?_;refine nR 20 (some 76) rfl rfl hP (aB (e:=64) (b:=true) rfl rfl (ev8 (ev2 (ev1 (evz (sz8 z)))))) hS ?_;refine tkA 21 (some 77) rfl rfl hP (λwx hw=>cQ (v:=.bool false) rfl (ev8 (ev4 (evz (sz8 z)))) (evz (sz8 (sz8 (sz4 z)))) rfl rfl) hS ?_;refine aD (by kernel_rfl) (hQ.out _ _ ?_) _;rw[hA.out];simp only[Act.put,List.setIfInBounds_toArray];dsimp only[List.set];clear hQ hP hA z hS Q a' e2 B6 Cf;go_wp2_with fail;exact⟨⟨k+1,by omega,by simp,CC⟩,by simp[RowKit.intOf];omega⟩
   ·have CR:bl=bf:=by
     rcases Ci with e|e
     ·exact absurd (by rw[Cr.out,e]) hq
     ·rw[Cr.out,CF.out,e]
    subst CR;have C1:(bl.toList==[63])=false:=by
     rw[ByteArray.toList_eq];simp only[beq_eq_false_iff_ne,ne_eq];intro e;exact hq (kw e)
    have CN:∀w:World,(do eqGuard .neq 9 (.tmp 62) (.const (.string ⟨#[63]⟩)) (.string bl) (.string ⟨#[63]⟩);binOp .neq 9 (.string bl) (.string ⟨#[63]⟩):Sem Value).run Tryz.prog w=.ok (.bool true) w:=λw=>by go_simp
    clear Ci hq;go_wp2_with fail;refine aC 22 (λw':World=>w'.cell? ⟨Cq,0,none⟩=some (.slice (some ⟨g,0,none⟩) n Cg)/\w'.cell? ⟨g,k,none⟩=some (.string bl)/\w'.cell? ⟨gl,k,none⟩=some (.string bl)) 22 rfl (by kernel_rfl) ⟨y0,y1,y2⟩ (λa' Q hA hQ hP hS=>?_);have z:a'.tmps.size=78:=by rw[hA.out];rfl
    have e2:a'.eval (.tmp 2)=Value.pointer (some ⟨Cq,0,none⟩):=by rw[hA.out];rfl
    have B6:a'.eval (.tmp 12)=Value.int .i64 (k:Int):=by rw[hA.out];rfl
    have Cf:a'.eval (.tmp 10)=Value.slice (some ⟨gl,0,none⟩) n lc:=by rw[hA.out];rfl
    refine tkA 0 (some 56) rfl rfl hP (λwx hw=>ag rfl e2) hS ?_;refine tkA 1 (some 57) rfl rfl hP (λwx hw=>aI rfl (evz z)) hS ?_;refine tkA 2 (some 58) rfl rfl hP (λwx hw=>ai ⟨Cq,0,none⟩ rfl (evz (szq z))) hS ?_;refine tkA 3 (some 59) rfl rfl hP (λwx hw=>aq rfl (evz (sz2 z)) (aO hw.1)) hS ?_;refine tkA 4 (some 60) rfl rfl hP (λwx hw=>ag rfl (ev4 B6)) hS ?_;refine tkA 5 (some 61) rfl rfl hP (λwx hw=>bB (v:=.pointer (some ⟨g,k,none⟩)) rfl (ev1 (evz (sz2 (szq z)))) (evz (sz4 z)) (cG B5)) hS ?_;refine tkA 6 (some 62) rfl rfl hP (λwx hw=>aq rfl (evz (sz4 (szq z))) (aO hw.2.1)) hS ?_;refine tkA 7 (some 63) rfl rfl hP (λwx hw=>bz (v:=.bool true) rfl (evz (sz4 (sz2 z))) rfl (CN _)) hS ?_;refine tkA 8 (some 64) rfl rfl hP (λwx hw=>ag rfl (evz (sz4 (sz2 (szq z))))) hS ?_;refine jF 9 (some 65) rfl rfl hP (al (e:=64) (b:=true) rfl rfl (evz (sz8 z))) (λwx hw=>ag rfl (ev8 (ev1 e2))) hS ?_;refine jF 10 (some 66) rfl rfl hP (al (e:=64) (b:=true) rfl rfl (ev1 (evz (sz8 z)))) (λwx hw=>aI rfl (evz (sz8 (szq z)))) hS ?_;refine jF 11 (some 67) rfl rfl hP (al (e:=64) (b:=true) rfl rfl (ev2 (evz (sz8 z)))) (λwx hw=>ai ⟨Cq,0,none⟩ rfl (evz (sz8 (sz2 z)))) hS ?_;refine jF 12 (some 68) rfl rfl hP (al (e:=64) (b:=true) rfl rfl (ev2 (ev1 (evz (sz8 z))))) (λwx hw=>aq rfl (evz (sz8 (sz2 (szq z)))) (aO hw.1)) hS ?_;refine jF 13 (some 69) rfl rfl hP (al (e:=64) (b:=true) rfl rfl (ev4 (evz (sz8 z)))) (λwx hw=>ag rfl (ev8 (ev4 (ev1 B6)))) hS ?_;refine jF 14 (some 70) rfl rfl hP (al (e:=64) (b:=true) rfl rfl (ev4 (ev1 (evz (sz8 z))))) (λwx hw=>bB (v:=.pointer (some ⟨g,k,none⟩)) rfl (ev1 (evz (sz8 (sz4 z)))) (evz (sz8 (sz4 (szq z)))) (cG B5)) hS ?_;refine jF 15 (some 71) rfl rfl hP (al (e:=64) (b:=true) rfl rfl (ev4 (ev2 (evz (sz8 z))))) (λwx hw=>aq rfl (evz (sz8 (sz4 (sz2 z)))) (aO hw.2.1)) hS ?_;refine jF 16 (some 72) rfl rfl hP (al (e:=64) (b:=true) rfl rfl (ev4 (ev2 (ev1 (evz (sz8 z)))))) (λwx hw=>ag rfl (ev8 (ev8 Cf))) hS ?_;refine jF 17 (some 73) rfl rfl hP (al (e:=64) (b:=true) rfl rfl (ev8 (evz (sz8 z)))) (λwx hw=>ag rfl (ev8 (ev8 (ev1 B6)))) hS ?_;refine jF 18 (some 74) rfl rfl hP (al (e:=64) (b:=true) rfl rfl (ev8 (ev1 (evz (sz8 z))))) (λwx hw=>bB (v:=.pointer (some ⟨gl,k,none⟩)) rfl (ev1 (evz (sz8 (sz8 z)))) (evz (sz8 (sz8 (szq z)))) (cG B5)) hS ?_;refine jF 19 (some 75) rfl rfl hP (al (e:=64) (b:=true) rfl rfl (ev8 (ev2 (evz (sz8 z))))) (λwx hw=>aq rfl (evz (sz8 (sz8 (sz2 z)))) (aO hw.2.2)) hS ?_;refine jF 20 (some 76) rfl rfl hP (al (e:=64) (b:=true) rfl rfl (ev8 (ev2 (ev1 (evz (sz8 z)))))) (λwx hw=>bz (v:=.bool false) rfl (ev4 (evz (sz8 (sz4 (sz2 (szq z)))))) (evz (sz8 (sz8 (sz2 (szq z))))) (by go_simp)) hS ?_;refine tkA 21 (some 77) rfl rfl hP (λwx hw=>cQ (v:=.bool false) rfl (ev8 (ev4 (evz (sz8 z)))) (evz (sz8 (sz8 (sz4 z)))) rfl rfl) hS ?_;refine aD (by kernel_rfl) (hQ.out _ _ ?_) _;rw[hA.out];simp only[Act.put,List.setIfInBounds_toArray];dsimp only[List.set];clear hQ hP hA z hS Q a' e2 B6 Cf;go_wp2_with fail;exact⟨⟨k+1,by omega,by simp,CC⟩,by simp[RowKit.intOf];omega⟩
  ·have C0:¬(k:Int)<(n:Int):=by omega
   have CW:Hid (BG B K d q Qf ms nx W wr):=by
    obtain⟨CL,CT,CM,role',r1,r2,r3⟩:=Cs.out;obtain⟨role'',r4⟩:=r1.below B7.out;exact⟨CL,CT,CM,role'',r4,r2,r3.trans (Low.of_below r1.sd.rt.bs.base B7.out)⟩
   go_wp2_with fail;go_ret;exact⟨rfl,CW.out⟩
end
end Go.Proofs.YtbeahecjbokjjaaGreatDoor
