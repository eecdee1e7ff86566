import Derived.Test.YtbeahecjbokjjaaGreatDoorQ28
set_option maxRecDepth 100000
set_option maxHeartbeats 16000000
namespace Go.Proofs.YtbeahecjbokjjaaGreatDoor
open Go.RowKit Go.Lib
def kz (m:ap):Bool:=decide (bv m.flags [100]=m.flags)
def cr (ms:List ap):List ap:=ms.filter λm=>!kz m
theorem sJ{ms:List ap}{k:Nat}(hk:k<ms.length):cr (ms.take (k+1))=cr (ms.take k)++(if kz ms[k]then []else [ms[k]]):=by
 unfold cr;rw[alL hk,List.filter_append];congr 1
 cases h:kz ms[k]<;>simp[h]
theorem nI{ms:List ap}{m:ap}(h:m∈cr ms):m∈ms:=(List.mem_filter.1 h).1
theorem ye{x y:ByteArray}(w:World):(Instr.field 58 (.agg #[.string x,.string y]) 0).run Tryz.prog w=.ok (.string x) w:=by kernel_rfl
theorem yE{og oc n:Nat}(w:World):(binOp .eql 24 (.slice (some ⟨og,0,none⟩) n oc) (.slice none 0 0)).run Tryz.prog w=.ok (.bool false) w:=by kernel_rfl
theorem yF(w:World):(binOp .eql 24 (.slice none 0 0) (.slice none 0 0)).run Tryz.prog w=.ok (.bool true) w:=by kernel_rfl
theorem nE(a b:List gd):cE (a++b)=cE a++cE b:=by simp[cE]
theorem wQ{w:World}{K B:Nat}{nx:Int}{v:Value}{ms:List ap}(hF:bg w K av av 1 nx v)(ho:bI w B v ms)(CZ:v.ownBlock≠some K)(hB:B<=w.heap.size)(Dh:B<=K)(hE:lA B w)(hl:ms.length<=90)(hu:ms.Pairwise λx y=>x.uid≠y.uid)(C0:∀m∈ms,0<=m.key/\m.key<=999/\m.came.length<=1000/\m.flags.length<=1000)(CY:Mb.listOk 1 nx ((cr ms).map aQ)=true):
  Calls Tryz.prog 226 #[.pointer (some ⟨K,0,none⟩)] w λe w'=>(∃va ys,e=.returned va/\ed w' w.heap.size va ys/\ys.length<=200)/\∃v',bg w' K av av 1 nx v'/\bI w' B v' (cr ms)/\v'.ownBlock=v.ownBlock/\aR K v v' w w':=by
 obtain⟨i0,C2,CV,CU,CT⟩:=alQ eO;have c4:=hF.cells.2.2.2.2.1;have De:=hF.cells.2.2.2.2.2.2;have gC:=vX ho (by omega);have HF:=hid hF;have HO:=hid ho;have DO:=hid CZ;have HE:=hid hE;have HU:=hid hu;have Dp:=hid C0;have DN:=hid CY;have Cs:Hid (∀b,v.ownBlock=some b->B<=b/\b<w.heap.size):=λb hb=>ho.lt b hb
 obtain⟨fa,fc,rfl,DX,_,_⟩:=bI.form ho;clear hF ho CZ hE hu C0 CY;go_enter Tryz.func226,Tryz.ntmps226;go_wp2_with fail;refine gC.mono ?_;rintro e w1 ⟨⟨DT,rfl,C5⟩,CL⟩;obtain⟨ca,cc,rfl,_,C4,C6⟩:=bI.form C5;have DV:=CL.size;generalize hn:ms.length=n at*;have HN:Hid (ms.length=n):=hn;have DR:=hid C4;have Ds:=hid C6;have CR:=hid CL;clear hn C5 C4 C6 gC CL c4;go_wp2_with fail;go_loopw [3,12,5] (λo i _ wr=>∃(k:Nat) (ys:List gd) (v':Value),k<=n/\i=.int .i64 k/\ys.length<=2*k/\Hid (ed wr w.heap.size o ys)/\Hid (bg wr K av av 1 nx v')/\Hid (bI wr B v' (cr (ms.take k)++ms.drop k))/\Hid (v'.ownBlock=(Value.slice fa n fc).ownBlock)/\Hid (aR K (.slice fa n fc) v' w wr)/\Hid (∀b off,ca=some ⟨b,off,none⟩->wr.heap[b]?=w1.heap[b]?)/\Hid (∀b off,ca=some ⟨b,off,none⟩->o.ownBlock≠some b)) (λ_ i _ _=>n-(RowKit.intOf i).toNat)
 case atStart=>exact⟨0,[],.slice fa n fc,alT _,rfl,alT _,alG _ _ _ _,HF.out.below CR.out,au (λb hb=>CR.out.block b (Cs.out b hb).2) (by simpa[cr,bI]using HO.out),rfl,aR.below CR.out,λ_ _ _=>rfl,λ_ _ _ h=>by simp[Value.ownBlock]at h⟩
 case round=>
  obtain⟨k,ys,v',hk,rfl,DU,hA,hF,hO,hv,hs,Ch,Cy⟩:=hrel;have DB:=hs.out.but.size
  by_cases C1:k<n
  ·have Cf:k<ms.length:=by rw[HN.out];exact C1
   obtain⟨cg,rfl,CG,CF⟩:∃cg,ca=some ⟨cg,0,none⟩/\cg<w1.heap.size/\fu w1 cg 0 ms:=by
    rcases DR.out with h|⟨b,off,h1,h2,h3⟩
    ·rw[h]at Cf;simp at Cf
    ·have:=(Ds.out b off h1).2;subst this;exact⟨b,h1,h2,h3⟩
   have DY:w.heap.size<=cg:=(Ds.out cg 0 rfl).1;have Ca:=Ch.out cg 0 rfl;have hI:∀w,(Instr.indexAt 112 (.slice (some ⟨cg,0,none⟩) n cc) (.int .i64 (k:Int))).run Tryz.prog w=.ok (.pointer (some ⟨cg,k*5,none⟩)) w:=λw=>by have:=cy (g:=cg) (off:=0) (cap:=cc) (w:=w) C1;rwa [Nat.zero_add]at this
   obtain⟨p0,p1,p2,p3,p4⟩:=CF k ms[k] (by simp[Cf]);simp only[Nat.zero_add]at p0 p1 p2 p3 p4;have d0:=(aF ⟨cg,k*5,none⟩ Ca).trans p0;have d1:=(aF ⟨cg,k*5+1,none⟩ Ca).trans p1;have d2:=(aF ⟨cg,k*5+2,none⟩ Ca).trans p2;have d3:=(aF ⟨cg,k*5+3,none⟩ Ca).trans p3;have d4:=(aF ⟨cg,k*5+4,none⟩ Ca).trans p4;have CH:cg<wr.heap.size:=by
    have:(wr.heap[cg]?).isSome:=by rw[Ca];simp[CG]
    simpa using this
   obtain⟨m0,m1,m2,m3⟩:=Dp.out ms[k] (List.getElem_mem Cf);have Dm:Hid (cr (ms.take (k+1))=cr (ms.take k)++(if kz ms[k]then []else [ms[k]])):=sJ Cf;have Dq:Hid (ms.drop k=ms[k]::ms.drop (k+1)):=List.drop_eq_getElem_cons Cf;have HP:Hid (∀y∈cr (ms.take k),y.uid≠ms[k].uid):=λy hy=>by
    have hy':=nI hy;obtain⟨j,hj,rfl⟩:=List.mem_iff_getElem.1 hy';rw[List.getElem_take];exact List.pairwise_iff_getElem.1 HU.out j k (by simp at hj;omega) Cf (by simp at hj;omega)
   have HR:Hid (∀y∈ms.drop (k+1),y.uid≠ms[k].uid):=λy hy=>by
    obtain⟨j,hj,rfl⟩:=List.mem_iff_getElem.1 hy;rw[List.getElem_drop];exact Ne.symm (List.pairwise_iff_getElem.1 HU.out k (k+1+j) Cf (by simp at hj;omega) (by omega))
   have DP:Hid ((cr (ms.take k)).length+(ms.drop (k+1)).length<=1000):=by
    unfold Hid;have h1:(cr (ms.take k)).length<=(ms.take k).length:=List.length_filter_le _ _;have h2:=HN.out;simp at h1⊢;omega
   have DQ:Hid (kz ms[k]=decide (bv ms[k].flags [100]=ms[k].flags)):=rfl;generalize ms[k]=m at*;have gH:=tD ⟨m.flags.toArray⟩ ⟨#[100]⟩ (wr.alloc (.cells #[.int .i64 m.key,.int .i64 m.uid,.string ⟨m.flags.toArray⟩,.string ⟨m.came.toArray⟩,.string ⟨m.text.toArray⟩] 165));have Ci:Below wr.heap.size wr (wr.alloc (.cells #[.int .i64 m.key,.int .i64 m.uid,.string ⟨m.flags.toArray⟩,.string ⟨m.came.toArray⟩,.string ⟨m.text.toArray⟩] 165)):=aw;have hX:(wr.alloc (.cells #[.int .i64 m.key,.int .i64 m.uid,.string ⟨m.flags.toArray⟩,.string ⟨m.came.toArray⟩,.string ⟨m.text.toArray⟩] 165)).heap[wr.heap.size]?=some (.cells #[.int .i64 m.key,.int .i64 m.uid,.string ⟨m.flags.toArray⟩,.string ⟨m.came.toArray⟩,.string ⟨m.text.toArray⟩] 165 (0,0)):=alA wr _;have DI:wr.heap.size<(wr.alloc (.cells #[.int .i64 m.key,.int .i64 m.uid,.string ⟨m.flags.toArray⟩,.string ⟨m.came.toArray⟩,.string ⟨m.text.toArray⟩] 165)).heap.size:=by simp
   have CO:=hA.out.below Ci;have CN:=hF.out.below Ci;have CM:bI (wr.alloc (.cells #[.int .i64 m.key,.int .i64 m.uid,.string ⟨m.flags.toArray⟩,.string ⟨m.came.toArray⟩,.string ⟨m.text.toArray⟩] 165)) B v' (cr (ms.take k)++ms.drop k):=au (λb hb=>Ci.block b (hO.out.lt b hb).2) hO.out;have Cz:=hs.out.trans (aR.below Ci);have CJ:=(Ci.block cg CH).trans Ca;have Cw:Hid (∀b,u3.ownBlock=some b->b<wr.heap.size/\b≠cg):=λb hb=>⟨(hA.out.lt b hb).2,λe=>Cy.out cg 0 rfl (by rw[hb,e])⟩
   rw[show(⟨m.flags.toArray⟩:ByteArray).data.toList=m.flags by simp,show(⟨#[100]⟩:ByteArray).data.toList=[100]from rfl,←DQ.out]at gH;have HX:=hid hX;have Du:=hid CO;have CP:=hid CN;have Dn:=hid CM;have Cg:=hid Cz;have Dr:=hid CJ;generalize(⟨m.flags.toArray⟩:ByteArray)=b2 at*;have Cl:Hid ((⟨m.came.toArray⟩:ByteArray).data.toList.length<=1000):=by unfold Hid;simpa using m2
   generalize(⟨m.came.toArray⟩:ByteArray)=b3 at*;generalize(⟨m.text.toArray⟩:ByteArray)=b4 at*
   cases Cu:kz m
   ·rw[Cu]at gH;clear p0 p1 p2 p3 p4 Ci hX CO CN CM Cz CJ Ca hA hF hO hs Ch CF;go_wp2_with fail;refine gH.mono ?_;rintro e w2 ⟨rfl,DA⟩;subst w2;clear gH d0 d1 d2 d3 d4 hI;go_wp2_with fail;refine⟨⟨k+1,ys,v',by omega,by simp,by omega,Du,CP,?_,hv,Cg,λb off h=>by injection h with h;injection h with h;subst h;exact Dr.out,λb off h e=>by injection h with h;injection h with h;subst h;exact(Cw.out _ e).2 rfl⟩,by simp[RowKit.intOf];omega⟩;unfold Hid;rw[Dm.out,Cu];have:=Dn.out;rw[Dq.out]at this;simpa using this
   ·rw[Cu]at gH;clear p0 p1 p2 p3 p4 Ci hX CO CN CM Cz CJ Ca hA hF hO hs Ch CF;go_wp2_with fail;refine gH.mono ?_;rintro e w2 ⟨rfl,DA⟩;subst w2;clear gH d0 d1 d2 d3 d4 hI;generalize(wr.alloc (.cells #[.int .i64 m.key,.int .i64 m.uid,.string b2,.string b3,.string b4] 165))=w2 at*;have Dg:Env w2:=HE.out w2 λb hb=>Cg.out.low Dh hB (λy hy=>(Cs.out y hy).1) b hb
    have gF:=o2 CP.out m.key m.uid b2 b3 b4 m0 m1 (by decide) (by have:=Cl.out;omega) Dg;have x0:=ae (o:=0) HX.out rfl;have x1:=ae (o:=1) HX.out rfl;have x2:=ae (o:=2) HX.out rfl;have x3:=ae (o:=3) HX.out rfl;have x4:=ae (o:=4) HX.out rfl;clear Dg;go_wp2_with fail;refine gF.mono ?_;rintro e w3 ⟨⟨bN,rfl,DH⟩,Ck⟩;clear DH;have C3:(w3.alloc (.cells #[.string bN] 9)).cell? ⟨w3.heap.size,0,none⟩=some (.string bN):=ae (o:=0) (alA w3 _) rfl;have gD:=zQ (c:=1) C3 (by simp);have C9:Below w3.heap.size w3 (w3.alloc (.cells #[.string bN] 9)):=aw;have Co:Below w2.heap.size w2 (w3.alloc (.cells #[.string bN] 9)):=Ck.trans (C9.mono Ck.size);have Cj:=hid Co;have DW:=λw=>ye (x:=bN) (y:=b4) w
    clear gF Ck C3 C9 Co x0 x1 x2 x3 x4;go_wp2_with fail;generalize(w3.alloc (.cells #[.string bN] 9))=w4 at*;refine gD.mono ?_;rintro e w5 ⟨⟨vd,rfl,CW⟩,Db⟩;have Cb:Below w2.heap.size w2 w5:=Cj.out.trans (Db.mono Cj.out.size);have Dl:Hid (w5.ownsRow w4.heap.size 181 4 vd 2 (cE (fI bN.data.toList))):=CW;have Ce:=hid Cb;have CA:=Cb.size;have CS:Hid (w5.ownsRow w.heap.size 181 4 _ ys.length (cE ys)):=Du.out.below Cb;clear gD CW Db Cb Cj;obtain⟨da,dc,rfl,_⟩:=cx Dl.out;obtain⟨oa,oc,rfl,_⟩:=cx CS.out;go_wp2_with(at_builtin;refine dx rfl (.tmp 19) (.tmp 25) 24 rfl 181 i0 (.agg #[.int .i64 0,.string ByteArray.empty,.string ByteArray.empty,.string ByteArray.empty]) 4 _ w.heap.size w4.heap.size Tryz.underlying24 C2 CV CU CT rfl (by decide) _ _ rfl rfl ys.length 2 _ _ CS.out Dl.out (fV _) ?c6 ?c7 (by omega) ?_)
    case c6=>unfold maxLen;omega
    case c7=>omega
    intro v6 w6 B6 B5 Cd;have DF:=Cg.out.but.size;have B9:∀b,(Value.slice oa ys.length oc).ownBlock=some b->w.heap.size<=b/\b<w5.heap.size:=λb hb=>CS.out.lt b hb
    have B8:∀b,b<w2.heap.size->(Value.slice oa ys.length oc).ownBlock≠some b->w6.heap[b]?=w2.heap[b]?:=λb hb hn=>(B5.block b (by omega) (λe=>hn e.symm)).trans (Ce.out.block b hb)
    have B7:∀b,b<w.heap.size->w6.heap[b]?=w2.heap[b]?:=λb hb=>B8 b (by omega) (λe=>by have:=(B9 b e).1;omega)
    have DE:w2.heap.size<=w6.heap.size:=alS CA B5.size;have Cr:bg w6 K av av 1 nx v':=(B7 K De).trans CP.out;have hVB':∀b,v'.ownBlock=some b->b<w.heap.size:=λb hb=>(Cs.out b (hv.out▸hb)).2
    have Cp:bI w6 B v' (cr (ms.take k)++m::ms.drop (k+1)):=by
     have:=au (λb hb=>B7 b (hVB' b hb)) Dn.out;rw[Dq.out]at this;exact this
    have Dc:w6.heap[wr.heap.size]?=w2.heap[wr.heap.size]?:=B8 _ DI (λe=>by have:=(Cw.out _ e).1;omega);have C8:w6.heap[cg]?=w1.heap[cg]?:=(B8 _ (by omega) (λe=>(Cw.out _ e).2 rfl)).trans Dr.out;have x1:=ae (o:=1) (Dc.trans HX.out) rfl;have gR:=vT Cr Cp (by rw[hv.out];exact DO.out) DP.out HP.out HR.out;have Da:∀b,v6.ownBlock=some b->w.heap.size<=b/\b≠cg:=λb hb=>by
     rcases Cd with h|h
     ·rw[h]at hb;exact⟨(B9 b hb).1,(Cw.out b hb).2⟩
     ·rw[h]at hb;injection hb with hb;subst hb;exact⟨by omega,by omega⟩
    have Cn:aR K (.slice fa n fc) v' w w6:=⟨⟨B5.os.trans (Ce.out.os.trans Cg.out.but.os),B5.tape.trans (Ce.out.tape.trans Cg.out.but.tape),B5.output.trans (Ce.out.output.trans Cg.out.but.output),by omega,λb h1 h2 h3=>(B7 b h1).trans (Cg.out.but.block b h1 h2 h3)⟩,Cg.out.row⟩;have Dw:Hid (ed w6 w.heap.size v6 (ys++fI bN.data.toList)):=by
     unfold Hid ed;rw[nE,List.length_append];exact B6
    have DK:=hid Cn;have DS:=hid C8;have CQ:=hid Da;have CI:cg<w6.heap.size:=by omega
    obtain⟨Dz,Dy,rfl,_⟩:=cx B6;clear B6 B5 Cd B9 B8 B7 Cr Cp Dc C8 Cn Da;go_wp2_with fail;refine gR.mono ?_;rintro e w7 ⟨rfl,v7,Df,Dd,CX,Ct⟩;have Di:=au (λb hb=>Ct.but.block b (Dw.out.lt b hb).2 (λe=>by have:=(CQ.out b hb).1;omega) (λe=>by have:=(CQ.out b hb).1;have:=hVB' b e;omega)) Dw.out;have C7:w7.heap[cg]?=w1.heap[cg]?:=(Ct.but.block cg CI (by omega) (λe=>by have:=hVB' cg e;omega)).trans DS.out;have DL:=hid (And.intro Di (And.intro Df (And.intro Dd (And.intro (CX.trans hv.out) (And.intro (DK.out.trans Ct) C7)))));clear gR Df Dd CX Ct Di C7;go_wp2_with fail;obtain⟨q1,q2,q3,q4,q5,q6⟩:=DL.out;refine⟨⟨k+1,ys++fI bN.data.toList,v7,by omega,by simp,by simp[fI];omega,?_,q2,?_,q4,q5,λb off h=>by injection h with h;injection h with h;subst h;exact q6,λb off h e=>by injection h with h;injection h with h;subst h;exact(CQ.out _ e).2 rfl⟩,by simp[RowKit.intOf];omega⟩
    ·unfold Hid ed;simpa[fI]using q1
    ·unfold Hid;rw[Dm.out,Cu];simpa using q3
  ·have CE:k=n:=by omega
   have CD:k=ms.length:=by rw[HN.out];exact CE
   have Cv:bI wr B v' (cr ms):=by
    have:=hO.out;rw[CD,List.take_length,List.drop_length,List.append_nil]at this;exact this
   have hVB':∀b,v'.ownBlock=some b->b<w.heap.size:=λb hb=>(Cs.out b (hv.out▸hb)).2
   have hE':Env wr:=HE.out wr λb hb=>hs.out.low Dh hB (λy hy=>(Cs.out y hy).1) b hb
   have gL:=oe hF.out Cv (by have:(cr ms).length<=ms.length:=List.length_filter_le _ _;have:=HN.out;omega) hE' DN.out (λm hm=>(Dp.out m (nI hm)).2.2.2);have Do:=hid Cv
   rcases hA.out.2 with⟨CC,_⟩|⟨og,oc,DZ,Cm,_⟩
   ·subst CC;have DC:=λw=>yF w
    clear gL hE' Cv hO CD CE;go_wp2_with fail;go_ret;have CB:=HN.out;subst CB;exact⟨⟨_,ys,rfl,hA.out,by omega⟩,v',hF.out,Do.out,hv.out,hs.out⟩
   ·subst Cm;have DC:=λw=>yE (og:=og) (oc:=oc) (n:=ys.length) w
    clear hE' Cv hO CD CE;go_wp2_with fail;refine gL.mono ?_;rintro e w2 ⟨⟨bT,rfl,DG⟩,CK⟩;have gP:=n7 ⟨#[105,110,47,108,105,115,116]⟩ bT w2;have Dt:=hid CK;have DF:=CK.size;clear gL DG CK;go_wp2_with fail;refine gP.mono ?_;rintro e w3 ⟨⟨vp,rfl,Cx⟩,Ck⟩;have Cc:Below wr.heap.size wr w3:=Dt.out.trans (Ck.mono Dt.out.size);have DJ:Hid (w3.ownsRow w2.heap.size 181 4 vp 5 (cE (bO [105,110,47,108,105,115,116] bT.data.toList))):=Cx;have Cl:=hid Cc;have DD:=Cc.size;have Dx:Hid (w3.ownsRow w.heap.size 181 4 (.slice (some ⟨og,0,none⟩) ys.length oc) ys.length (cE ys)):=hA.out.below Cc;obtain⟨pa,pc,rfl,_⟩:=cx Cx;clear gP Cx Ck Cc;go_wp2_with(at_builtin;refine dx rfl (.tmp 34) (.tmp 37) 24 rfl 181 i0 (.agg #[.int .i64 0,.string ByteArray.empty,.string ByteArray.empty,.string ByteArray.empty]) 4 _ w.heap.size w2.heap.size Tryz.underlying24 C2 CV CU CT rfl (by decide) _ _ rfl rfl ys.length 5 _ _ Dx.out DJ.out (fV _) ?c6 ?c7 (by omega) ?_)
    case c6=>unfold maxLen;omega
    case c7=>omega
    intro v6 w6 B6 B5 Cd;have B9:∀b,(Value.slice (some ⟨og,0,none⟩) ys.length oc).ownBlock=some b->w.heap.size<=b:=λb hb=>(Dx.out.lt b hb).1
    have B7:∀b,b<w.heap.size->w6.heap[b]?=wr.heap[b]?:=λb hb=>(B5.block b (by omega) (λe=>by have:=B9 b e.symm;omega)).trans (Cl.out.block b (by omega))
    have Cr:bg w6 K av av 1 nx v':=(B7 K De).trans hF.out;have Cp:bI w6 B v' (cr ms):=au (λb hb=>B7 b (hVB' b hb)) Do.out;have Cn:aR K (.slice fa n fc) v' w w6:=⟨⟨B5.os.trans (Cl.out.os.trans hs.out.but.os),B5.tape.trans (Cl.out.tape.trans hs.out.but.tape),B5.output.trans (Cl.out.output.trans hs.out.but.output),alS DB (alS DD B5.size),λb h1 h2 h3=>(B7 b h1).trans (hs.out.but.block b h1 h2 h3)⟩,λb hb=>hs.out.row b hb⟩;have Dj:ed w6 w.heap.size v6 (ys++bO [105,110,47,108,105,115,116] bT.data.toList):=by
     unfold ed;rw[nE,List.length_append];exact B6
    have DM:=hid (And.intro Dj (And.intro Cr (And.intro Cp Cn)));obtain⟨Dz,Dy,rfl,_⟩:=cx B6;clear B6 B5 Cd B9 B7 Cr Cp Cn Dj;go_wp2_with fail;go_ret;obtain⟨q1,q2,q3,q4⟩:=DM.out;have CB:=HN.out;subst CB;exact⟨⟨_,_,rfl,by simpa using q1,by simp[bO];omega⟩,v',q2,q3,hv.out,q4⟩
def bA (xs ms:List ap):List ap:=xs.foldl (λl x=>ci x.uid x.flags l) ms
theorem qp(xs ms:List ap)(k:Nat)(hk:k<xs.length):bA (xs.take (k+1)) ms=ci xs[k].uid xs[k].flags (bA (xs.take k) ms):=by
 unfold bA;rw[alL hk,List.foldl_append]
 rfl
theorem ie(xs ms:List ap):(bA xs ms).length=ms.length:=by
 induction xs generalizing ms with
 |nil=>rfl
 |cons x r ih=>show(bA r (ci x.uid x.flags ms)).length=_;rw[ih,yU]
theorem pm(xs ms:List ap)(hx:∀x∈xs,x.flags.length<=1000)(h:∀m∈ms,m.flags.length<=1000):∀m∈bA xs ms,m.flags.length<=1000:=by
 induction xs generalizing ms with
 |nil=>exact h
 |cons x r ih=>exact ih _ (λy hy=>hx y (List.mem_cons_of_mem _ hy)) (uI _ _ _ (hx x (List.mem_cons_self ..)) h)
theorem zK{x y y':ByteArray}{b:Bool}(h:b=decide (y=y'))(w:World):(do eqGuard .eql 58 (.tmp 24) (.tmp 25) (.agg #[.string x,.string y]) (.agg #[.string x,.string y']);binOp .eql 58 (.agg #[.string x,.string y]) (.agg #[.string x,.string y']):Sem Value).run Tryz.prog w=.ok (.bool b) w:=by
 by_cases he:y=y'
 ·subst he;rw[decide_eq_true rfl]at h;subst h;go_simp
 ·rw[decide_eq_false he]at h;subst h;exact AM he w
theorem kH{w:World}{K B:Nat}{nx:Int}{v:Value}{ms:List ap}(hF:bg w K av av 1 nx v)(ho:bI w B v ms)(Cz:v.ownBlock≠some K)(hB:B<=w.heap.size)(CV:B<=K)(hE:lA B w)(hl:ms.length<=100)
  (a:Option Addr) (mc:Nat) (xs:List ap) (hM:dB w a xs) (C9:xs.length<=1000) (B9:∀b off,a=some ⟨b,off,none⟩->b≠K/\v.ownBlock≠some b) (Cy:Mb.listOk 1 nx (ms.map aQ)=true) (Ca:Mb.listOk 1 nx ((bA xs ms).map aQ)=true) (Ci:∀m∈ms,m.flags.length<=1000) (Cx:∀x∈xs,x.flags.length<=1000):
  Calls Tryz.prog 221 #[.pointer (some ⟨K,0,none⟩),.slice a xs.length mc] w λe w'=>(∃va ys,e=.returned va/\ed w' w.heap.size va ys/\ys.length<=5)/\bg w' K av av 1 nx v/\bI w' B v (bA xs ms)/\aR K v v w w':=by
 have Dc:=hF.cells.2.2.2.2.2.2;have gL:=oe hF ho hl (hE w λ_ _=>rfl) Cy Ci;have HF:=hid hF;have HO:=hid ho;have HN:=hid Cz;have HE:=hid hE;have CN:=hid Ca;have C5:=hid Ci;have C0:=hid Cx;have HM:=hid hM;have C3:=hid B9;clear hF ho Cz hE Cy Ca Ci Cx hM B9;go_enter Tryz.func221,Tryz.ntmps221;go_wp2_with fail;refine gL.mono ?_;rintro e w1 ⟨⟨bT,rfl,CD⟩,Cf⟩;have CE:Below w1.heap.size w1 (w1.alloc (.cells #[.string ⟨#[105,110,47,108,105,115,116]⟩,.string bT] 58)):=aw;have hY:(w1.alloc (.cells #[.string ⟨#[105,110,47,108,105,115,116]⟩,.string bT] 58)).heap[w1.heap.size]?=some (.cells #[.string ⟨#[105,110,47,108,105,115,116]⟩,.string bT] 58 (0,0)):=alA w1 _;have CH:Below w.heap.size w (w1.alloc (.cells #[.string ⟨#[105,110,47,108,105,115,116]⟩,.string bT] 58)):=Cf.trans (CE.mono Cf.size);have Db:w.heap.size<=w1.heap.size:=Cf.size;have Dd:=hid CD;have HY:=hid hY;have Cw:=hid CH;have CT:w1.heap.size<(w1.alloc (.cells #[.string ⟨#[105,110,47,108,105,115,116]⟩,.string bT] 58)).heap.size:=by simp
 clear gL Cf CE hY CH CD;go_wp2_with fail;generalize(w1.alloc (.cells #[.string ⟨#[105,110,47,108,105,115,116]⟩,.string bT] 58))=w2 at*;generalize w1.heap.size=Y at*;go_loopw [7,12] (λ_ i wr=>∃(k:Nat),k<=xs.length/\i=.int .i64 k/\Hid (bg wr K av av 1 nx v)/\Hid (bI wr B v (bA (xs.take k) ms))/\Hid (aR K v v w wr)/\Hid (wr.heap[Y]?=w2.heap[Y]?)) (λ_ i _=>xs.length-(RowKit.intOf i).toNat)
 case atStart=>exact⟨0,alT _,rfl,HF.out.below Cw.out,au (λb hb=>Cw.out.block b (HO.out.lt b hb).2) HO.out,aR.below Cw.out,rfl⟩
 case round=>
  obtain⟨k,hk,rfl,hF,hO,hs,Cg⟩:=hrel;have Da:=hs.out.but.size;have Cl:Y<wr.heap.size:=by
   have:(wr.heap[Y]?).isSome:=by rw[Cg.out];simp[CT]
   simpa using this
  by_cases Cc:k<xs.length
  ·obtain⟨mb,mo,rfl,CQ,CA⟩:∃b off,a=some ⟨b,off,none⟩/\b<w.heap.size/\fu w b off xs:=by
    rcases HM.out with h|h
    ·rw[h]at Cc;simp at Cc
    ·exact h
   obtain⟨CS,CR⟩:=C3.out mb mo rfl;have Cb:=hs.out.but.block mb CQ CS CR;obtain⟨c0,c1,c2,c3,c4⟩:=CA k xs[k] (by simp[Cc]);have d0:=(aF ⟨mb,mo+k*5,none⟩ Cb).trans c0;have d1:=(aF ⟨mb,mo+k*5+1,none⟩ Cb).trans c1;have d2:=(aF ⟨mb,mo+k*5+2,none⟩ Cb).trans c2;have d3:=(aF ⟨mb,mo+k*5+3,none⟩ Cb).trans c3;have d4:=(aF ⟨mb,mo+k*5+4,none⟩ Cb).trans c4;have hI:∀w,(Instr.indexAt 112 (.slice (some ⟨mb,mo,none⟩) xs.length mc) (.int .i64 (k:Int))).run Tryz.prog w=.ok (.pointer (some ⟨mb,mo+k*5,none⟩)) w:=λw=>cy Cc
   have C2:Hid (bA (xs.take (k+1)) ms=ci xs[k].uid xs[k].flags (bA (xs.take k) ms)):=qp xs ms k Cc;generalize xs[k]=m at*;have Cd:Below wr.heap.size wr (wr.alloc (.cells #[.int .i64 m.key,.int .i64 m.uid,.string ⟨m.flags.toArray⟩,.string ⟨m.came.toArray⟩,.string ⟨m.text.toArray⟩] 165)):=aw;have CI:bI (wr.alloc (.cells #[.int .i64 m.key,.int .i64 m.uid,.string ⟨m.flags.toArray⟩,.string ⟨m.came.toArray⟩,.string ⟨m.text.toArray⟩] 165)) B v (bA (xs.take k) ms):=au (λb hb=>Cd.block b (hO.out.lt b hb).2) hO.out;have gS:=qg (hF.out.below Cd) CI HN.out (by rw[ie];omega) m.uid ⟨m.flags.toArray⟩;rw[show(⟨m.flags.toArray⟩:ByteArray).data.toList=m.flags by simp,←C2.out]at gS;have C1:=hid (hs.out.trans (aR.below Cd));have CZ:=hid ((Cd.block Y Cl).trans Cg.out);have CU:Y<(wr.alloc (.cells #[.int .i64 m.key,.int .i64 m.uid,.string ⟨m.flags.toArray⟩,.string ⟨m.came.toArray⟩,.string ⟨m.text.toArray⟩] 165)).heap.size:=by simp;omega
   clear c0 c1 c2 c3 c4 Cd CI hF hO hs Cg CA;generalize(⟨m.flags.toArray⟩:ByteArray)=b2 at*;generalize(⟨m.came.toArray⟩:ByteArray)=b3 at*;generalize(⟨m.text.toArray⟩:ByteArray)=b4 at*;go_wp2_with fail;generalize(wr.alloc (.cells #[.int .i64 m.key,.int .i64 m.uid,.string b2,.string b3,.string b4] 165))=w3 at*;refine gS.mono ?_;rintro e w4 ⟨rfl,CK,CJ,Ch⟩;have B8:=(Ch.but.block Y CU (by omega) (λe=>by have:=HO.out.lt Y e;omega)).trans CZ.out;have C4:=hid (And.intro CK (And.intro CJ (And.intro (C1.out.trans Ch) B8)));clear gS d0 d1 d2 d3 d4 hI CK CJ Ch B8;go_wp2_with fail;obtain⟨q1,q2,q3,q4⟩:=C4.out;exact⟨⟨k+1,by omega,by simp,q1,q2,q3,q4⟩,by simp[RowKit.intOf];omega⟩
  ·have Cn:bI wr B v (bA xs ms):=by
    have:=hO.out;rw[alO (by omega)]at this;exact this
   have Cp:=HE.out.step (w':=wr) λb hb=>hs.out.low CV hB (λx hx=>(HO.out.lt x hx).1) b hb
   have CB:(bA xs ms).length<=100:=by rw[ie];exact hl
   have B7:=pm xs ms C0.out C5.out;have CM:=oe (w:=wr.drew) hF.out Cn CB (Cp _ λ_ _=>rfl) CN.out B7;have B8:=Cg.out.trans HY.out;have y0:wr.cell? ⟨Y,0,none⟩=some (.string ⟨#[105,110,47,108,105,115,116]⟩):=ae (o:=0) B8 rfl;have y1:wr.cell? ⟨Y,1,none⟩=some (.string bT):=ae (o:=1) B8 rfl;have CO:=hid Cn;have C6:=hid Cp;have Cu:=hid B7;clear Cn Cp B8 B7;go_wp2_with fail;refine aC 4 (λw':World=>w'.cell? ⟨Y,0,none⟩=some (.string ⟨#[105,110,47,108,105,115,116]⟩)/\w'.cell? ⟨Y,1,none⟩=some (.string bT)) 4 rfl (by kernel_rfl) ⟨y0,y1⟩ (λa' Q hA hQ hP hS=>?_);have z:a'.tmps.size=30:=by rw[hA.out];rfl
   have e0:a'.eval (.tmp 0)=Value.pointer (some ⟨K,0,none⟩):=by rw[hA.out];rfl
   have e5:a'.eval (.tmp 5)=Value.pointer (some ⟨Y,0,none⟩):=by rw[hA.out];rfl
   refine tkA 0 (some 23) rfl rfl hP (λwx hw=>ag rfl e0) hS ?_;refine tkA 2 (some 25) rfl rfl hP (λwx hw=>aq rfl (ev1 e5) (AN hw.1 hw.2)) hS ?_;refine bG (i:=1) (d:=some 24) (by kernel_rfl) rfl rfl rfl rfl Tryz.func47 (by kernel_rfl) rfl (jy (ev1 (evz z))) CM ?_;rintro e w5 ⟨⟨CY,rfl,Ck⟩,Ce⟩;obtain⟨bq,CC⟩:∃b:Bool,b=decide (CY=bT):=⟨_,rfl⟩;have hS:w5.cell? ⟨Y,0,none⟩=some (.string ⟨#[105,110,47,108,105,115,116]⟩)/\w5.cell? ⟨Y,1,none⟩=some (.string bT):=⟨(Ce.cell (p:=⟨Y,0,none⟩) Cl).trans y0,(Ce.cell (p:=⟨Y,1,none⟩) Cl).trans y1⟩;refine⟨_,rfl,λ_=>hS,?_⟩;refine bb (i:=3) (d:=some 26) (by kernel_rfl) rfl rfl rfl (bz (v:=.bool bq) rfl (evz (sz2 z)) (ev1 (evz (szq z))) (zK CC _)) (λ_=>hS) ?_;refine aD (by kernel_rfl) (hQ.out _ _ ?_) _;rw[hA.out];simp only[Act.put,List.setIfInBounds_toArray];dsimp only[List.set];clear hQ hP hA z hS Q a' e0 e5;have B5:Below wr.heap.size wr w5:=(Below.refl _ wr).drew.trans Ce;have Cm:bI w5 B v (bA xs ms):=au (λb hb=>B5.block b (CO.out.lt b hb).2) CO.out;have Co:=hF.out.below B5;have Cs:=oe (w:=w5) Co Cm CB (C6.out _ λb hb=>B5.block b (by omega)) CN.out Cu.out;have CP:=hid Co;have Ct:=hid Cm;have B6:=hid B5;clear Ce B5 Cm Co CM Ck CC y0 y1
   cases bq with
   |true=>
    clear Cs;go_wp2_with fail;go_ret;exact⟨⟨_,[],rfl,alG _ _ _ _,by simp⟩,CP.out,Ct.out,hs.out.trans (aR.below B6.out)⟩
   |false=>
    go_wp2_with fail;refine Cs.mono ?_;rintro e w6 ⟨⟨CX,rfl,Cj⟩,CG⟩;have gP:=n7 ⟨#[105,110,47,108,105,115,116]⟩ CX w6;have Cv:=hid CG;clear CG Cj Cs;go_wp2_with fail;refine gP.mono ?_;rintro e w7 ⟨⟨va,rfl,CL⟩,CF⟩;have C8:=hid CL;have C7:=hid CF;clear CL CF gP;go_wp2_with fail;go_ret;have Cr:Below w5.heap.size w5 w7:=Cv.out.trans (C7.out.mono Cv.out.size);have CW:Below wr.heap.size wr w7:=B6.out.trans (Cr.mono B6.out.size);refine⟨⟨va,_,rfl,C8.out.base ?_,by simp[bO]⟩,CP.out.below Cr,au (λb hb=>Cr.block b (Ct.out.lt b hb).2) Ct.out,hs.out.trans (aR.below CW)⟩;have:=B6.out.size;have:=Cv.out.size;omega
end Go.Proofs.YtbeahecjbokjjaaGreatDoor
