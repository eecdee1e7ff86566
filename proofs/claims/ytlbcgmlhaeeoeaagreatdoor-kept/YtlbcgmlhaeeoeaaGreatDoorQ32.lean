import Derived.Test.YtlbcgmlhaeeoeaaGreatDoorQ31
set_option maxRecDepth 100000
set_option maxHeartbeats 16000000
namespace Go.Proofs.YtlbcgmlhaeeoeaaGreatDoor
open Go.RowKit Go.Lib
theorem qJ{w:World}{K B:Nat}{nx:Int}{v:Value}{x:al}{r:List al}(hF:bw w K aw aw 1 nx v)(ho:cx w B v (x::r))(B6:v.ownBlock≠some K)(hl:r.length<=1000)(hr:∀m∈r,m.uid≠x.uid):
  Calls Tryz.prog 281 #[.pointer (some ⟨K,0,none⟩),.int .i64 x.uid] w λe w'=>e=.returned (.tuple #[])/\∃v',bw w' K aw aw 1 nx v'/\cx w' B v' r/\v'.ownBlock=v.ownBlock/\aO K v v' w w':=by
 obtain⟨va,vc,rfl,Cc,_,_⟩:=cx.form ho;obtain⟨g,rfl⟩:∃g,va=some ⟨g,0,none⟩:=by
  rcases ho.2 with⟨_,h2⟩|⟨g,c,Cj,h1,_⟩
  ·simp at h2
  ·injection h1 with h1;exact⟨g,h1⟩
 simp only[List.length_cons]at hF ho B6 Cc⊢;have Cd:=hF.cells.2.2.2.2.2.2;have Ci:g<w.heap.size:=(ho.lt g rfl).2;have B9:g≠K:=λe=>B6 (by rw[e];rfl)
 have B1:Below w.heap.size w (w.alloc (.cells #[.int .i64 x.uid] 3)):=ax;have B8:(w.alloc (.cells #[.int .i64 x.uid] 3)).cell? ⟨w.heap.size,0,none⟩=some (.int .i64 x.uid):=ae (o:=0) (alA w _) rfl;have c4:=(B1.cell (p:=⟨K,4,none⟩) Cd).trans hF.cells.2.2.2.2.1;have Cb:cx (w.alloc (.cells #[.int .i64 x.uid] 3)) B (.slice (some ⟨g,0,none⟩) (r.length+1) vc) (x::r):=ay (λb hb=>B1.block b (ho.lt b hb).2) ho;have gD:=ss Cb hl w.heap.size x.uid B8 (by simp) (by omega) rfl hr;have Cg:=hid (hF.below B1);have B4:=hid B1;have Ch:w.heap.size<(w.alloc (.cells #[.int .i64 x.uid] 3)).heap.size:=by simp
 clear hF ho B6 B1 B8 Cb hr;go_enter Tryz.func281,Tryz.ntmps281;go_wp2_with fail;generalize(w.alloc (.cells #[.int .i64 x.uid] 3))=w1 at*;refine gD.mono ?_;rintro e w2 ⟨rfl,Ca,B7⟩;have B5:bw w2 K aw aw 1 nx (.slice (some ⟨g,0,none⟩) (r.length+1) vc):=(B7.block K (by omega) (Ne.symm B9) (by simp)).trans Cg.out;have e4:=B5.cells.2.2.2.2.1;have f4:w2.frozen? ⟨K,4,none⟩=false:=B5.cells.2.2.2.2.2.1 4;have Ce:=hid Ca;have B3:=hid B7;have Cf:=hid B5;clear Ca B7 B5 gD c4;go_wp2_with fail;go_end0;refine⟨rfl,.slice (some ⟨g,0,none⟩) r.length vc,?_,ay (λb hb=>alP _ _ _ _ (λe=>?_)) Ce.out,rfl,⟨⟨B3.out.os.trans B4.out.os,B3.out.tape.trans B4.out.tape,B3.out.output.trans B4.out.output,by simpa using alS B4.out.size B3.out.size,λb h1 h2 h3=>?_⟩,λb hb=>Or.inl hb⟩⟩
 ·unfold bw;rw[ag (o:=4) _ Cf.out]
  rfl
 ·simp only[Value.ownBlock,Option.some.injEq]at hb;subst hb;exact B9 e
 ·rw[alP _ _ _ _ h2];refine(B3.out.block b (by omega) (λe=>h3 (by rw[e];rfl)) (by simp)).trans (B4.out.block b h1)
theorem xX{x y:ByteArray}(w:World):(Instr.field 46 (.agg #[.string x,.string y]) 0).run Tryz.prog w=.ok (.string x) w:=by kernel_rfl
theorem yG{og oc n:Nat}(w:World):(binOp .eql 42 (.slice (some ⟨og,0,none⟩) n oc) (.slice none 0 0)).run Tryz.prog w=.ok (.bool false) w:=by kernel_rfl
theorem tn{w:World}{K B:Nat}{nx:Int}{v:Value}{x:al}{r:List al}(hF:bw w K aw aw 1 nx v)(ho:cx w B v (x::r))(CN:v.ownBlock≠some K)(hB:B<=w.heap.size)(Dn:B<=K)(hE:jW B w)(hl:r.length<=90)(hr:∀m∈r,m.uid≠x.uid)(CE:x.flags=[100])(CL:∀m∈r,m.flags=[])(Dj:0<=x.key)(Di:x.key<=999)(CF:x.came=[])(CM:Mb.listOk 1 nx (r.map az)=true):
  Calls Tryz.prog 249 #[.pointer (some ⟨K,0,none⟩)] w λe w'=>(∃va,e=.returned va/\ed w' w.heap.size va (cV ([105,110,47]++Lib.itoa x.key++[46])++aK [105,110,47,108,105,115,116] (Mb.textOf 1 nx (r.map az))))/\∃v',bw w' K aw aw 1 nx v'/\cx w' B v' r/\v'.ownBlock=v.ownBlock/\aO K v v' w w':=by
 obtain⟨i0,CR,CD,CC,CB⟩:=alQ fX;have c4:=hF.cells.2.2.2.2.1;have Dm:=hF.cells.2.2.2.2.2.2;have gC:=wg ho (by simp;omega);have HF:=hid hF;have HO:=hid ho;have Dt:=hid CN;have HE:=hid hE;have HR:=hid hr;have Do:=hid CE;have C9:=hid CL;have C7:=hid CF;have Ds:=hid CM;have Cj:Hid (∀b,v.ownBlock=some b->B<=b/\b<w.heap.size):=λb hb=>ho.lt b hb
 clear hF ho CN hE hr CE CL CM CF;go_enter Tryz.func249,Tryz.ntmps249;go_wp2_with fail;refine gC.mono ?_;rintro e w1 ⟨⟨Dy,rfl,CV⟩,Cw⟩;obtain⟨ca,cc,rfl,_,CU,Cu⟩:=cx.form CV;obtain⟨cg,rfl,Cf,CT⟩:∃cg,ca=some ⟨cg,0,none⟩/\cg<w1.heap.size/\ii w1 cg 0 (x::r):=by
  rcases CU with h|⟨b,off,h1,h2,h3⟩
  ·cases h
  ·have:=(Cu b off h1).2;subst this;exact⟨b,h1,h2,h3⟩
 have DG:w.heap.size<=cg:=(Cu cg 0 rfl).1;have DD:=Cw.size;generalize hn:(x::r).length=n at*;have HN:Hid (r.length+1=n):=by unfold Hid;rw[←hn];rfl
 have DE:n<=91:=by have:=HN.out;omega
 have Da:=hid CT;have Dw:=hid Cw;clear hn CV CU Cu CT gC Cw c4;go_wp2_with fail;go_loopw [3,12,5] (λo i _ wr=>∃(k:Nat),k<=n/\i=.int .i64 k/\((k=0/\o=.slice none 0 0/\Hid (Below w.heap.size w wr)/\Hid (Below w1.heap.size w1 wr))∨(1<=k/\∃og oc v',o=.slice (some ⟨og,0,none⟩) 2 oc/\Hid (ed wr w.heap.size (.slice (some ⟨og,0,none⟩) 2 oc) (cV ([105,110,47]++Lib.itoa x.key++[46])))/\Hid (bw wr K aw aw 1 nx v')/\Hid (cx wr B v' r)/\Hid (v'.ownBlock=v.ownBlock)/\Hid (aO K v v' w wr)/\Hid (wr.heap[cg]?=w1.heap[cg]?)))) (λ_ i _ _=>n-(RowKit.intOf i).toNat)
 case atStart=>exact⟨0,alT _,rfl,Or.inl ⟨rfl,rfl,Dw,Below.refl _ _⟩⟩
 case round=>
  obtain⟨k,hk,rfl,CJ⟩:=hrel
  by_cases CO:k<n
  ·have hI:∀w,(Instr.indexAt 122 (.slice (some ⟨cg,0,none⟩) n cc) (.int .i64 (k:Int))).run Tryz.prog w=.ok (.pointer (some ⟨cg,k*5,none⟩)) w:=λw=>by have:=cS (g:=cg) (off:=0) (cap:=cc) (w:=w) CO;rwa [Nat.zero_add]at this
   rcases CJ with⟨rfl,rfl,hb,Cn⟩|⟨h1,og,oc,v',rfl,hA,hF,hO,hv,hs,B3⟩
   ·obtain⟨p0,p1,p2,p3,p4⟩:=Da.out 0 x rfl;simp only[Nat.zero_add,Nat.zero_mul]at p0 p1 p2 p3 p4 hI;have B3:=Cn.out.block cg Cf;have d0:=(aC ⟨cg,0,none⟩ B3).trans p0;have d1:=(aC ⟨cg,1,none⟩ B3).trans p1;have d2:=(aC ⟨cg,2,none⟩ B3).trans p2;have d3:=(aC ⟨cg,3,none⟩ B3).trans p3;have d4:=(aC ⟨cg,4,none⟩ B3).trans p4;rw[Do.out]at d2;have Df:=hb.out.size;have De:=Cn.out.size;have gH:=nZ ⟨#[100]⟩ ⟨#[100]⟩ (wr.alloc (.cells #[.int .i64 x.key,.int .i64 x.uid,.string ⟨#[100]⟩,.string ⟨x.came.toArray⟩,.string ⟨x.text.toArray⟩] 175));rw[decide_eq_true (by decide)]at gH;have Cc:Below wr.heap.size wr (wr.alloc (.cells #[.int .i64 x.key,.int .i64 x.uid,.string ⟨#[100]⟩,.string ⟨x.came.toArray⟩,.string ⟨x.text.toArray⟩] 175)):=ax;have hX:(wr.alloc (.cells #[.int .i64 x.key,.int .i64 x.uid,.string ⟨#[100]⟩,.string ⟨x.came.toArray⟩,.string ⟨x.text.toArray⟩] 175)).heap[wr.heap.size]?=some (.cells #[.int .i64 x.key,.int .i64 x.uid,.string ⟨#[100]⟩,.string ⟨x.came.toArray⟩,.string ⟨x.text.toArray⟩] 175 (0,0)):=alA wr _;have Cm:Below w.heap.size w (wr.alloc (.cells #[.int .i64 x.key,.int .i64 x.uid,.string ⟨#[100]⟩,.string ⟨x.came.toArray⟩,.string ⟨x.text.toArray⟩] 175)):=hb.out.trans (Cc.mono Df);have gF:=pI (HF.out.below Cm) x.key x.uid ⟨#[100]⟩ ⟨x.came.toArray⟩ ⟨x.text.toArray⟩ Dj Di (by decide) (by rw[C7.out];decide) (HE.out _ λb hb=>Cm.block b (by omega));have Dl:wr.heap.size<(wr.alloc (.cells #[.int .i64 x.key,.int .i64 x.uid,.string ⟨#[100]⟩,.string ⟨x.came.toArray⟩,.string ⟨x.text.toArray⟩] 175)).heap.size:=by simp
    have HX:=hid hX;have Cz:=hid Cm;have Du:Hid ((wr.alloc (.cells #[.int .i64 x.key,.int .i64 x.uid,.string ⟨#[100]⟩,.string ⟨x.came.toArray⟩,.string ⟨x.text.toArray⟩] 175)).heap[cg]?=w1.heap[cg]?):=(Cc.block cg (by omega)).trans B3;clear p0 p1 p2 p3 p4 Cc hX Cm B3;go_wp2_with fail;refine gH.mono ?_;rintro e w2 ⟨rfl,Dd⟩;subst w2;clear gH;generalize(wr.alloc (.cells #[.int .i64 x.key,.int .i64 x.uid,.string ⟨#[100]⟩,.string ⟨x.came.toArray⟩,.string ⟨x.text.toArray⟩] 175))=w2 at*;have x0:=ae (o:=0) HX.out rfl;have x1:=ae (o:=1) HX.out rfl;have x2:=ae (o:=2) HX.out rfl;have x3:=ae (o:=3) HX.out rfl;have x4:=ae (o:=4) HX.out rfl;clear d0 d1 d2 d3 d4 hI hb Cn;go_wp2_with fail;refine gF.mono ?_;rintro e w3 ⟨⟨bN,rfl,CX⟩,Cd⟩;have Dv:Hid (bN.data.toList=[105,110,47]++Lib.itoa x.key++[46]):=by
     unfold Hid;rw[CX,C7.out];simp[aw]
    have CS:(w3.alloc (.cells #[.string bN] 9)).cell? ⟨w3.heap.size,0,none⟩=some (.string bN):=ae (o:=0) (alA w3 _) rfl;have gD:=zE (c:=1) CS (by simp);have CY:Below w3.heap.size w3 (w3.alloc (.cells #[.string bN] 9)):=ax;have Ch:Below w2.heap.size w2 (w3.alloc (.cells #[.string bN] 9)):=Cd.trans (CY.mono Cd.size);have Cb:=hid Ch;have DF:=λw=>xX (x:=bN) (y:=⟨x.text.toArray⟩) w
    clear gF CX Cd CS CY Ch x0 x1 x2 x3 x4;go_wp2_with fail;generalize(w3.alloc (.cells #[.string bN] 9))=w4 at*;refine gD.mono ?_;rintro e w5 ⟨⟨vd,rfl,CG⟩,CZ⟩;have Ca:Below w2.heap.size w2 w5:=Cb.out.trans (CZ.mono Cb.out.size);have C8:=hid CG;have CA:=hid Ca;have Cq:=Ca.size;clear gD CG CZ Ca Cb;obtain⟨da,dc,rfl,_⟩:=bv C8.out;go_wp2_with(at_builtin;refine eq rfl (.tmp 19) (.tmp 25) 42 rfl 64 i0 (.agg #[.int .i64 0,.string ByteArray.empty,.string ByteArray.empty,.string ByteArray.empty]) 4 _ w5.heap.size w4.heap.size Tryz.underlying42 CR CD CC CB rfl (by decide) _ _ rfl rfl 0 2 [] _ (alG _ _ _ _) C8.out (iQ _) ?c6 ?c7 (alU) ?_)
    case c6=>unfold maxLen;omega
    case c7=>omega
    intro v6 w6 B4 B1 B9;obtain⟨og,oc,rfl,_⟩:=B4.form (by omega);have Dh:w5.heap.size<=og:=by
     rcases B9 with h|h
     ·simp[Value.ownBlock]at h
     ·simp only[Value.ownBlock,Option.some.injEq]at h;omega
    have B5:Below w2.heap.size w2 w6:=CA.out.grown B1 Cq (λb hb=>by simp[Value.ownBlock]at hb);have B7:Below w.heap.size w w6:=Cz.out.trans (B5.mono Cz.out.size);have C0:=(B5.block wr.heap.size Dl).trans HX.out;have x1:=ae (o:=1) C0 rfl;have Ci:cx w6 B v (x::r):=ay (λb hb=>B7.block b (Cj.out b hb).2) HO.out;have gR:=qJ (HF.out.below B7) Ci Dt.out (by omega) HR.out;have Dx:Hid (ed w6 w.heap.size (.slice (some ⟨og,0,none⟩) 2 oc) (cV ([105,110,47]++Lib.itoa x.key++[46]))):=by
     unfold Hid ed;rw[←Dv.out];exact fZ B4 (by have:=Cz.out.size;omega)
    have Cy:=hid B7;have Cx:Hid (w6.heap[cg]?=w1.heap[cg]?):=(B5.block cg (by omega)).trans Du.out;have Cr:og<w6.heap.size:=(B4.lt og rfl).2;have Ct:cg<w6.heap.size:=by have:=B5.size;omega
    clear B4 B1 B9 B5 B7 C0 Ci;go_wp2_with fail;refine gR.mono ?_;rintro e w7 ⟨rfl,v',C2,C1,CH,Cl⟩;have C4:ed w7 w.heap.size (.slice (some ⟨og,0,none⟩) 2 oc) (cV ([105,110,47]++Lib.itoa x.key++[46])):=ay (λb hb=>by
     simp only[Value.ownBlock,Option.some.injEq]at hb;subst hb;exact Cl.but.block og Cr (by omega) (λe=>by have:=Cj.out og e;omega)) Dx.out
    have Cg:w7.heap[cg]?=w1.heap[cg]?:=(Cl.but.block cg Ct (by omega) (λe=>by have:=Cj.out cg e;omega)).trans Cx.out;have Dq:=hid (And.intro C4 (And.intro C2 (And.intro C1 (And.intro CH (And.intro ((aO.below Cy.out).trans Cl) Cg)))));clear gR C2 C1 CH Cl C4 Cg;go_wp2_with fail;obtain⟨q1,q2,q3,q4,q5,q6⟩:=Dq.out;exact⟨⟨1,by omega,by simp,Or.inr ⟨alU,og,oc,v',rfl,q1,q2,q3,q4,q5,q6⟩⟩,by simp[RowKit.intOf];omega⟩
   ·obtain⟨j,rfl⟩:∃j,k=j+1:=⟨k-1,by omega⟩;have CP:j<r.length:=by have:=HN.out;omega
    obtain⟨p0,p1,p2,p3,p4⟩:=Da.out (j+1) r[j] (by simp[CP]);simp only[Nat.zero_add]at p0 p1 p2 p3 p4;have d0:=(aC ⟨cg,(j+1)*5,none⟩ B3.out).trans p0;have d1:=(aC ⟨cg,(j+1)*5+1,none⟩ B3.out).trans p1;have d2:=(aC ⟨cg,(j+1)*5+2,none⟩ B3.out).trans p2;have d3:=(aC ⟨cg,(j+1)*5+3,none⟩ B3.out).trans p3;have d4:=(aC ⟨cg,(j+1)*5+4,none⟩ B3.out).trans p4;have CQ:=C9.out r[j] (List.getElem_mem CP);rw[CQ]at d2;generalize r[j]=m at*;have CI:=hs.out.but.size;have Cs:cg<wr.heap.size:=by
     have e:=B3.out;have:(wr.heap[cg]?).isSome:=by rw[e];simp[Cf]
     simpa using this
    have gH:=nZ ⟨#[]⟩ ⟨#[100]⟩ (wr.alloc (.cells #[.int .i64 m.key,.int .i64 m.uid,.string ⟨#[]⟩,.string ⟨m.came.toArray⟩,.string ⟨m.text.toArray⟩] 175));rw[decide_eq_false (by decide)]at gH;have Cc:Below wr.heap.size wr (wr.alloc (.cells #[.int .i64 m.key,.int .i64 m.uid,.string ⟨#[]⟩,.string ⟨m.came.toArray⟩,.string ⟨m.text.toArray⟩] 175)):=ax;have Ck:=hid Cc;clear p0 p1 p2 p3 p4 Cc CQ;go_wp2_with fail;refine gH.mono ?_;rintro e w2 ⟨rfl,Dd⟩;subst w2;clear gH d0 d1 d2 d3 d4 hI;go_wp2_with fail;refine⟨⟨j+1+1,by omega,by simp,Or.inr ⟨by omega,og,oc,v',rfl,hA.out.below Ck.out,hF.out.below Ck.out,ay (λb hb=>Ck.out.block b (hO.out.lt b hb).2) hO.out,hv,hs.out.trans (aO.below Ck.out),(Ck.out.block cg Cs).trans B3.out⟩⟩,by simp[RowKit.intOf];omega⟩
  ·rcases CJ with⟨rfl,rfl,hb,Cn⟩|⟨h1,og,oc,v',rfl,hA,hF,hO,hv,hs,B3⟩
   ·exact absurd (by have:=HN.out;omega) CO
   ·have CI:=hs.out.but.size;have hE':Env wr:=HE.out wr λb hb=>hs.out.low Dn (by omega) (λy hy=>(Cj.out y hy).1) b hb
    have gL:=oS hF.out hO.out (by omega) hE' Ds.out (λm hm=>by rw[C9.out m hm];simp);have DB:=λw=>yG (og:=og) (oc:=oc) (n:=2) w
    clear hE';go_wp2_with fail;refine gL.mono ?_;rintro e w2 ⟨⟨bT,rfl,CW⟩,Cv⟩;have gP:=oQ ⟨#[105,110,47,108,105,115,116]⟩ bT w2;rw[CW]at gP;have Db:=hid Cv;have DC:=Cv.size;clear gL CW Cv;go_wp2_with fail;refine gP.mono ?_;rintro e w3 ⟨⟨vp,rfl,Cp⟩,Cd⟩;have B8:Below wr.heap.size wr w3:=Db.out.trans (Cd.mono Db.out.size);have Dp:=hid Cp;have Co:=hid B8;have Dg:=B8.size;have C6:=hA.out.below B8;have Dc:Hid (w3.ownsRow w.heap.size 64 4 (.slice (some ⟨og,0,none⟩) 2 oc) 2 (cn (cV ([105,110,47]++Lib.itoa x.key++[46])))):=C6;obtain⟨pa,pc,rfl,_⟩:=bv Cp;clear gP Cp Cd B8 C6;go_wp2_with(at_builtin;refine eq rfl (.tmp 34) (.tmp 37) 42 rfl 64 i0 (.agg #[.int .i64 0,.string ByteArray.empty,.string ByteArray.empty,.string ByteArray.empty]) 4 _ w.heap.size w2.heap.size Tryz.underlying42 CR CD CC CB rfl (by decide) _ _ rfl rfl 2 5 _ _ Dc.out Dp.out (iQ _) ?c6 ?c7 (by omega) ?_)
    case c6=>unfold maxLen;omega
    case c7=>omega
    intro v6 w6 B4 B1 B9;have Ce:∀b,(Value.slice (some ⟨og,0,none⟩) 2 oc).ownBlock=some b->w.heap.size<=b:=λb hb=>(Dc.out.lt b hb).1
    have B6:∀b,b<w.heap.size->w6.heap[b]?=wr.heap[b]?:=λb hb=>(B1.block b (by omega) (λe=>by have:=Ce b e.symm;omega)).trans (Co.out.block b (by omega))
    have C3:bw w6 K aw aw 1 nx v':=(B6 K Dm).trans hF.out;have Ci:cx w6 B v' r:=ay (λb hb=>B6 b (Cj.out b (hv.out▸hb)).2) hO.out;have CK:aO K v v' w w6:=⟨⟨B1.os.trans (Co.out.os.trans hs.out.but.os),B1.tape.trans (Co.out.tape.trans hs.out.but.tape),B1.output.trans (Co.out.output.trans hs.out.but.output),alS CI (alS Dg B1.size),λb h1 h2 h3=>(B6 b h1).trans (hs.out.but.block b h1 h2 h3)⟩,λb hb=>hs.out.row b hb⟩;have C5:ed w6 w.heap.size v6 (cV ([105,110,47]++Lib.itoa x.key++[46])++aK [105,110,47,108,105,115,116] (Mb.textOf 1 nx (r.map az))):=by
     unfold ed;rw[show∀a b:List bL,cn (a++b)=cn a++cn b from λa b=>by simp[cn]];exact B4
    have Dr:=hid (And.intro C5 (And.intro C3 (And.intro Ci CK)));obtain⟨DA,Dz,rfl,_⟩:=bv B4;clear B4 B1 B9 Ce B6 C3 Ci CK C5;go_wp2_with fail;go_ret;obtain⟨q1,q2,q3,q4⟩:=Dr.out;exact⟨⟨_,rfl,by simpa using q1⟩,v',q2,q3,hv.out,q4⟩
def eX (w:World) (b o:Nat) (k u:Int) (f c t:ByteArray):Prop:=w.cell? ⟨b,o,none⟩=some (.int .i64 k)/\w.cell? ⟨b,o+1,none⟩=some (.int .i64 u)/\w.cell? ⟨b,o+2,none⟩=some (.string f)/\w.cell? ⟨b,o+3,none⟩=some (.string c)/\w.cell? ⟨b,o+4,none⟩=some (.string t)
theorem eX.below{w w':World}{B b o:Nat}{k u:Int}{f c t:ByteArray}(h:eX w b o k u f c t)(hb:Below B w w')(hB:b<B):eX w' b o k u f c t:=
 ⟨(hb.cell (p:=⟨b,o,none⟩) hB).trans h.1,(hb.cell (p:=⟨b,o+1,none⟩) hB).trans h.2.1,(hb.cell (p:=⟨b,o+2,none⟩) hB).trans h.2.2.1,(hb.cell (p:=⟨b,o+3,none⟩) hB).trans h.2.2.2.1,(hb.cell (p:=⟨b,o+4,none⟩) hB).trans h.2.2.2.2⟩
theorem rj{w:World}{b o:Nat}{k u:Int}{f c t:ByteArray}(h:eX w b o k u f c t):(Instr.loadAt 175 (.pointer (some ⟨b,o,none⟩))).run Tryz.prog w=.ok (.agg #[.int .i64 k,.int .i64 u,.string f,.string c,.string t]) w:=by
 obtain⟨c0,c1,c2,c3,c4⟩:=h;go_simp
theorem yB(k1 u1 k2 u2:Int)(f1 c1 t1 f2 c2 t2:ByteArray)(w:World):Calls Tryz.prog 71 #[.agg #[.int .i64 k1,.int .i64 u1,.string f1,.string c1,.string t1],.agg #[.int .i64 k2,.int .i64 u2,.string f2,.string c2,.string t2]] w λe w'=>e=.returned (.int .i64 (Lib.compareInt k1 k2))/\Below w.heap.size w w':=by
 have g:=λw=>ku k1 k2 w
 generalize Lib.compareInt k1 k2=z at*;go_enter Tryz.func71,Tryz.ntmps71;go_wp2_with(go_at_call 118;refine(g _).mono ?_;rintro e w' ⟨rfl,rfl⟩);go_ret;exact⟨rfl,ax.alloc (by simp) _⟩
def kP (xs:List al):Prop:=∀(i:Nat) x y,xs[i]?=some x->xs[i+1]?=some y->x.key<y.key
theorem pz{w:World}{a:Option Addr}{cap:Nat}{xs:List al}(hm:dU w a xs)(hl:xs.length<=1000)(hr:kP xs):
  Calls Tryz.prog 162 #[.slice a xs.length cap,.int .i64 0,.int .i64 (xs.length:Int),.func (.func 71) #[] #[]] w λe w'=>e=.returned (.tuple #[])/\Below w.heap.size w w':=by
 have Hm:=hid hm;have Hr:=hid hr;clear hm hr;go_enter Tryz.func162,Tryz.ntmps162;go_wp2_with fail;go_loopw [8,9] (λi _ wr=>∃(k:Nat),1<=k/\k<=xs.length+1/\i=.int .i64 k/\Hid (Below w.heap.size w wr)) (λi _ _=>xs.length+1-(RowKit.intOf i).toNat)
 case atStart=>exact⟨1,alU,by omega,rfl,Below.refl _ _⟩
 case round=>
  obtain⟨j,Cj,Ci,rfl,Cd⟩:=hrel
  by_cases Cb:j<xs.length
  ·go_wp2_with fail;rename World=>wo
   go_loopw [9] (λjj wr=>jj=.int .i64 (j:Int)/\Hid (Below w.heap.size w wr)) (λ_ _=>0)
   case atStart=>exact⟨rfl,Cd⟩
   case round=>
   obtain⟨rfl,B4⟩:=hrel;obtain⟨g,go,ha,B3,hc⟩:∃b off,a=some ⟨b,off,none⟩/\b<w.heap.size/\ii w b off xs:=by
    rcases Hm.out with hz|hz
    ·rw[hz]at Cb;simp at Cb
    ·exact hz
   subst ha;have Cc:g<wr.heap.size:=alH B3 B4.out.size;have B7:j<xs.length:=by omega
   have B8:j-1<xs.length:=by omega
   have B1:=Hr.out (j-1) xs[j-1] xs[j] (by simp[B8]) (by rw[show j-1+1=j by omega];simp[B7]);have mx:eX wr g (go+j*5) xs[j].key xs[j].uid ⟨xs[j].flags.toArray⟩ ⟨xs[j].came.toArray⟩ ⟨xs[j].text.toArray⟩:=eX.below (hc j xs[j] (by simp[B7])) B4.out B3;have my:eX wr g (go+(j-1)*5) xs[j-1].key xs[j-1].uid ⟨xs[j-1].flags.toArray⟩ ⟨xs[j-1].came.toArray⟩ ⟨xs[j-1].text.toArray⟩:=eX.below (hc (j-1) xs[j-1] (by simp[B8])) B4.out B3;generalize xs[j].key=xk at*;generalize xs[j].uid=xu at*;generalize(⟨xs[j].flags.toArray⟩:ByteArray)=x1 at*;generalize(⟨xs[j].came.toArray⟩:ByteArray)=x2 at*;generalize(⟨xs[j].text.toArray⟩:ByteArray)=x3 at*;generalize xs[j-1].key=yk at*;generalize xs[j-1].uid=yu at*;generalize(⟨xs[j-1].flags.toArray⟩:ByteArray)=y1 at*;generalize(⟨xs[j-1].came.toArray⟩:ByteArray)=y2 at*;generalize(⟨xs[j-1].text.toArray⟩:ByteArray)=y3 at*;have Cg:∀w,(do eqGuard .gtr 3 (.tmp 18) (.tmp 19) (.int .i64 (j:Int)) (.int .i64 0);binOp .gtr 3 (.int .i64 (j:Int)) (.int .i64 0):Sem Value).run Tryz.prog w=.ok (.bool true) w:=λw=>by
    have h0:(0:Int)<(j:Int):=by omega
    have h1:0<j:=by omega
    go_simp
   have Cf:IntKind.i64.wrap ((j:Int)-1)=((j-1:Nat):Int):=by rw[IntWalk.i64_in _ (by omega)];omega
   have B6:∀w,(do eqGuard .sub 3 (.tmp 28) (.const (.int .i64 1)) (.int .i64 (j:Int)) (.int .i64 1);binOp .sub 3 (.int .i64 (j:Int)) (.int .i64 1):Sem Value).run Tryz.prog w=.ok (.int .i64 ((j-1:Nat):Int)) w:=λw=>by go_simp
   have B9:∀w,(do eqGuard .lss 3 (.tmp 32) (.const (.int .i64 0)) (.int .i64 (Lib.compareInt xk yk)) (.int .i64 0);binOp .lss 3 (.int .i64 (Lib.compareInt xk yk)) (.int .i64 0):Sem Value).run Tryz.prog w=.ok (.bool false) w:=λw=>by
    have:¬Lib.compareInt xk yk<0:=by unfold Lib.compareInt;split<;>(try split)<;>omega
    go_simp
   have Ce:=hid B1;clear B1 Cf hc;go_wp2_with fail;refine bX [] (λw':World=>eX w' g (go+j*5) xk xu x1 x2 x3/\eX w' g (go+(j-1)*5) yk yu y1 y2 y3) 17 rfl (by kernel_rfl) ⟨mx,my⟩ (λa' Q hA hQ hP hS=>?_);have z:a'.tmps.size=53:=by rw[hA.out];rfl
   have e0:a'.eval (.tmp 0)=Value.slice (some ⟨g,go,none⟩) xs.length cap:=by rw[hA.out];rfl
   have e1:a'.eval (.tmp 1)=Value.int .i64 0:=by rw[hA.out];rfl
   have e3:a'.eval (.tmp 3)=Value.func (.func 71) #[] #[]:=by rw[hA.out];rfl
   have e9:a'.eval (.tmp 9)=Value.int .i64 (j:Int):=by rw[hA.out];rfl
   refine aU 0 (some 18) rfl rfl hP (af rfl) (λwx=>ah rfl e9) hS ?_;refine aU 1 (some 19) rfl rfl hP (af rfl) (λwx=>ah rfl (ev1 e1)) hS ?_;refine aU 2 (some 20) rfl rfl hP (af rfl) (λwx=>bA (v:=.bool true) rfl (ev1 (evz z)) (evz (szq z)) (Cg wx)) hS ?_;refine aU 3 (some 21) rfl rfl hP (af rfl) (λwx=>ah rfl (evz (sz2 z))) hS ?_;refine aU 4 (some 22) rfl rfl hP (au (e:=21) (b:=true) rfl rfl (evz (sz2 (szq z)))) (λwx=>ah rfl (ev4 e3)) hS ?_;refine aU 5 (some 23) rfl rfl hP (au (e:=21) (b:=true) rfl rfl (ev1 (evz (sz2 (szq z))))) (λwx=>ah rfl (ev4 (ev1 e0))) hS ?_;refine aU 6 (some 24) rfl rfl hP (au (e:=21) (b:=true) rfl rfl (ev2 (evz (sz2 (szq z))))) (λwx=>ah rfl (ev4 (ev2 e9))) hS ?_;refine aU 7 (some 25) rfl rfl hP (au (e:=21) (b:=true) rfl rfl (ev2 (ev1 (evz (sz2 (szq z)))))) (λwx=>bJ (v:=.pointer (some ⟨g,go+j*5,none⟩)) rfl (ev1 (evz (sz4 (szq z)))) (evz (sz4 (sz2 z))) (cS B7)) hS ?_;refine ft 8 (some 26) rfl rfl hP (au (e:=21) (b:=true) rfl rfl (ev4 (evz (sz2 (szq z))))) (λwx hw=>aq rfl (evz (sz4 (sz2 (szq z)))) (rj hw.1)) hS ?_;refine aU 9 (some 27) rfl rfl hP (au (e:=21) (b:=true) rfl rfl (ev4 (ev1 (evz (sz2 (szq z)))))) (λwx=>ah rfl (ev8 (ev1 e0))) hS ?_;refine aU 10 (some 28) rfl rfl hP (au (e:=21) (b:=true) rfl rfl (ev4 (ev2 (evz (sz2 (szq z)))))) (λwx=>ah rfl (ev8 (ev2 e9))) hS ?_;refine aU 11 (some 29) rfl rfl hP (au (e:=21) (b:=true) rfl rfl (ev4 (ev2 (ev1 (evz (sz2 (szq z))))))) (λwx=>bA (v:=.int .i64 ((j-1:Nat):Int)) rfl (evz (sz8 (sz2 z))) rfl (B6 wx)) hS ?_;refine aU 12 (some 30) rfl rfl hP (au (e:=21) (b:=true) rfl rfl (ev8 (evz (sz2 (szq z))))) (λwx=>bJ (v:=.pointer (some ⟨g,go+(j-1)*5,none⟩)) rfl (ev2 (evz (sz8 (szq z)))) (evz (sz8 (sz2 (szq z)))) (cS B8)) hS ?_;refine ft 13 (some 31) rfl rfl hP (au (e:=21) (b:=true) rfl rfl (ev8 (ev1 (evz (sz2 (szq z)))))) (λwx hw=>aq rfl (evz (sz8 (sz4 z))) (rj hw.2)) hS ?_;refine fI (i:=14) (d:=some 32) (by kernel_rfl) rfl rfl (au (e:=21) (b:=true) rfl rfl (ev8 (ev2 (evz (sz2 (szq z)))))) rfl (ev8 (ev1 (evz (sz4 z)))) Tryz.func71 (by kernel_rfl) rfl (fm (ev4 (ev1 (evz (sz8 z)))) (evz (sz8 (sz4 (szq z))))) (yB xk xu yk yu x1 x2 x3 y1 y2 y3 _) ?_;rintro e w3 ⟨rfl,B5⟩;have Ca:eX w3 g (go+j*5) xk xu x1 x2 x3/\eX w3 g (go+(j-1)*5) yk yu y1 y2 y3:=⟨hS.1.below B5 Cc,hS.2.below B5 Cc⟩;refine⟨_,rfl,λ_=>Ca,?_⟩;clear hS;have hS:=Ca;refine dN (i:=15) (d:=some 33) (by kernel_rfl) rfl rfl (au (e:=21) (b:=true) rfl rfl (ev8 (ev2 (ev1 (evz (sz2 (szq z))))))) (bA (v:=.bool false) rfl (evz (sz8 (sz4 (sz2 z)))) rfl (B9 _)) (λ_=>hS) ?_;refine dN (i:=16) (d:=some 34) (by kernel_rfl) rfl rfl (af rfl) (ei (v:=.bool false) rfl (ev8 (ev4 (evz (sz2 (szq z))))) (evz (sz8 (sz4 (sz2 (szq z))))) rfl rfl) (λ_=>hS) ?_;refine bW (by kernel_rfl) (hQ.out _ _ ?_) _;rw[hA.out];simp only[Act.put,List.setIfInBounds_toArray];dsimp only[List.set];clear hQ hP hA z hS Q a' e0 e1 e3 e9;have Ch:=hid (B4.out.trans ((((Below.refl _ _).drew).trans B5).mono B4.out.size));clear B5 Ca;go_wp2_with fail;exact⟨⟨j+1,by omega,by omega,by simp,Ch⟩,by simp[RowKit.intOf];omega⟩
  ·go_wp2_with fail;go_end0;exact⟨rfl,Cd.out⟩
end Go.Proofs.YtlbcgmlhaeeoeaaGreatDoor
