import Derived.Test.YtbeahecjbokjjaaGreatDoorQ32
import Derived.Test.YtbeahecjbokjjaaGreatDoorQ33
set_option maxRecDepth 100000
set_option maxHeartbeats 16000000
namespace Go.Proofs.YtbeahecjbokjjaaGreatDoor
open Go.RowKit Go.Lib
theorem zJ(k u:Int)(b2 b3 b4:ByteArray)(w:World):
  Calls Tryz.prog 264 #[.agg #[.int .u8 0,.string ⟨#[]⟩,.int .i64 0],.agg #[.int .i64 k,.int .i64 u,.string b2,.string b3,.string b4]] w λe w'=>e=.returned (.bool true)/\Below w.heap.size w w':=by
 go_enter Tryz.func264,Tryz.ntmps264;go_wp2;go_ret;exact⟨rfl,aw.alloc (by simp) _⟩
theorem tM{w:World}{kg kc:Nat}(hk:lz w kg)(k u:Int)(b2 b3 b4:ByteArray):
  Calls Tryz.prog 224 #[.agg #[.int .i64 k,.int .i64 u,.string b2,.string b3,.string b4],.slice (some ⟨kg,0,none⟩) 1 kc] w λe w'=>e=.returned (.bool true)/\Below w.heap.size w w':=by
 obtain⟨c0,c1,c2⟩:=hk;have B6:=Lib.lt_of_cell c0;have hI:∀w,(Instr.indexAt 80 (.slice (some ⟨kg,0,none⟩) 1 kc) (.int .i64 0)).run Tryz.prog w=.ok (.pointer (some ⟨kg,0,none⟩)) w:=λw=>by go_simp
 go_enter Tryz.func224,Tryz.ntmps224;have B5:Below w.heap.size w (w.alloc (.cells #[.int .i64 k,.int .i64 u,.string b2,.string b3,.string b4] 165)):=aw;have d0:=(B5.cell (p:=⟨kg,0,none⟩) B6).trans c0;have d1:=(B5.cell (p:=⟨kg,1,none⟩) B6).trans c1;have d2:=(B5.cell (p:=⟨kg,2,none⟩) B6).trans c2;have B8:=hid B5;clear B5;go_wp2_with fail;refine wp_loop_rounds 2 ?_;rw[rounds_succ];go_wp2_with fail;refine(zJ k u b2 b3 b4 _).mono ?_;rintro e w1 ⟨rfl,B7⟩;have B9:Hid (Below w.heap.size w w1):=(B8.out.alloc B8.out.size _).trans (B7.mono (by simp;omega));clear B7 d0 d1 d2 c0 c1 c2 hI;go_wp2_with fail;rw[rounds_succ];go_wp2_with fail;go_ret;exact⟨rfl,B9.out⟩
def cI (ps:List cw):List UInt8:=[42,32,70,73,78,68]++ps.flatMap λp=>[32]++Lib.itoa p.place
theorem qC(ps:List cw)(p:cw):cI (ps++[p])=cI ps++([32]++Lib.itoa p.place):=by simp[cI]
theorem qB(ps:List cw)(k:Nat):(cI (ps.take k)).length<=(cI ps).length:=by
 have:cI ps=cI (ps.take k)++((ps.drop k).flatMap λp=>[32]++Lib.itoa p.place):=by
  unfold cI;rw[List.append_assoc,←List.flatMap_append,List.take_append_drop]
 rw[this,List.length_append];omega
section
variable {role role':Nat->Nat} {S:List Nat} {B:Nat} {W W':World} {f:Fs} {g:List UInt8} {tx:Bool} {z:Int} {ad:Array Value} {vw:Option (List ax)} {an:List UInt8} {ac:Nat} {ms:List ap} {nx:Int}
theorem wO{ks:List ax}{V kg kc:Nat}(h:St role B f g tx z ad (some ks) an ac ms nx W)(hv:W.cell? ⟨f.P,f.o+14,none⟩=some (.pointer (some ⟨V,0,none⟩)))(CL:ms.length<=8)(Cr:ks.length<=1000)(hk:lz W kg)(Ca:an.length+(cI (ar ks ms)).length<=700000):
  Calls Tryz.prog 159 #[.pointer (some ⟨V,0,none⟩),.slice (some ⟨kg,0,none⟩) 1 kc,.pointer (some ⟨f.A,0,none⟩)] W λe w'=>e=.returned (.tuple #[])/\∃role',St role' B f g tx z ad (some ks) (an++(cI (ar ks ms)++[10])) ac ms nx w'/\Stp role role' [3,4] W w':=by
 obtain⟨va,vc,hV,_,hK,_⟩:=h.viewOf hv;obtain⟨a,cap,hF,_,hM,_,_⟩:=h.fo.msgs;have gT:=mH hV hK hF hM (by omega) Cr;have CH:=hid (fX ks ms);have CK:=alS (cA ks ms) Cr;generalize ar ks ms=ps at*;have HS:=hid h;have HK:=hid hk;have Ch:kg<W.heap.size:=Lib.lt_of_cell hk.1;have Cx:=hid Ca;clear h hv hV hK hF hM hk Ca;go_enter Tryz.func159,Tryz.ntmps159;go_wp2_with fail;refine gT.mono ?_;rintro e w1 ⟨⟨v1,rfl,Cp⟩,Ck⟩;obtain⟨pa,pcap,rfl,_,Co,Cf⟩:=mr.form Cp;clear Cf;have CG:=hid Co;have Cm:=hid Ck;have Ce:=Ck.size;clear gT Cp Co Ck;go_wp2_with fail;go_loopw [6,12] (λvo i wr=>∃(k:Nat) (t:ByteArray),k<=ps.length/\i=.int .i64 k/\vo=.string t/\Hid (t.data.toList=cI (ps.take k))/\Hid (Below w1.heap.size w1 wr)) (λ_ i _=>ps.length-(RowKit.intOf i).toNat)
 case atStart=>exact⟨0,_,alT _,rfl,rfl,rfl,Below.refl _ _⟩
 case round=>
  obtain⟨k,t,hk,rfl,rfl,HT,B5⟩:=hrel;have Cz:=B5.out.size
  by_cases B9:k<ps.length
  ·obtain⟨b,off,ha,hb,hc⟩:∃b off,pa=some ⟨b,off,none⟩/\b<w1.heap.size/\ro w1 b off ps:=by
    rcases CG.out with hz|hz
    ·rw[hz]at B9;simp at B9
    ·exact hz
   subst ha;obtain⟨c0,c1,c2,c3,c4,c5⟩:=hc k ps[k] (by simp[B9]);have d0:=(B5.out.cell (p:=⟨b,off+k*6,none⟩) hb).trans c0;have d1:=(B5.out.cell (p:=⟨b,off+k*6+1,none⟩) hb).trans c1;have d2:=(B5.out.cell (p:=⟨b,off+k*6+2,none⟩) hb).trans c2;have d3:=(B5.out.cell (p:=⟨b,off+k*6+3,none⟩) hb).trans c3;have d4:=(B5.out.cell (p:=⟨b,off+k*6+4,none⟩) hb).trans c4;have d5:=(B5.out.cell (p:=⟨b,off+k*6+5,none⟩) hb).trans c5;have hI:∀w,(Instr.indexAt 298 (.slice (some ⟨b,off,none⟩) ps.length pcap) (.int .i64 (k:Int))).run Tryz.prog w=.ok (.pointer (some ⟨b,off+k*6,none⟩)) w:=λw=>jM B9
   have HN:Hid (cI (ps.take (k+1))=cI (ps.take k)++([32]++Lib.itoa ps[k].place)):=by
    unfold Hid;rw[alL B9,qC]
   have Cg:=CH.out ps[k] (List.getElem_mem B9);have Cs:=qB ps (k+1);generalize ps[k]=p at*;obtain⟨pl,⟨mk,mu,fl,cm,tx'⟩⟩:=p;simp only at d0 d1 d2 d3 d4 d5 HN Cg;generalize(⟨fl.toArray⟩:ByteArray)=b2 at*;generalize(⟨cm.toArray⟩:ByteArray)=b3 at*;generalize(⟨tx'.toArray⟩:ByteArray)=b4 at*;have Ci:Below w1.heap.size w1 (wr.alloc (.cells #[.int .i64 pl,.int .i64 mk,.int .i64 mu,.string b2,.string b3,.string b4] 302)):=B5.out.alloc Cz _;have B7:Below W.heap.size W (wr.alloc (.cells #[.int .i64 pl,.int .i64 mk,.int .i64 mu,.string b2,.string b3,.string b4] 302)):=Cm.out.trans (Ci.mono Ce);have hX:(wr.alloc (.cells #[.int .i64 pl,.int .i64 mk,.int .i64 mu,.string b2,.string b3,.string b4] 302)).heap[wr.heap.size]?=some (.cells #[.int .i64 pl,.int .i64 mk,.int .i64 mu,.string b2,.string b3,.string b4] 302 (0,0)):=alA wr _;have Cu:lz (wr.alloc (.cells #[.int .i64 pl,.int .i64 mk,.int .i64 mu,.string b2,.string b3,.string b4] 302)) kg:=⟨(B7.cell (p:=⟨kg,0,none⟩) Ch).trans HK.out.1,(B7.cell (p:=⟨kg,1,none⟩) Ch).trans HK.out.2.1,(B7.cell (p:=⟨kg,2,none⟩) Ch).trans HK.out.2.2⟩;have gF:=tM (kc:=kc) Cu mk mu b2 b3 b4;have CB:wr.heap.size<(wr.alloc (.cells #[.int .i64 pl,.int .i64 mk,.int .i64 mu,.string b2,.string b3,.string b4] 302)).heap.size:=by simp
   have HX:=hid hX;have Cy:=hid Ci;have HLE':=hid Cg;have CI:=hid Cs;clear c0 c1 c2 c3 c4 c5 hc hX Ci B7 Cu Cg Cs;go_wp2_with fail;generalize(wr.alloc (.cells #[.int .i64 pl,.int .i64 mk,.int .i64 mu,.string b2,.string b3,.string b4] 302))=w3 at*;generalize wr.heap.size=X at*;refine gF.mono ?_;rintro e w4 ⟨rfl,Cj⟩;have x0:w4.cell? ⟨X,0,none⟩=some (.int .i64 pl):=ae (o:=0) ((Cj.block X CB).trans HX.out) rfl;have B8:Below w1.heap.size w1 w4:=Cy.out.trans (Cj.mono Cy.out.size);have Cb:Below W.heap.size W w4:=Cm.out.trans (B8.mono Ce);have gI:=cH pl (by have:=HLE'.out.1;omega) (by have:=HLE'.out.2.1;omega) w4 (HS.out.below Cb).bs.e;have Cd:=hid B8;clear gF d0 d1 d2 d3 d4 d5 hI Cj B8 Cb;obtain⟨b1,CC,Cc⟩:=aj (Lib.itoa pl);rw[←CC.out]at gI;have CA:=ew pl (by have:=HLE'.out.1;omega) (by have:=HLE'.out.2.1;omega);obtain⟨r1,G1,l1⟩:=ba Tryz.prog ⟨#[32]⟩ b1 (by rw[Cc.out,show(⟨#[32]⟩:ByteArray).data.toList.length=1 from rfl];omega);have Cw:Hid (r1.data.toList=[32]++Lib.itoa pl):=by unfold Hid;rw[G1.out,Cc.out]
   obtain⟨r2,G2,l2⟩:=ba Tryz.prog t r1 (by have h1:=CI.out;have h2:=Cx.out;rw[HN.out,List.length_append]at h1;rw[HT.out,Cw.out];omega);have CE:Hid (r2.data.toList=cI (ps.take (k+1))):=by unfold Hid;rw[G2.out,HT.out,Cw.out,HN.out]
   clear CA;go_wp2_with fail;refine gI.mono ?_;rintro e w5 ⟨rfl,Ct⟩;have CJ:Hid (Below w1.heap.size w1 w5):=Cd.out.trans (Ct.mono Cd.out.size);clear gI Ct x0;go_wp2_with fail;exact⟨⟨k+1,r2,by omega,by simp,rfl,CE,CJ⟩,by simp[RowKit.intOf];omega⟩
  ·have Cv:Hid (t.data.toList=cI ps):=by
    have:=HT.out;rw[alO (by omega)]at this;exact this
   have B7:Below W.heap.size W wr:=Cm.out.trans (B5.out.mono Ce);have gT:=(HS.out.below B7).tell1 t (by rw[Cv.out];have:=Cx.out;omega);have HP:Hid (Stp role role [3,4] W wr):=Stp.of_below _ _ B7;clear B7;go_wp2_with fail;refine gT.mono ?_;rintro e w5 ⟨rfl,B6,Cl,Cn⟩;rw[Cv.out]at Cl;have CD:=hid Cl;have CF:Hid (Stp role B6 [3,4] W w5):=HP.out.trans Cn;clear gT Cl Cn;go_wp2_with fail;go_end0;exact⟨rfl,B6,CD.out,CF.out⟩
end
end Go.Proofs.YtbeahecjbokjjaaGreatDoor
namespace Go.Proofs.YtbeahecjbokjjaaGreatDoor
open Go.Lib
inductive eC (gn:Bool):List UInt8->List (List UInt8)->List (List UInt8)->Prop
 |plus (fl:List (List UInt8)):eC gn [43] fl fl
 |count (n:Nat) (fl:List (List UInt8)) (h1:fl.length<n) (h2:n<=100):eC gn ([42,32,67,79,85,78,84,32]++Lib.itoa (n:Int)) fl (fl++List.replicate (n-fl.length) [63])
 |gone (hg:gn=true) (p:Nat) (fl:List (List UInt8)) (h1:1<=p) (h2:p<=fl.length):eC gn (aV (p:Int) [71,79,78,69]) fl (fl.eraseIdx (p-1))
 |flags (p:Nat) (f:List UInt8) (fl:List (List UInt8)) (h1:1<=p) (h2:p<=fl.length) (hf:(∀b∈f,b≠32/\b≠10)/\f.length<=4):eC gn (aV (p:Int) ([70,76,65,71,83,32]++f)) fl (fl.set (p-1) f)
 |get (p:Nat) (f:List UInt8) (fl:List (List UInt8)) (h1:1<=p) (h2:p<=fl.length) (hf:(∀b∈f,b≠32/\b≠10)/\f.length<=4):eC gn (aV (p:Int) ([71,69,84,32,70,32]++f)) fl (fl.set (p-1) f)
 |find (ps:List Nat) (fl:List (List UInt8)) (h:∀p∈ps,1<=p/\p<=fl.length) (hl:ps.length<=100):eC gn ([42,32,70,73,78,68]++ps.flatMap λ(p:Nat)=>[32]++Lib.itoa (p:Int)) fl fl
inductive dQ (gn:Bool):List (List UInt8)->List (List UInt8)->List (List UInt8)->Prop
 |nil (fl:List (List UInt8)):dQ gn [] fl fl
 |cons {l:List UInt8} {ls fl f1 f2:List (List UInt8)}:eC gn l fl f1->dQ gn ls f1 f2->dQ gn (l::ls) fl f2
theorem dQ.append{gn:Bool}{xs ys a b c:List (List UInt8)}(h:dQ gn xs a b)(h2:dQ gn ys b c):dQ gn (xs++ys) a c:=by
 induction h with
 |nil=>exact h2
 |cons h1 _ ih=>exact .cons h1 (ih h2)
theorem eC.len{gn:Bool}{l:List UInt8}{fl f1:List (List UInt8)}(h:eC gn l fl f1)(h0:fl.length<=100):f1.length<=100:=by
 cases h with
 |plus=>exact h0
 |count n _ h1 h2=>simp;omega
 |gone _ p _ h1 h2=>rw[List.length_eraseIdx];split<;>omega
 |flags=>simpa using h0
 |get=>simpa using h0
 |find=>exact h0
theorem cD(p:Nat)(h:p<=100):(Lib.itoa (p:Int)).length<=3:=Mb.itoa_len 3 (p:Int) (by decide) (by omega) (by have:((10^3:Nat):Int)=1000:=rfl;omega)
theorem jp:∀(ps:List Nat),(∀p∈ps,p<=100)->(ps.flatMap λ(p:Nat)=>[32]++Lib.itoa (p:Int)).length<=4*ps.length
 |[],_=>by simp
 |p::r,h=>by
  have h1:=jp r λx hx=>h x (by simp[hx])
  have h2:=cD p (h p (by simp));rw[List.flatMap_cons,List.length_append];simp only[List.length_append,List.length_cons,List.length_nil];omega
theorem fR(p:Nat)(s:List UInt8)(hs:∀b∈s,b≠10):∀b∈aV (p:Int) s,b≠10:=λb hb=>by
 unfold aV at hb
 rcases List.mem_append.1 hb with hb|hb
 ·rcases List.mem_append.1 hb with hb|hb
  ·rcases List.mem_append.1 hb with hb|hb
   ·exact(by decide:∀x∈([42,32]:List UInt8),x≠10) b hb
   ·exact Mb.itoa_ne10 _ (by omega) b hb
  ·exact(by decide:∀x∈([32]:List UInt8),x≠10) b hb
 ·exact hs b hb
theorem eC.bytes{gn:Bool}{l:List UInt8}{fl f1:List (List UInt8)}(h:eC gn l fl f1)(h0:fl.length<=100):l.length<=500/\∀b∈l,b≠10:=by
 cases h with
 |plus=>exact⟨by decide,by decide⟩
 |count n _ h1 h2=>
  have:=cD n h2;refine⟨by simp;omega,λb hb=>?_⟩
  rcases List.mem_append.1 hb with hb|hb
  ·exact(by decide:∀x∈([42,32,67,79,85,78,84,32]:List UInt8),x≠10) b hb
  ·exact Mb.itoa_ne10 _ (by omega) b hb
 |gone _ p _ h1 h2=>
  have:=cD p (by omega);exact⟨by simp[aV];omega,fR p _ (by decide)⟩
 |flags p f _ h1 h2 hf=>
  have:=cD p (by omega);refine⟨by simp[aV];omega,fR p _ λb hb=>?_⟩
  rcases List.mem_append.1 hb with hb|hb
  ·exact(by decide:∀x∈([70,76,65,71,83,32]:List UInt8),x≠10) b hb
  ·exact(hf.1 b hb).2
 |get p f _ h1 h2 hf=>
  have:=cD p (by omega);refine⟨by simp[aV];omega,fR p _ λb hb=>?_⟩
  rcases List.mem_append.1 hb with hb|hb
  ·exact(by decide:∀x∈([71,69,84,32,70,32]:List UInt8),x≠10) b hb
  ·exact(hf.1 b hb).2
 |find ps _ hh hl=>
  have:=jp ps λp hp=>by have:=hh p hp;omega
  refine⟨by rw[List.length_append];simp only[List.length_cons,List.length_nil];omega,λb hb=>?_⟩
  rcases List.mem_append.1 hb with hb|hb
  ·exact(by decide:∀x∈([42,32,70,73,78,68]:List UInt8),x≠10) b hb
  ·rw[List.mem_flatMap]at hb;obtain⟨p,_,hb⟩:=hb
   rcases List.mem_append.1 hb with hb|hb
   ·exact(by decide:∀x∈([32]:List UInt8),x≠10) b hb
   ·exact Mb.itoa_ne10 _ (by omega) b hb
def cK (ms:List ap) (fl:List (List UInt8)) (ks:List ax):Prop:=
 fl.length=ks.length/\∀(i:Nat) (f:List UInt8) (k:ax),fl[i]?=some f->ks[i]?=some k->f=[63]∨f=Mb.tell k.told∨∃m,aG k.uid ms=some m/\f=Mb.tell m.flags
theorem cK.nil(ms:List ap):cK ms [] []:=⟨rfl,by simp⟩
theorem cK.mono{ms':List ap}{fl:List (List UInt8)}{ks:List ax}(h:cK [] fl ks):cK ms' fl ks:=
 ⟨h.1,λi f k h1 h2=>by
  rcases h.2 i f k h1 h2 with h|h|⟨m,h,_⟩
  ·exact Or.inl h
  ·exact Or.inr (Or.inl h)
  ·cases h⟩
theorem kS(ms:List ap)(k:ax)(r:List ax):bL ms (k::r)=if(aG k.uid ms).isSome=true then k::bL ms r else bL ms r:=by
 unfold bL;rw[List.filter_cons]
theorem jo(ms:List ap):∀(ks:List ax) (B7 B5:List (List UInt8)),cK ms B5 ks->∃B6,dQ true ((co ms B7.length ks).map (·.data.toList)) (B7++B5) (B7++B6)/\cK ms B6 (bL ms ks)
 |[],B7,B5,h=>⟨B5,.nil _,by simpa[bL]using h⟩
 |k::r,B7,[],h=>by have:=h.1;simp at this
 |k::r,B7,f::B5,h=>by
  have hr:cK ms B5 r:=⟨by have:=h.1;simpa using this,λi g x h1 h2=>h.2 (i+1) g x (by simpa using h1) (by simpa using h2)⟩;have h0:=h.2 0 f k rfl rfl
  by_cases hs:(aG k.uid ms).isSome=true
  ·obtain⟨B6,q1,q2⟩:=jo ms r (B7++[f]) B5 hr;refine⟨f::B6,?_,?_⟩
   ·rw[co,if_pos hs];simpa using q1
   ·rw[kS,if_pos hs];refine⟨by simpa using q2.1,λi g x h1 h2=>?_⟩
    cases i with
    |zero=>simp at h1 h2;subst h1 h2;exact h0
    |succ i=>exact q2.2 i g x (by simpa using h1) (by simpa using h2)
  ·obtain⟨B6,q1,q2⟩:=jo ms r B7 B5 hr;refine⟨B6,?_,?_⟩
   ·rw[co,if_neg hs,List.map_cons];refine .cons (f1:=B7++B5) ?_ q1;have:=eC.gone (gn:=true) rfl (B7.length+1) (B7++f::B5) (by omega) (by simp);simpa[List.eraseIdx_append_of_length_le]using this
   ·rw[kS,if_neg hs];exact q2
structure bw (ks:List ax) (ms:List ap) (nx:Int):Prop where
 ris:(ks.map (·.uid)).Pairwise (·<·)
 lt:∀u∈ks.map (·.uid),1<=u/\u<nx
 new:∀m∈ms,m.uid∈ks.map (·.uid)∨∀u∈ks.map (·.uid),u<m.uid
theorem pp:∀(l:List Int) (lo hi:Int),l.Pairwise (·<·)->(∀u∈l,lo<=u/\u<hi)->lo<=hi->(l.length:Int)<=hi-lo
 |[],lo,hi,_,_,h=>by simp;omega
 |x::r,lo,hi,hp,hm,h=>by
  have hx:=hm x (by simp);have:=pp r (x+1) hi (List.pairwise_cons.1 hp).2 (λu hu=>⟨by have:=(List.pairwise_cons.1 hp).1 u hu;omega,(hm u (by simp[hu])).2⟩) (by omega);simp;omega
theorem bw.len{ks:List ax}{ms:List ap}{nx:Int}(h:bw ks ms nx)(B5:aP ms nx):ks.length<=99:=by
 have:=pp _ 1 nx h.ris h.lt B5.lo;have:=B5.hi;simp at*;omega
theorem pq:∀(xs ys:List Int),xs.Pairwise (·<·)->ys.Pairwise (·<·)->(∀u,u∈xs↔u∈ys)->xs=ys
 |[],[],_,_,_=>rfl
 |[],y::r,_,_,h=>by have:=(h y).2 (by simp);cases this
 |x::r,[],_,_,h=>by have:=(h x).1 (by simp);cases this
 |x::r,y::s,hx,hy,h=>by
  have hx':=List.pairwise_cons.1 hx;have hy':=List.pairwise_cons.1 hy;have e:x=y:=by
   rcases List.mem_cons.1 ((h x).1 (by simp))with e|e
   ·exact e
   ·rcases List.mem_cons.1 ((h y).2 (by simp))with e2|e2
    ·exact e2.symm
    ·have:=hy'.1 x e;have:=hx'.1 y e2;omega
  subst e;rw[pq r s hx'.2 hy'.2 λu=>⟨λhu=>?_,λhu=>?_⟩]
  ·rcases List.mem_cons.1 ((h u).1 (by simp[hu]))with e|e
   ·have:=hx'.1 u hu;omega
   ·exact e
  ·rcases List.mem_cons.1 ((h u).2 (by simp[hu]))with e|e
   ·have:=hy'.1 u hu;omega
   ·exact e
theorem nO{ms:List ap}{u:Int}:(aG u ms).isSome=true↔u∈ms.map (·.uid):=by
 unfold aG;rw[List.find?_isSome];simp only[beq_iff_eq,List.mem_map]
def eR (ks:List ax) (ms:List ap):List ax:=(ms.filter λm=>!ks.any λx=>x.uid==m.uid).map λm=>⟨m.uid,m.flags⟩
theorem d9:∀(ms:List ap) (ks:List ax),(ms.Pairwise λx y=>x.uid<y.uid)->ak ks ms=ks++eR ks ms
 |[],ks,_=>by simp[ak,eR]
 |m::r,ks,h=>by
  have h':=List.pairwise_cons.1 h;rw[ak]
  by_cases ha:(ks.any λx=>x.uid==m.uid)=true
  ·rw[if_pos ha,d9 r ks h'.2];simp[eR,ha]
  ·rw[if_neg ha,d9 r _ h'.2];have hf:(r.filter λx=>!(ks++[(⟨m.uid,m.flags⟩:ax)]).any λy=>y.uid==x.uid)=r.filter λx=>!ks.any λy=>y.uid==x.uid:=by
    refine List.filter_congr λx hx=>?_
    have:=h'.1 x hx;have B5:(m.uid==x.uid)=false:=by simp;omega
    simp[List.any_append,B5]
   unfold eR;rw[hf,List.filter_cons,if_pos (by simp[ha])];simp
theorem j5{ks:List ax}{ms:List ap}:(eR ks ms).map (·.uid)=(ms.filter λm=>!ks.any λx=>x.uid==m.uid).map (·.uid):=by
 simp[eR,Function.comp_def]
theorem pJ{ks:List ax}{u:Int}:(ks.any λx=>x.uid==u)=true↔u∈ks.map (·.uid):=by
 simp only[List.any_eq_true,beq_iff_eq,List.mem_map]
theorem bw.take{ks:List ax}{ms:List ap}{nx:Int}(h:bw ks ms nx)(B7:aP ms nx):bw (ak ks ms) ms nx/\∀m∈ms,m.uid∈(ak ks ms).map (·.uid):=by
 rw[d9 ms ks B7.ris];have B5:∀u,u∈(eR ks ms).map (·.uid)↔∃m∈ms,m.uid=u/\u∉ks.map (·.uid):=λu=>by
  rw[j5];simp only[List.mem_map,List.mem_filter,Bool.not_eq_true']
  constructor
  ·rintro⟨m,⟨h1,h2⟩,h3⟩;subst h3;exact⟨m,h1,rfl,λe=>by rw[←List.mem_map,←pJ]at e;rw[e]at h2;cases h2⟩
  ·rintro⟨m,h1,h2,h3⟩;subst h2;refine⟨m,⟨h1,?_⟩,rfl⟩;rw[←List.mem_map,←pJ]at h3;simpa using h3
 have B6:∀m∈ms,m.uid∈(ks++eR ks ms).map (·.uid):=λm hm=>by
  rw[List.map_append,List.mem_append]
  by_cases B8:m.uid∈ks.map (·.uid)
  ·exact Or.inl B8
  ·exact Or.inr ((B5 _).2 ⟨m,hm,rfl,B8⟩)
 refine⟨⟨?_,λu hu=>?_,λm hm=>Or.inl (B6 m hm)⟩,B6⟩
 ·rw[List.map_append,List.pairwise_append];refine⟨h.ris,?_,λa ha b hb=>?_⟩
  ·rw[j5];exact List.Pairwise.map _ (λ_ _ h=>h) (B7.ris.sublist List.filter_sublist)
  ·obtain⟨m,h1,h2,h3⟩:=(B5 b).1 hb;subst h2
   rcases h.new m h1 with e|e
   ·exact absurd e h3
   ·exact e a ha
 ·rw[List.map_append,List.mem_append]at hu
  rcases hu with hu|hu
  ·exact h.lt u hu
  ·obtain⟨m,h1,h2,_⟩:=(B5 u).1 hu;subst h2;exact B7.uid m h1
theorem bw.left{ks:List ax}{ms:List ap}{nx:Int}(h:bw ks ms nx):bw (bL ms ks) ms nx:=by
 have hs:((bL ms ks).map (·.uid)).Sublist (ks.map (·.uid)):=List.Sublist.map _ List.filter_sublist;refine⟨h.ris.sublist hs,λu hu=>h.lt u (hs.subset hu),λm hm=>?_⟩
 rcases h.new m hm with e|e
 ·rw[List.mem_map]at e;obtain⟨k,h1,h2⟩:=e;exact Or.inl (List.mem_map.2 ⟨k,List.mem_filter.2 ⟨h1,by rw[nO,h2];exact List.mem_map.2 ⟨m,hm,rfl⟩⟩,h2⟩)
 ·exact Or.inr λu hu=>e u (hs.subset hu)
theorem bw.uids{ks B5:List ax}{ms:List ap}{nx:Int}(h:bw ks ms nx)(he:B5.map (·.uid)=ks.map (·.uid)):bw B5 ms nx:=⟨by rw[he];exact h.ris,by rw[he];exact h.lt,by rw[he];exact h.new⟩
def dn (ms:List ap) (k:ax):ax:=match aG k.uid ms with|some m=>⟨k.uid,m.flags⟩|none=>k
theorem pu(ms:List ap)(k:ax):(dn ms k).uid=k.uid:=by
 unfold dn;split<;>rfl
def dl (ms:List ap):List ax->Nat->List ByteArray
 |[],_=>[]
 |k::r,c=>(match aG k.uid ms with|some m=>if k.told=m.flags then []else [⟨(aV ((c:Int)+1) ([70,76,65,71,83,32]++Mb.tell m.flags)).toArray⟩]|none=>[])++dl ms r (c+1)
theorem ia(ms:List ap):∀(ks B5:List ax) (ls:List ByteArray),((ks.zipIdx B5.length).filterMap λp=>(aG p.1.uid ms).map λm=>(⟨(p.2:Int)+1,m⟩:cw)).foldl aW (B5++ks,ls)=(B5++ks.map (dn ms),ls++dl ms ks B5.length)
 |[],B5,ls=>by simp[dl]
 |k::r,B5,ls=>by
  rw[List.zipIdx_cons,List.filterMap_cons]
  cases hf:aG k.uid ms with
  |none=>
   have:=ia ms r (B5++[k]) ls;simp only[List.length_append,List.length_cons,List.length_nil,Nat.zero_add,List.append_assoc,List.cons_append,List.nil_append]at this;simp only[Option.map_none,this,dl,hf,List.map_cons,List.nil_append];rw[show dn ms k=k by unfold dn;rw[hf]]
  |some m=>
   have hn:dn ms k=⟨k.uid,m.flags⟩:=by unfold dn;rw[hf]
   simp only[Option.map_some,List.foldl_cons]
   by_cases ht:k.told=m.flags
   ·have hs:aW (B5++k::r,ls) ⟨(B5.length:Int)+1,m⟩=(B5++k::r,ls):=by
     unfold aW;simp[ht]
    have:=ia ms r (B5++[k]) ls;simp only[List.length_append,List.length_cons,List.length_nil,Nat.zero_add,List.append_assoc,List.cons_append,List.nil_append]at this;have hk:k=⟨k.uid,m.flags⟩:=by rw[←ht]
    rw[hs,this,dl,hf,List.map_cons,hn,←hk];simp[ht]
   ·obtain⟨L,hL⟩:∃L:ByteArray,L=⟨(aV ((B5.length:Int)+1) ([70,76,65,71,83,32]++Mb.tell m.flags)).toArray⟩:=⟨_,rfl⟩;have hs:aW (B5++k::r,ls) ⟨(B5.length:Int)+1,m⟩=(B5++⟨k.uid,m.flags⟩::r,ls++[L]):=by
     unfold aW;rw[hL];simp[ht]
    have:=ia ms r (B5++[⟨k.uid,m.flags⟩]) (ls++[L]);simp only[List.length_append,List.length_cons,List.length_nil,Nat.zero_add,List.append_assoc,List.cons_append,List.nil_append]at this;rw[hs,this,dl,hf,List.map_cons,hn];simp only[if_neg ht];rw[←hL]
    rfl
theorem nG(ms:List ap)(ks:List ax):(ar ks ms).foldl aW (ks,[])=(ks.map (dn ms),dl ms ks 0):=by
 have:=ia ms ks [] [];simpa[ar]using this
theorem lw{f:List UInt8}(h:Mb.flagsOk f=true/\f.length<=4):(∀b∈Mb.tell f,b≠32/\b≠10)/\(Mb.tell f).length<=4:=by
 unfold Mb.tell
 split
 ·exact⟨by decide,by decide⟩
 ·refine⟨λb hb=>?_,h.2⟩
  rcases Mb.flagsFrom_mem f (-1) (by decide) h.1 b hb with e|e|e|e<;>subst e<;>decide
theorem nN{ms:List ap}{u:Int}{m:ap}(h:aG u ms=some m):m∈ms/\m.uid=u:=by
 unfold aG at h;exact⟨List.mem_of_find?_eq_some h,by simpa using List.find?_some h⟩
theorem rq{α:Type}(B5:List α)(f g:α)(r:List α):(B5++f::r).set B5.length g=B5++g::r:=by simp
theorem fP(gn:Bool)(ms:List ap)(B8:∀m∈ms,Mb.flagsOk m.flags=true/\m.flags.length<=4):∀(ks:List ax) (B7 B6:List (List UInt8)),cK ms B6 ks->∃B5,dQ gn ((dl ms ks B7.length).map (·.data.toList)) (B7++B6) (B7++B5)/\cK [] B5 (ks.map (dn ms))
 |[],B7,B6,h=>⟨B6,.nil _,⟨by simpa using h.1,by simp⟩⟩
 |k::r,B7,[],h=>by have:=h.1;simp at this
 |k::r,B7,f::B6,h=>by
  have hr:cK ms B6 r:=⟨by have:=h.1;simpa using this,λi g x h1 h2=>h.2 (i+1) g x (by simpa using h1) (by simpa using h2)⟩;have h0:=h.2 0 f k rfl rfl;have B9:∀(f':List UInt8) (B5:List (List UInt8)),(f'=[63]∨f'=Mb.tell (dn ms k).told)->cK [] B5 (r.map (dn ms))->cK [] (f'::B5) ((k::r).map (dn ms)):=λf' B5 hf q2=>by
   refine⟨by simpa using q2.1,λi g x h1 h2=>?_⟩
   cases i with
   |zero=>
    simp at h1 h2;subst h1 h2
    rcases hf with e|e
    ·exact Or.inl e
    ·exact Or.inr (Or.inl e)
   |succ i=>exact q2.2 i g x (by simpa using h1) (by simpa using h2)
  rw[dl,List.map_append]
  cases hf:aG k.uid ms with
  |none=>
   obtain⟨B5,q1,q2⟩:=fP gn ms B8 r (B7++[f]) B6 hr;refine⟨f::B5,by simpa using q1,B9 f B5 ?_ q2⟩;have hn:dn ms k=k:=by unfold dn;rw[hf]
   rw[hn]
   rcases h0 with e|e|⟨m,e,_⟩
   ·exact Or.inl e
   ·exact Or.inr e
   ·rw[hf]at e;cases e
  |some m=>
   have hn:(dn ms k).told=m.flags:=by unfold dn;rw[hf]
   by_cases ht:k.told=m.flags
   ·obtain⟨B5,q1,q2⟩:=fP gn ms B8 r (B7++[f]) B6 hr;refine⟨f::B5,by simpa[ht]using q1,B9 f B5 ?_ q2⟩;rw[hn]
    rcases h0 with e|e|⟨m',e,e2⟩
    ·exact Or.inl e
    ·exact Or.inr (by rw[e,ht])
    ·rw[hf]at e;injection e with e;subst e;exact Or.inr e2
   ·obtain⟨B5,q1,q2⟩:=fP gn ms B8 r (B7++[Mb.tell m.flags]) B6 hr;refine⟨Mb.tell m.flags::B5,?_,B9 _ B5 (Or.inr (by rw[hn])) q2⟩;simp only[if_neg ht];refine .cons (f1:=B7++Mb.tell m.flags::B6) ?_ (by simpa using q1);have:=eC.flags (gn:=gn) (B7.length+1) (Mb.tell m.flags) (B7++f::B6) (by omega) (by simp) (lw (B8 m (nN hf).1));rw[Nat.add_sub_cancel,rq]at this;exact this
theorem ul(B5 gn:Bool)(Cg:B5=true->gn=true){ms:List ap}{nx:Int}(B6:aP ms nx){ks:List ax}(hv:bw ks ms nx){fl:List (List UInt8)}(ha:cK ms fl ks):
  ∃Ce,dQ gn ((bD B5 ms ks).2.map (·.data.toList)) fl Ce/\cK [] Ce (bD B5 ms ks).1/\bw (bD B5 ms ks).1 ms nx/\(bD B5 ms ks).2.length<=300/\(∀(k:ax) (m:ap),k∈(bD B5 ms ks).1->aG k.uid ms=some m->k.told=m.flags)/\(B5=true->(bD B5 ms ks).1.map (·.uid)=ms.map (·.uid)):=by
 have hl:=hv.len B6;obtain⟨f1,g1,g2,gv,gl⟩:∃f1,dQ gn ((if B5 then co ms 0 ks else []).map (·.data.toList)) fl f1/\cK ms f1 (if B5 then bL ms ks else ks)/\bw (if B5 then bL ms ks else ks) ms nx/\(if B5 then co ms 0 ks else []).length<=99:=by
  cases B5 with
  |false=>exact⟨fl,.nil _,ha,hv,by simp⟩
  |true=>
   have hg:gn=true:=Cg rfl;subst hg;obtain⟨f1,q1,q2⟩:=jo ms ks [] fl ha;exact⟨f1,q1,q2,hv.left,alS (ig ms ks 0) hl⟩
 obtain⟨k1,Cb⟩:∃k1,k1=(if B5 then bL ms ks else ks):=⟨_,rfl⟩;obtain⟨l1,Cd⟩:∃l1,l1=(if B5 then co ms 0 ks else []):=⟨_,rfl⟩;have hu:bD B5 ms ks=((ak k1 ms).map (dn ms),l1++(if k1.length<(ak k1 ms).length then [⟨([42,32,67,79,85,78,84,32]++Lib.itoa ((ak k1 ms).length:Int)).toArray⟩]else [])++dl ms (ak k1 ms) 0):=by
  unfold bD;simp only[nG,←Cb,←Cd]
 rw[←Cb]at g2 gv;rw[←Cd]at g1 gl;obtain⟨tv,B9⟩:=gv.take B6;have Ch:=tv.len B6;have B7:=d9 ms k1 B6.ris;obtain⟨f2,c1,c2⟩:∃f2,dQ gn (((if k1.length<(ak k1 ms).length then [⟨([42,32,67,79,85,78,84,32]++Lib.itoa ((ak k1 ms).length:Int)).toArray⟩]else []):List ByteArray).map (·.data.toList)) f1 f2/\cK ms f2 (ak k1 ms):=by
  by_cases B8:k1.length<(ak k1 ms).length
  ·rw[if_pos B8];refine⟨f1++List.replicate ((ak k1 ms).length-f1.length) [63],.cons ?_ (.nil _),?_⟩
   ·exact eC.count _ f1 (by rw[g2.1];exact B8) (by omega)
   ·refine⟨by simp[g2.1];omega,λi f k h1 h2=>?_⟩
    by_cases hi:i<f1.length
    ·rw[List.getElem?_append_left hi]at h1;rw[B7,List.getElem?_append_left (by rw[←g2.1];exact hi)]at h2;exact g2.2 i f k h1 h2
    ·rw[List.getElem?_append_right (by omega),List.getElem?_replicate]at h1
     split at h1
     ·injection h1 with h1;exact Or.inl h1.symm
     ·cases h1
  ·rw[if_neg B8];have Ca:eR k1 ms=[]:=by
    rw[B7,List.length_append]at B8;exact alN (by omega)
   rw[B7,Ca,List.append_nil];exact⟨f1,.nil _,g2⟩
 obtain⟨f3,t1,t2⟩:=fP gn ms B6.fl (ak k1 ms) [] f2 c2;have Cf:∀(xs:List ax) (c:Nat),(dl ms xs c).length<=xs.length:=by
  intro xs
  induction xs with
  |nil=>intro c;simp[dl]
  |cons x r ih=>
   intro c;have:=ih (c+1);rw[dl,List.length_append];simp only[List.length_cons]
   split
   ·split<;>simp<;>omega
   ·simp;omega
 have Cc:((ak k1 ms).map (dn ms)).map (·.uid)=(ak k1 ms).map (·.uid):=by
  rw[List.map_map];exact List.map_congr_left λk _=>pu ms k
 refine⟨f3,?_,by rw[hu];exact t2,by rw[hu];exact tv.uids Cc,?_,λk m hk hf=>?_,λhd=>?_⟩
 ·rw[hu];simp only[List.map_append];exact(g1.append c1).append t1
 ·rw[hu];have:=Cf (ak k1 ms) 0;have hc:((if k1.length<(ak k1 ms).length then [⟨([42,32,67,79,85,78,84,32]++Lib.itoa ((ak k1 ms).length:Int)).toArray⟩]else []):List ByteArray).length<=1:=by split<;>simp
  simp only[List.length_append];omega
 ·rw[hu]at hk;obtain⟨x,_,rfl⟩:=List.mem_map.1 hk;rw[pu]at hf;unfold dn;rw[hf]
 ·rw[hu];show((ak k1 ms).map (dn ms)).map (·.uid)=_;rw[Cc];refine pq _ _ tv.ris (List.Pairwise.map _ (λ_ _ h=>h) B6.ris) λu=>⟨λh=>?_,λh=>?_⟩
  ·rw[B7,List.map_append,List.mem_append]at h
   rcases h with h|h
   ·rw[Cb,if_pos hd]at h;obtain⟨k,h1,rfl⟩:=List.mem_map.1 h;exact nO.1 (List.mem_filter.1 h1).2
   ·rw[j5]at h;obtain⟨m,h1,rfl⟩:=List.mem_map.1 h;exact List.mem_map.2 ⟨m,(List.mem_filter.1 h1).1,rfl⟩
  ·obtain⟨m,h1,rfl⟩:=List.mem_map.1 h;exact B9 m h1
def aN (ls:List (List UInt8)):List UInt8:=ls.flatMap λl=>l++[10]
theorem uk(xs:List ByteArray):bC xs=aN (xs.map (·.data.toList)):=by
 unfold bC aN;rw[List.flatMap_map]
theorem ni(xs ys:List (List UInt8)):aN (xs++ys)=aN xs++aN ys:=by simp[aN]
def kA (gn:Bool) (fl fl':List (List UInt8)) (an:List UInt8):Prop:=∃ls last,an=aN ls++(last++[10])/\dQ gn ls fl fl'/\(∀b∈last,b≠10)/\last.length<=10/\ls.length<=500
theorem dQ.bytes{gn:Bool}{ls fl B5:List (List UInt8)}(h:dQ gn ls fl B5)(h0:fl.length<=100):(aN ls).length<=501*ls.length:=by
 induction h with
 |nil=>simp[aN]
 |cons h1 _ ih=>
  have h2:=ih (h1.len h0);have h3:=(h1.bytes h0).1;simp only[aN,List.flatMap_cons,List.length_append,List.length_cons,List.length_nil]at h2⊢;omega
theorem dQ.len{gn:Bool}{ls fl B5:List (List UInt8)}(h:dQ gn ls fl B5)(h0:fl.length<=100):B5.length<=100:=by
 induction h with
 |nil=>exact h0
 |cons h1 _ ih=>exact ih (h1.len h0)
theorem kA.len{gn:Bool}{fl B5:List (List UInt8)}{an:List UInt8}(h:kA gn fl B5 an)(h0:fl.length<=100):an.length<=300000/\an≠[]:=by
 obtain⟨ls,last,rfl,h1,_,h3,h4⟩:=h;have:=h1.bytes h0;refine⟨by simp only[List.length_append,List.length_cons,List.length_nil];omega,by simp⟩
theorem mE(gn:Bool){ms:List ap}(B6:∀m∈ms,Mb.flagsOk m.flags=true/\m.flags.length<=4){ks:List ax}:∀(ps:List cw) (fl:List (List UInt8)),(∀p∈ps,∃(i:Nat) (k:ax),p.place=(i:Int)+1/\ks[i]?=some k/\aG k.uid ms=some p.m)->cK ms fl ks->∃B5,dQ gn (ps.map (eS [70])) fl B5/\cK ms B5 ks
 |[],fl,_,h=>⟨fl,.nil _,h⟩
 |p::r,fl,hp,h=>by
  obtain⟨i,k,h1,h2,h3⟩:=hp p (by simp);have hi:i<ks.length:=(alK.1 h2).1;have hA:cK ms (fl.set i (Mb.tell p.m.flags)) ks:=by
   refine⟨by simpa using h.1,λj f x q1 q2=>?_⟩
   by_cases hj:i=j
   ·subst hj;rw[List.getElem?_set_self (by rw[h.1];exact hi)]at q1;injection q1 with q1
    rw[h2]at q2;injection q2 with q2
    subst q1 q2;exact Or.inr (Or.inr ⟨p.m,h3,rfl⟩)
   ·rw[List.getElem?_set_ne hj]at q1;exact h.2 j f x q1 q2
  obtain⟨B5,q1,q2⟩:=mE gn B6 r _ (λx hx=>hp x (by simp[hx])) hA;refine⟨B5,.cons ?_ q1,q2⟩;have:=eC.get (gn:=gn) (i+1) (Mb.tell p.m.flags) fl (by omega) (by rw[h.1];omega) (lw (B6 p.m (nN h3).1));rw[Nat.add_sub_cancel]at this;have e:eS [70] p=aV ((i+1:Nat):Int) ([71,69,84,32,70,32]++Mb.tell p.m.flags):=by
   unfold eS dg aV;rw[h1];simp[cL]
  rw[e];exact this
theorem j4{ks:List ax}{ms:List ap}{p:cw}(hp:p∈ar ks ms):∃(i:Nat) (k:ax),p.place=(i:Int)+1/\ks[i]?=some k/\aG k.uid ms=some p.m:=by
 unfold ar at hp;rw[List.mem_filterMap]at hp;obtain⟨⟨k,i⟩,h1,h2⟩:=hp;rw[List.mem_zipIdx_iff_getElem?]at h1
 cases hf:aG k.uid ms with
 |none=>simp[hf]at h2
 |some m=>
  simp[hf]at h2;subst h2;exact⟨i,k,rfl,by simpa using h1,hf⟩
theorem pB(ps:List cw):bV [70] ps=aN (ps.map (eS [70])):=by
 unfold bV aN;rw[List.flatMap_map]
theorem sM(gn:Bool){ms:List ap}{ks:List ax}{fl:List (List UInt8)}(h:fl.length=ks.length)(hl:ks.length<=99):eC gn (cI (ar ks ms)) fl fl:=by
 have:=eC.find (gn:=gn) ((ar ks ms).map λp=>p.place.toNat) fl (λn hn=>by
  obtain⟨p,hp,rfl⟩:=List.mem_map.1 hn;obtain⟨i,k,h1,h2,_⟩:=j4 hp;have:=(alK.1 h2).1;omega) (by have:=cA ks ms;simp;omega)
 have e:cI (ar ks ms)=[42,32,70,73,78,68]++((ar ks ms).map λp=>p.place.toNat).flatMap λ(p:Nat)=>[32]++Lib.itoa (p:Int):=by
  unfold cI;rw[List.flatMap_map];congr 1;have:∀(ps:List cw),(∀p∈ps,0<=p.place)->(ps.flatMap λp=>[32]++Lib.itoa p.place)=ps.flatMap λp=>[32]++Lib.itoa (p.place.toNat:Int):=by
   intro ps
   induction ps with
   |nil=>intro _;rfl
   |cons p r ih=>
    intro hp;rw[List.flatMap_cons,List.flatMap_cons,ih λx hx=>hp x (by simp[hx]),Int.toNat_of_nonneg (hp p (by simp))]
  exact this _ λp hp=>by
   obtain⟨i,k,h1,_⟩:=j4 hp;omega
 rw[e];exact this
theorem bw.sub{ks:List ax}{ms ms':List ap}{nx:Int}(h:bw ks ms nx)(hs:∀m∈ms',m.uid∈ms.map (·.uid)):bw ks ms' nx:=
 ⟨h.ris,h.lt,λm hm=>by
  obtain⟨x,h1,h2⟩:=List.mem_map.1 (hs m hm);rw[←h2];exact h.new x h1⟩
theorem bw.snoc{ks:List ax}{ms:List ap}{nx:Int}(h:bw ks ms nx)(m:ap)(hm:m.uid=nx):bw ks (ms++[m]) (nx+1):=
 ⟨h.ris,λu hu=>by have:=h.lt u hu;omega,λx hx=>by
  rcases List.mem_append.1 hx with hx|hx
  ·exact h.new x hx
  ·simp at hx;subst hx;exact Or.inr λu hu=>by have:=h.lt u hu;omega⟩
theorem sK(xs:List ap):∀(ms:List ap),(bA xs ms).map (·.uid)=ms.map (·.uid):=by
 induction xs with
 |nil=>intro ms;rfl
 |cons x r ih=>
  intro ms;have h:=ih (ci x.uid x.flags ms);unfold bA at h⊢;rw[List.foldl_cons,h];unfold ci;rw[List.map_map];refine List.map_congr_left λm _=>?_
  simp only[Function.comp]
  split<;>rfl
theorem bw.setFs{ks:List ax}{ms:List ap}{nx:Int}(h:bw ks ms nx)(xs:List ap):bw ks (bA xs ms) nx:=
 h.sub λm hm=>by rw[←sK xs ms];exact List.mem_map.2 ⟨m,hm,rfl⟩
theorem cv(u:Int)(hu:u=1∨u=2)(gn:Bool)(Cb:u=2->gn=true){ms:List ap}{nx:Int}(B9:aP ms nx){ks:List ax}(hv:bw ks ms nx){B8 fl:List (List UInt8)}(ha:cK ms fl ks){ls:List (List UInt8)}(Ca:dQ gn ls B8 fl)(Cd:ls.length<=200)(last:List UInt8)(Cc:∀b∈last,b≠10)(hl:last.length<=10):
  ∃B6 B5,bQ u ms (some ks)=some B5/\kA gn B8 B6 (aN ls++aS u ms (some ks)++(last++[10]))/\cK [] B6 B5/\bw B5 ms nx/\(∀(k:ax) (m:ap),k∈B5->aG k.uid ms=some m->k.told=m.flags)/\(u=2->B5.map (·.uid)=ms.map (·.uid)):=by
 have B7:¬u=0:=by omega
 obtain⟨B6,h1,h2,h3,h4,h5,h6⟩:=ul (u==2) gn (λe=>Cb (by simpa using e)) B9 hv ha;refine⟨B6,(bD (u==2) ms ks).1,by unfold bQ;rw[if_neg B7];rfl,⟨ls++(bD (u==2) ms ks).2.map (·.data.toList),last,?_,Ca.append h1,Cc,hl,?_⟩,h2,h3,h5,λe=>h6 (by simpa using e)⟩
 ·unfold aS;rw[if_neg B7,ni,uk]
 ·simp;omega
inductive j7:List UInt8->List (List UInt8)->List (List UInt8)->Prop
 |skip (l:List UInt8) (fl:List (List UInt8)) (h:∀a b c r,Mb.splitC 32 l=a::b::c::r->b≠[67,79,85,78,84]/\c≠[71,69,84]) (h10:∀b∈l,b≠10) (hl:l.length<=500):j7 l fl fl
 |count (n:Nat) (fl:List (List UInt8)) (h:n<=100):j7 ([42,32,67,79,85,78,84,32]++Lib.itoa (n:Int)) fl (fl++List.replicate n [63])
 |get (p:Nat) (f:List UInt8) (fl:List (List UInt8)) (h1:1<=p) (h2:p<=fl.length) (h3:p<=100) (hf:(∀b∈f,b≠32/\b≠10)/\f.length<=4):j7 (aV (p:Int) ([71,69,84,32,70,32]++f)) fl (fl.set (p-1) f)
inductive ee:List (List UInt8)->List (List UInt8)->List (List UInt8)->Prop
 |nil (fl:List (List UInt8)):ee [] fl fl
 |cons {l:List UInt8} {ls fl f1 f2:List (List UInt8)}:j7 l fl f1->ee ls f1 f2->ee (l::ls) fl f2
theorem ee.append{xs ys a b c:List (List UInt8)}(h:ee xs a b)(h2:ee ys b c):ee (xs++ys) a c:=by
 induction h with
 |nil=>exact h2
 |cons h1 _ ih=>exact .cons h1 (ih h2)
theorem j7.bytes{l:List UInt8}{fl f1:List (List UInt8)}(h:j7 l fl f1):l.length<=500/\∀b∈l,b≠10:=by
 cases h with
 |skip _ _ h h10 hl=>exact⟨hl,h10⟩
 |count n _ h=>
  have:=cD n h;refine⟨by simp;omega,λb hb=>?_⟩
  rcases List.mem_append.1 hb with hb|hb
  ·exact(by decide:∀x∈([42,32,67,79,85,78,84,32]:List UInt8),x≠10) b hb
  ·exact Mb.itoa_ne10 _ (by omega) b hb
 |get p f _ h1 h2 h3 hf=>
  have:=cD p h3;refine⟨by simp[aV];omega,fR p _ λb hb=>?_⟩
  rcases List.mem_append.1 hb with hb|hb
  ·exact(by decide:∀x∈([71,69,84,32,70,32]:List UInt8),x≠10) b hb
  ·exact(hf.1 b hb).2
theorem fQ:∀{ms:List ap},(ms.Pairwise λx y=>x.uid<y.uid)->∀m∈ms,aG m.uid ms=some m
 |[],_,m,hm=>by cases hm
 |x::r,h,m,hm=>by
  have h':=List.pairwise_cons.1 h;unfold aG;rw[List.find?_cons]
  rcases List.mem_cons.1 hm with e|e
  ·subst e;simp
  ·have:=h'.1 m e;have B5:(x.uid==m.uid)=false:=by simp;omega
   rw[B5];exact fQ h'.2 m e
theorem eY{ms:List ap}(h:ms.Pairwise λx y=>x.uid<y.uid):ak [] ms=ms.map λm=>⟨m.uid,m.flags⟩:=by
 rw[d9 ms [] h];unfold eR;rw[List.filter_eq_self.2 (by simp)]
 rfl
theorem pC{ms:List ap}(h:ms.Pairwise λx y=>x.uid<y.uid):ar (ak [] ms) ms=ms.zipIdx.map λp=>⟨(p.2:Int)+1,p.1⟩:=by
 rw[eY h];unfold ar;rw[List.zipIdx_map,List.filterMap_map];have:∀(l:List (ap×Nat)),(∀p∈l,p.1∈ms)->l.filterMap ((λp:ax×Nat=>(aG p.1.uid ms).map λm=>(⟨(p.2:Int)+1,m⟩:cw))∘Prod.map (λm:ap=>(⟨m.uid,m.flags⟩:ax)) id)=l.map λp=>⟨(p.2:Int)+1,p.1⟩:=by
  intro l
  induction l with
  |nil=>intro _;rfl
  |cons p r ih=>
   intro hp;have h1:=fQ h p.1 (hp p (by simp));rw[List.filterMap_cons,ih λx hx=>hp x (by simp[hx])];simp[h1]
 exact this _ λp hp=>List.fst_mem_of_mem_zipIdx hp
theorem pD{ms:List ap}(h:ms.Pairwise λx y=>x.uid<y.uid):aA 0 (ak [] ms).length (ar (ak [] ms) ms)=ms.zipIdx.map λp=>⟨(p.2:Int)+1,p.1⟩:=by
 rw[pC h];unfold aA;refine List.filter_eq_self.2 λq hq=>?_
 obtain⟨p,hp,rfl⟩:=List.mem_map.1 hq;have:=List.snd_lt_of_mem_zipIdx hp;rw[eY h];simp;omega
theorem kP(ms:List ap):∀(ks:List ax) (c:Nat),(∀k∈ks,∀m,aG k.uid ms=some m->k.told=m.flags)->dl ms ks c=[]
 |[],c,_=>rfl
 |k::r,c,h=>by
  rw[dl,kP ms r (c+1) λx hx=>h x (by simp[hx])]
  cases hf:aG k.uid ms with
  |none=>rfl
  |some m=>simp[h k (by simp) m hf]
theorem mD{ms:List ap}(h:ms.Pairwise λx y=>x.uid<y.uid):bD false ms (ak [] ms)=(ak [] ms,[]):=by
 have hk:ak (ak [] ms) ms=ak [] ms:=by
  rw[d9 ms (ak [] ms) h];have:eR (ak [] ms) ms=[]:=by
   unfold eR;rw[List.map_eq_nil_iff,List.filter_eq_nil_iff];intro m hm;rw[eY h];simp;exact⟨m,hm,rfl⟩
  rw[this,List.append_nil]
 have hn:∀k∈ak [] ms,∀m,aG k.uid ms=some m->k.told=m.flags:=λk hk m hf=>by
  rw[eY h]at hk;obtain⟨x,hx,rfl⟩:=List.mem_map.1 hk;rw[fQ h x hx]at hf;injection hf with hf
  subst hf
  rfl
 unfold bD;simp only[Bool.false_eq_true,if_false,hk,nG,Nat.lt_irrefl,List.nil_append,kP ms _ 0 hn];refine Prod.ext ?_ rfl;show(ak [] ms).map (dn ms)=ak [] ms;have:∀k∈ak [] ms,dn ms k=k:=λk B5=>by
  unfold dn
  cases hf:aG k.uid ms with
  |none=>rfl
  |some m=>have:=hn k B5 m hf;show(⟨k.uid,m.flags⟩:ax)=k;rw[←this]
 rw[List.map_congr_left this,List.map_id']
theorem kT{B7:List ap}(B6:∀m∈B7,Mb.flagsOk m.flags=true/\m.flags.length<=4):∀(ms:List ap) (B5:List (List UInt8)),(∀m∈ms,m∈B7)->B5.length+ms.length<=100->ee (((ms.zipIdx B5.length).map λp=>(⟨(p.2:Int)+1,p.1⟩:cw)).map (eS [70])) (B5++List.replicate ms.length [63]) (B5++ms.map λm=>Mb.tell m.flags)
 |[],B5,_,_=>by simpa using ee.nil B5
 |m::r,B5,hm,hl=>by
  have ih:=kT B6 r (B5++[Mb.tell m.flags]) (λx hx=>hm x (by simp[hx])) (by simp at hl⊢;omega);rw[List.zipIdx_cons,List.map_cons,List.map_cons];refine .cons (f1:=B5++Mb.tell m.flags::List.replicate r.length [63]) ?_ (by simpa using ih);have:=j7.get (B5.length+1) (Mb.tell m.flags) (B5++[63]::List.replicate r.length [63]) (by omega) (by simp) (by simp at hl;omega) (lw (B6 m (hm m (by simp))));rw[Nat.add_sub_cancel,rq]at this;have e:eS [70] ⟨(B5.length:Int)+1,m⟩=aV ((B5.length+1:Nat):Int) ([71,69,84,32,70,32]++Mb.tell m.flags):=by
   unfold eS dg aV;simp[cL]
  rw[e];simpa[List.replicate_succ]using this
def cY (ms:List ap):List (List UInt8):=ms.map λm=>Mb.tell m.flags
theorem qA{ms:List ap}{nx:Int}(B5:aP ms nx)(lb:List UInt8)(hb:lb=[98,32,79,75]∨lb=[98,32,78,79]):
  ∃ls,([42,32,69,80,79,67,72,32,49,10]++([42,32,78,69,88,84,32]++Lib.itoa nx++[10])++([42,32,67,79,85,78,84,32]++Lib.itoa ((ak [] ms).length:Int)++[10]))++[97,32,79,75,10]++bV [70] (aA 0 (ak [] ms).length (ar (ak [] ms) ms))++aS 1 ms (some (ak [] ms))++(lb++[10])++[99,32,79,75,10]=aN ls/\ee ls [] (cY ms)/\ls.length<=20:=by
 have B7:(ak [] ms).length=ms.length:=by rw[eY B5.ris];simp
 have hc:aS 1 ms (some (ak [] ms))=[]:=by
  unfold aS;rw[if_neg (by decide)];show bC (bD false ms (ak [] ms)).2=[];rw[mD B5.ris]
  rfl
 have h8:=B5.len;have Ca:=B5.lo;have Cb:=B5.hi;rw[hc,pD B5.ris,B7,pB];refine⟨[[42,32,69,80,79,67,72,32,49],[42,32,78,69,88,84,32]++Lib.itoa nx,[42,32,67,79,85,78,84,32]++Lib.itoa (ms.length:Int),[97,32,79,75]]++((ms.zipIdx).map λp=>(⟨(p.2:Int)+1,p.1⟩:cw)).map (eS [70])++[lb,[99,32,79,75]],?_,?_,by simp;omega⟩
 ·simp[aN]
 ·have B6:∀(l:List UInt8) (fl:List (List UInt8)),l=[97,32,79,75]∨l=[98,32,79,75]∨l=[98,32,78,79]∨l=[99,32,79,75]->j7 l fl fl:=λl fl h=>by
   refine .skip l fl (λa b c r e=>?_) ?_ ?_
   ·exfalso;have:(Mb.splitC 32 l).length=2:=by rcases h with h|h|h|h<;>subst h<;>decide
    rw[e]at this;simp at this
   ·rcases h with h|h|h|h<;>subst h<;>decide
   ·rcases h with h|h|h|h<;>subst h<;>decide
  have B9:=Mb.itoa_len 3 nx (by decide) (by omega) (by have:((10^3:Nat):Int)=1000:=rfl;omega);refine ee.append (.cons (.skip _ _ ?_ (by decide) (by decide)) (.cons (.skip _ _ ?_ ?_ (by simp;omega)) (.cons (.count ms.length [] (by omega)) (.cons (B6 _ _ (Or.inl rfl)) ?_)))) (.cons (B6 _ _ ?_) (.cons (B6 _ _ (Or.inr (Or.inr (Or.inr rfl)))) (.nil _)))
  ·intro a b c r e;rw[show Mb.splitC 32 [42,32,69,80,79,67,72,32,49]=[[42],[69,80,79,67,72],[49]]by decide]at e;injection e with e1 e;injection e with e2 e;injection e with e3 e
   subst e2 e3
   decide
  ·intro a b c r e;rw[show [42,32,78,69,88,84,32]++Lib.itoa nx=[42]++32::([78,69,88,84]++32::Lib.itoa nx)by simp,Mb.splitC_app 32 _ _ (by decide),Mb.splitC_app 32 _ _ (by decide),Mb.splitC_free 32 _ (Mb.itoa_ne32 _ (by omega))]at e;injection e with e1 e;injection e with e2 e;injection e with e3 e
   subst e2;refine⟨by decide,λh=>?_⟩;have B8:=Mb.itoa_digit nx (by omega) 71 (by rw[e3,h];decide)
   revert B8
   simp[Mb.digit]
  ·intro b hb
   rcases List.mem_append.1 hb with hb|hb
   ·exact(by decide:∀x∈([42,32,78,69,88,84,32]:List UInt8),x≠10) b hb
   ·exact Mb.itoa_ne10 _ (by omega) b hb
  ·exact kT B5.fl ms [] (λm hm=>hm) (by simp;omega)
  ·rcases hb with h|h
   ·exact Or.inr (Or.inl h)
   ·exact Or.inr (Or.inr (Or.inl h))
theorem yH{ms:List ap}{fl:List (List UInt8)}{ks:List ax}(hr:ms.Pairwise λx y=>x.uid<y.uid)(ha:cK [] fl ks)(ht:∀(k:ax) (m:ap),k∈ks->aG k.uid ms=some m->k.told=m.flags)(hu:ks.map (·.uid)=ms.map (·.uid)):
  fl.length=(cY ms).length/\∀(i:Nat) (f g:List UInt8),fl[i]?=some f->(cY ms)[i]?=some g->f=[63]∨f=g:=by
 have hl:ks.length=ms.length:=by have:=congrArg List.length hu;simpa using this
 refine⟨by rw[ha.1,hl];simp[cY],λi f g h1 h2=>?_⟩;unfold cY at h2;rw[List.getElem?_map]at h2
 cases hm:ms[i]? with
 |none=>rw[hm]at h2;cases h2
 |some m=>
  rw[hm]at h2;simp at h2;have hi:i<ks.length:=by rw[hl];exact(alK.1 hm).1
  have hk:ks[i]?=some ks[i]:=alI hi;have B5:ks[i].uid=m.uid:=by
   have:=congrArg (λl=>l[i]?) hu;simp only[List.getElem?_map,hk,hm,Option.map_some]at this;injection this
  rcases ha.2 i f ks[i] h1 hk with e|e|⟨m',e,_⟩
  ·exact Or.inl e
  ·refine Or.inr ?_;rw[e,←h2,ht ks[i] m (List.getElem_mem hi) (by rw[B5];exact fQ hr m (List.mem_of_getElem? hm))]
  ·cases e
end Go.Proofs.YtbeahecjbokjjaaGreatDoor
