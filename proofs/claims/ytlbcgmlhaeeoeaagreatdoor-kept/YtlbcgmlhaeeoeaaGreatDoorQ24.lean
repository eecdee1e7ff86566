import Derived.Test.YtlbcgmlhaeeoeaaGreatDoorQ23
set_option maxRecDepth 100000
set_option maxHeartbeats 16000000
namespace Go.Proofs.YtlbcgmlhaeeoeaaGreatDoor
open Go.RowKit Go.Lib
def mq:Option al->Array Value
 |some m=>#[.int .i64 m.key,.int .i64 m.uid,.string ⟨m.flags.toArray⟩,.string ⟨m.came.toArray⟩,.string ⟨m.text.toArray⟩]
 |none=>#[.int .i64 0,.int .i64 0,.string ⟨#[]⟩,.string ⟨#[]⟩,.string ⟨#[]⟩]
def bj (uid:Int) (ms:List al):Option al:=ms.find? λm=>m.uid==uid
theorem kL{w:World}{G:Nat}{name Cb:ByteArray}{ep nx:Int}{a:Option Addr}{cap:Nat}{ms:List al}(hF:bw w G name Cb ep nx (.slice a ms.length cap))(hm:dU w a ms)(hl:ms.length<=1000)(uid:Int):
  Calls Tryz.prog 250 #[.pointer (some ⟨G,0,none⟩),.int .i64 uid] w λe w'=>e=.returned (.tuple #[.agg (mq (bj uid ms)),.bool (bj uid ms).isSome])/\Below w.heap.size w w':=by
 have Cc:(w.alloc (.cells #[.int .i64 0,.int .i64 0,.string ⟨#[]⟩,.string ⟨#[]⟩,.string ⟨#[]⟩] 175)).heap[w.heap.size]?=some (.cells #[.int .i64 0,.int .i64 0,.string ⟨#[]⟩,.string ⟨#[]⟩,.string ⟨#[]⟩] 175 (0,0)):=alA w _;have Ca:Below w.heap.size w (w.alloc (.cells #[.int .i64 0,.int .i64 0,.string ⟨#[]⟩,.string ⟨#[]⟩,.string ⟨#[]⟩] 175)):=ax;have g4:=(Ca.cell (p:=⟨G,4,none⟩) hF.cells.2.2.2.2.2.2).trans hF.cells.2.2.2.2.1;have Cf:=hid Cc;have Cg:=hid Ca;have HM:=hid hm;clear hF hm Cc Ca;go_enter Tryz.func250,Tryz.ntmps250;go_wp2_with fail;go_loopw [13] (λi wr=>∃(k:Nat),k<=ms.length/\i=.int .i64 k/\Hid (∀y∈ms.take k,y.uid≠uid)/\Hid (wr.heap[w.heap.size]?=some (.cells #[.int .i64 0,.int .i64 0,.string ⟨#[]⟩,.string ⟨#[]⟩,.string ⟨#[]⟩] 175 (0,0)))/\Hid (Below w.heap.size w wr)) (λi _=>ms.length-(RowKit.intOf i).toNat)
 case atStart=>exact⟨0,alT _,rfl,by intro y hy;simp at hy,Cf,Cg⟩
 case round=>
  clear Cf Cg g4;obtain⟨k,hk,rfl,B6,hv,B4⟩:=hrel;have B7:w.heap.size<wr.heap.size:=(alJ.1 hv.out).1
  by_cases B5:k<ms.length
  ·obtain⟨b,off,ha,hb,hc⟩:∃b off,a=some ⟨b,off,none⟩/\b<w.heap.size/\ii w b off ms:=by
    rcases HM.out with hz|hz
    ·rw[hz]at B5;simp at B5
    ·exact hz
   subst ha;obtain⟨c0,c1,c2,c3,c4⟩:=hc k ms[k] (by simp[B5]);have d0:=(B4.out.cell (p:=⟨b,off+k*5,none⟩) hb).trans c0;have d1:=(B4.out.cell (p:=⟨b,off+k*5+1,none⟩) hb).trans c1;have d2:=(B4.out.cell (p:=⟨b,off+k*5+2,none⟩) hb).trans c2;have d3:=(B4.out.cell (p:=⟨b,off+k*5+3,none⟩) hb).trans c3;have d4:=(B4.out.cell (p:=⟨b,off+k*5+4,none⟩) hb).trans c4;have hI:∀w,(Instr.indexAt 122 (.slice (some ⟨b,off,none⟩) ms.length cap) (.int .i64 (k:Int))).run Tryz.prog w=.ok (.pointer (some ⟨b,off+k*5,none⟩)) w:=λw=>cS B5
   have HT:Hid (ms.take (k+1)=ms.take k++[ms[k]]):=alL B5;have HX:Hid (ms[k]?=some ms[k]):=by unfold Hid;simp[B5]
   have Ck:Hid (mq (some ms[k])=#[.int .i64 ms[k].key,.int .i64 ms[k].uid,.string ⟨ms[k].flags.toArray⟩,.string ⟨ms[k].came.toArray⟩,.string ⟨ms[k].text.toArray⟩]):=rfl;have Cl:w.heap.size≠wr.heap.size:=by omega
   clear c0 c1 c2 c3 c4 hc
   by_cases he:ms[k].uid=uid
   ·have B8:Hid (bj uid ms=some ms[k]):=by
     unfold Hid bj;rw[List.find?_eq_some_iff_getElem];refine⟨by simpa using he,k,B5,rfl,λj hj=>?_⟩;have:=B6.out ms[j] (List.mem_take_iff_getElem.2 ⟨j,by omega,rfl⟩);simpa using this
    have Cj:(ms[k].uid==uid)=true:=by simpa using he
    have HE:=hid he;clear he;have e0:=ae (o:=0) hv.out rfl;have e1:=ae (o:=1) hv.out rfl;have e2:=ae (o:=2) hv.out rfl;have e3:=ae (o:=3) hv.out rfl;have e4:=ae (o:=4) hv.out rfl;have z0:=aD hv.out 0;have z1:=aD hv.out 1;have z2:=aD hv.out 2;have z3:=aD hv.out 3;have z4:=aD hv.out 4;generalize(⟨ms[k].flags.toArray⟩:ByteArray)=b2 at*;generalize(⟨ms[k].came.toArray⟩:ByteArray)=b3 at*;generalize(⟨ms[k].text.toArray⟩:ByteArray)=b4 at*;generalize Cd:ms[k].uid=mu at*;generalize Ce:ms[k].key=mk at*;have Cm:=hid Cd;have Cn:=hid Ce;clear Cd Ce;go_wp2_with fail;have B9:=ag (o:=4) (.string b4) (ag (o:=3) (.string b3) (ag (o:=2) (.string b2) (ag (o:=1) (.int .i64 mu) (ag (o:=0) (.int .i64 mk) hv.out))));have B3:Below w.heap.size w ((((((wr).setCell ⟨w.heap.size,0,none⟩ (.int .i64 mk)).setCell ⟨w.heap.size,1,none⟩ (.int .i64 mu)).setCell ⟨w.heap.size,2,none⟩ (.string b2)).setCell ⟨w.heap.size,3,none⟩ (.string b3)).setCell ⟨w.heap.size,4,none⟩ (.string b4)):=((((B4.out.setCell (alU) _).setCell (alU) _).setCell (alU) _).setCell (alU) _).setCell (alU) _;have Ch:((((((wr).setCell ⟨w.heap.size,0,none⟩ (.int .i64 mk)).setCell ⟨w.heap.size,1,none⟩ (.int .i64 mu)).setCell ⟨w.heap.size,2,none⟩ (.string b2)).setCell ⟨w.heap.size,3,none⟩ (.string b3)).setCell ⟨w.heap.size,4,none⟩ (.string b4)).heap.size=wr.heap.size:=by simp
    clear e0 z0 e1 z1 e2 z2 e3 z3 e4 z4;generalize((((((wr).setCell ⟨w.heap.size,0,none⟩ (.int .i64 mk)).setCell ⟨w.heap.size,1,none⟩ (.int .i64 mu)).setCell ⟨w.heap.size,2,none⟩ (.string b2)).setCell ⟨w.heap.size,3,none⟩ (.string b3)).setCell ⟨w.heap.size,4,none⟩ (.string b4))=w6 at*;have B1:(w6.alloc (.cells #[.int .i64 mk,.int .i64 mu,.string b2,.string b3,.string b4] 175)).heap[w.heap.size]?=some (.cells #[.int .i64 mk,.int .i64 mu,.string b2,.string b3,.string b4] 175 (0,0)):=(alB w6 _ (by omega)).trans (by simpa using B9);have b0:=ae (o:=0) B1 rfl;have b1:=ae (o:=1) B1 rfl;have b2':=ae (o:=2) B1 rfl;have b3':=ae (o:=3) B1 rfl;have b4':=ae (o:=4) B1 rfl;refine bodyPost_ret (v:=.tuple #[.agg #[.int .i64 mk,.int .i64 mu,.string b2,.string b3,.string b4],.bool true]) (by simp[results,Tryz.results250,go_sem,b0,b1,b2',b3',b4']) rfl ⟨?_,B3.alloc B3.size _⟩;rw[B8.out,Ck.out]
    rfl
   ·have Cj:(ms[k].uid==uid)=false:=by simpa using he
    have HE:=hid he;clear he;generalize(⟨ms[k].flags.toArray⟩:ByteArray)=b2 at*;generalize(⟨ms[k].came.toArray⟩:ByteArray)=b3 at*;generalize(⟨ms[k].text.toArray⟩:ByteArray)=b4 at*;go_wp2_with fail;refine⟨⟨k+1,by omega,by simp,?_,(alB wr _ B7).trans hv.out,B4.out.alloc B4.out.size _⟩,by simp[RowKit.intOf];omega⟩;unfold Hid;rw[HT.out];intro y hy
    rcases List.mem_append.1 hy with hy|hy
    ·exact B6.out y hy
    ·simp at hy;rw[hy];exact HE.out
  ·have B8:Hid (bj uid ms=none):=by
    unfold Hid bj;rw[List.find?_eq_none];intro x hx;have Ci:ms.take k=ms:=alO (by omega);have:=B6.out x (by rw[Ci];exact hx);simpa using this
   have e0:=ae (o:=0) hv.out rfl;have e1:=ae (o:=1) hv.out rfl;have e2:=ae (o:=2) hv.out rfl;have e3:=ae (o:=3) hv.out rfl;have e4:=ae (o:=4) hv.out rfl;have z0:=aD hv.out 0;have z1:=aD hv.out 1;have z2:=aD hv.out 2;have z3:=aD hv.out 3;have z4:=aD hv.out 4;go_wp2_with fail;have B9:=ag (o:=4) (.string ⟨#[]⟩) (ag (o:=3) (.string ⟨#[]⟩) (ag (o:=2) (.string ⟨#[]⟩) (ag (o:=1) (.int .i64 0) (ag (o:=0) (.int .i64 0) hv.out))));have B3:Below w.heap.size w ((((((wr).setCell ⟨w.heap.size,0,none⟩ (.int .i64 0)).setCell ⟨w.heap.size,1,none⟩ (.int .i64 0)).setCell ⟨w.heap.size,2,none⟩ (.string ⟨#[]⟩)).setCell ⟨w.heap.size,3,none⟩ (.string ⟨#[]⟩)).setCell ⟨w.heap.size,4,none⟩ (.string ⟨#[]⟩)):=((((B4.out.setCell (alU) _).setCell (alU) _).setCell (alU) _).setCell (alU) _).setCell (alU) _;have Ch:((((((wr).setCell ⟨w.heap.size,0,none⟩ (.int .i64 0)).setCell ⟨w.heap.size,1,none⟩ (.int .i64 0)).setCell ⟨w.heap.size,2,none⟩ (.string ⟨#[]⟩)).setCell ⟨w.heap.size,3,none⟩ (.string ⟨#[]⟩)).setCell ⟨w.heap.size,4,none⟩ (.string ⟨#[]⟩)).heap.size=wr.heap.size:=by simp
   clear e0 z0 e1 z1 e2 z2 e3 z3 e4 z4;generalize((((((wr).setCell ⟨w.heap.size,0,none⟩ (.int .i64 0)).setCell ⟨w.heap.size,1,none⟩ (.int .i64 0)).setCell ⟨w.heap.size,2,none⟩ (.string ⟨#[]⟩)).setCell ⟨w.heap.size,3,none⟩ (.string ⟨#[]⟩)).setCell ⟨w.heap.size,4,none⟩ (.string ⟨#[]⟩))=w6 at*;have B1:w6.heap[w.heap.size]?=some (.cells #[.int .i64 0,.int .i64 0,.string ⟨#[]⟩,.string ⟨#[]⟩,.string ⟨#[]⟩] 175 (0,0)):=by simpa using B9
   have b0:=ae (o:=0) B1 rfl;have b1:=ae (o:=1) B1 rfl;have b2':=ae (o:=2) B1 rfl;have b3':=ae (o:=3) B1 rfl;have b4':=ae (o:=4) B1 rfl;refine bodyPost_ret (v:=.tuple #[.agg #[.int .i64 0,.int .i64 0,.string ⟨#[]⟩,.string ⟨#[]⟩,.string ⟨#[]⟩],.bool false]) (by simp[results,Tryz.results250,go_sem,b0,b1,b2',b3',b4']) rfl ⟨?_,B3⟩;rw[B8.out]
   rfl
section
variable {P:Program} {ops:Array Oper} {Q:Exit->Act->World->Prop} {S:World->Prop} {last:Nat} {i:Nat} {fuel:Nat} {listed:Array Bool} {a:Act} {w:World} {oi:Oper} {v:Value} {d:Option Tmp}
def ww (P:Program) (ops:Array Oper) (Q:Exit->Act->World->Prop) (S:World->Prop) (last fuel:Nat) (listed:Array Bool) (a:Act) (w:World) (i:Nat):Prop:=wpOp P ops Q i (λa' w'=>(i≠last->S w')/\bB P ops Q S last fuel (listed.setIfInBounds i true) a' w') a w
theorem zv{j:Nat}(hr:Region.ready .any ops listed=[i,j])(h1:ww P ops Q S last fuel listed a w i)(h2:ww P ops Q S last fuel listed a w j):bB P ops Q S last (fuel+1) listed a w:=by
 refine⟨λh0=>(by rw[hr]at h0;cases h0),λk hk=>?_⟩;rw[hr]at hk
 rcases List.mem_cons.1 hk with rfl|hk
 ·exact h1
 ·rcases List.mem_cons.1 hk with rfl|hk
  ·exact h2
  ·cases hk
theorem yO{w':World}(hi:ops[i]?=some oi)(hd:oi.dst=d)(B1:oi.guard=none)(he:(execOp a.eval oi).run P w=.ok (.value v) w')(hS:i≠last->S w')
  (h:bB P ops Q S last fuel (listed.setIfInBounds i true) (a.put d v) w'):ww P ops Q S last fuel listed a w i:=by
 subst hd;exact wpOp_step hi (λK' hK=>tq B1 he (hK _ _ ⟨hS,h⟩))
theorem wv{f:FuncId}{fn:Func}{c:Code}{xs:Array Operand}{ts:Array TypeId}{args:Array Value}{R:Ending->World->Prop}(hi:ops[i]?=some oi)(hd:oi.dst=d)(B3:oi.guard=none)
  (ho:oi.op=.call {callee:=.value (.func f),args:=xs,argTypes:=ts}) (hf:P.funcs[f]?=some fn) (B1:(fn.name== "runtime.NumGoroutine")=false) (hb:fn.body=some c) (ha:xs.map a.eval=args) (hc:Calls P f args w R)
  (h:∀e w',R e w'->∃v,e=.returned v/\(i≠last->S w')/\bB P ops Q S last fuel (listed.setIfInBounds i true) (a.put d v) w'):ww P ops Q S last fuel listed a w i:=by
 subst hd;exact wpOp_step hi (λK' hK=>rb B3 f fn c hf B1 hb xs ts ho args ha hc (λe w' hR=>let ⟨v,h1,h2,h3⟩:=h e w' hR;⟨v,h1,hK _ _ ⟨h2,h3⟩⟩))
theorem kV{id:Nat}(R:Act->Act->World->Prop)(h1:∀Q':Exit->Act->World->Prop,(∀a' w',R a a' w'->Q' .normal a' w')->(Code.region id ops true).wp P Q' a w)(h2:∀a' w',R a a' w'->Q .normal a' w'):(Code.region id ops true).wp P Q a w:=h1 Q h2
end
structure di where
 place:Int
 m:al
def dC (xs:List di):List Value:=xs.flatMap λx=>[.int .i64 x.place,.int .i64 x.m.key,.int .i64 x.m.uid,.string ⟨x.m.flags.toArray⟩,.string ⟨x.m.came.toArray⟩,.string ⟨x.m.text.toArray⟩]
theorem md(xs:List di)(x:di):dC (xs++[x])=dC xs++[.int .i64 x.place,.int .i64 x.m.key,.int .i64 x.m.uid,.string ⟨x.m.flags.toArray⟩,.string ⟨x.m.came.toArray⟩,.string ⟨x.m.text.toArray⟩]:=by simp[dC]
theorem nQ:∀(xs:List di) (k:Nat) (x:di),xs[k]?=some x->(dC xs)[k*6]?=some (.int .i64 x.place)/\(dC xs)[k*6+1]?=some (.int .i64 x.m.key)/\(dC xs)[k*6+2]?=some (.int .i64 x.m.uid)/\(dC xs)[k*6+3]?=some (.string ⟨x.m.flags.toArray⟩)/\(dC xs)[k*6+4]?=some (.string ⟨x.m.came.toArray⟩)/\(dC xs)[k*6+5]?=some (.string ⟨x.m.text.toArray⟩)
 |[],k,x,h=>by simp at h
 |y::r,0,x,h=>by simp at h;subst h;simp[dC]
 |y::r,k+1,x,h=>by
  have:=nQ r k x (by simpa using h);simp only[dC]at this;simp[dC,this,Nat.add_mul]
def un (w:World) (b off:Nat) (xs:List di):Prop:=∀(i:Nat) (x:di),xs[i]?=some x->w.cell? ⟨b,off+i*6,none⟩=some (.int .i64 x.place)/\w.cell? ⟨b,off+i*6+1,none⟩=some (.int .i64 x.m.key)/\w.cell? ⟨b,off+i*6+2,none⟩=some (.int .i64 x.m.uid)/\w.cell? ⟨b,off+i*6+3,none⟩=some (.string ⟨x.m.flags.toArray⟩)/\w.cell? ⟨b,off+i*6+4,none⟩=some (.string ⟨x.m.came.toArray⟩)/\w.cell? ⟨b,off+i*6+5,none⟩=some (.string ⟨x.m.text.toArray⟩)
def zQ (w:World) (a:Option Addr) (xs:List di):Prop:=(xs=[])∨∃b off,a=some ⟨b,off,none⟩/\b<w.heap.size/\un w b off xs
theorem zQ.below{w w':World}{a:Option Addr}{xs:List di}(h:zQ w a xs)(hb:Below w.heap.size w w'):zQ w' a xs:=by
 rcases h with h|⟨b,off,h1,h2,h3⟩
 ·exact Or.inl h
 ·refine Or.inr ⟨b,off,h1,alH h2 hb.size,λi x hx=>?_⟩;obtain⟨c0,c1,c2,c3,c4,c5⟩:=h3 i x hx;exact⟨(hb.cell (p:=⟨b,off+i*6,none⟩) h2).trans c0,(hb.cell (p:=⟨b,off+i*6+1,none⟩) h2).trans c1,(hb.cell (p:=⟨b,off+i*6+2,none⟩) h2).trans c2,(hb.cell (p:=⟨b,off+i*6+3,none⟩) h2).trans c3,(hb.cell (p:=⟨b,off+i*6+4,none⟩) h2).trans c4,(hb.cell (p:=⟨b,off+i*6+5,none⟩) h2).trans c5⟩
def pZ (w:World) (B:Nat) (v:Value) (xs:List di):Prop:=w.ownsRow B 335 6 v xs.length (dC xs)
theorem pZ.form{w:World}{B:Nat}{v:Value}{xs:List di}(h:pZ w B v xs):∃a cap,v=.slice a xs.length cap/\xs.length<=cap/\zQ w a xs/\∀b off,a=some ⟨b,off,none⟩->B<=b/\off=0:=by
 rcases h.2 with⟨h1,h2⟩|⟨g,c,B1,h1,h2,h3,h4,_⟩
 ·have hx:xs=[]:=alN (by omega);subst hx;exact⟨none,0,h1,alU,Or.inl rfl,λb off hb=>by cases hb⟩
 ·subst h1;refine⟨some ⟨g,0,none⟩,c,rfl,by omega,Or.inr ⟨g,0,rfl,(alJ.1 h3).1,?_⟩,λb off hb=>by injection hb with hb;injection hb with hb hb2;exact⟨by omega,hb2.symm⟩⟩;intro i x hx;rw[Nat.zero_add];obtain⟨c0,c1,c2,c3,c4,c5⟩:=nQ _ _ _ hx;exact⟨aE h c0,aE h c1,aE h c2,aE h c3,aE h c4,aE h c5⟩
theorem ma{g off n cap k:Nat}{w:World}(hk:k<n):(Instr.indexAt 331 (.slice (some ⟨g,off,none⟩) n cap) (.int .i64 (k:Int))).run Tryz.prog w=.ok (.pointer (some ⟨g,off+k*6,none⟩)) w:=by
 have h1:¬(k:Int)<0:=by omega
 have h2:((k:Int)).toNat=k:=by omega
 go_simp
theorem mN:(Tryz.prog.info? 335).map (λi=>(i.zero,i.size,i.bytes))=some (some (.agg #[.int .i64 0,.int .i64 0,.int .i64 0,.string ByteArray.empty,.string ByteArray.empty,.string ByteArray.empty]),6,72):=by kernel_rfl
def aG (ks:List aQ) (ms:List al):List di:=ks.zipIdx.filterMap λp=>(bj p.1.uid ms).map λm=>⟨(p.2:Int)+1,m⟩
theorem qR(ks:List aQ)(x:aQ)(ms:List al):aG (ks++[x]) ms=aG ks ms++((bj x.uid ms).map λm=>(⟨(ks.length:Int)+1,m⟩:di)).toList:=by
 unfold aG;rw[List.zipIdx_append,List.filterMap_append]
 cases h:bj x.uid ms<;>simp[h]
theorem ee(ks:List aQ)(ms:List al):(aG ks ms).length<=ks.length:=by
 unfold aG;refine alS (List.length_filterMap_le _ _) (by simp)
theorem pr(o:Option al):∃(k u:Int) (b2 b3 b4:ByteArray),Hid (#[.int .i64 k,.int .i64 u,.string b2,.string b3,.string b4]=mq o):=by
 cases o with
 |some m=>exact⟨_,_,_,_,_,rfl⟩
 |none=>exact⟨_,_,_,_,_,rfl⟩
theorem kK{w:World}:(Instr.alloc 175 true (.tuple #[])).run Tryz.prog w=.ok (.pointer (some ⟨w.heap.size,0,none⟩)) (w.alloc (.cells #[.int .i64 0,.int .i64 0,.string ⟨#[]⟩,.string ⟨#[]⟩,.string ⟨#[]⟩] 175)):=by
 go_simp
theorem kJ{w:World}{X:Nat}{u0 u1 u2 u3 u4:Value}{t:TypeId}(h:w.heap[X]?=some (.cells #[u0,u1,u2,u3,u4] t (0,0)))(k u:Int)(b2 b3 b4:ByteArray):
  (Instr.storeAt 175 (.pointer (some ⟨X,0,none⟩)) (.agg #[.int .i64 k,.int .i64 u,.string b2,.string b3,.string b4])).run Tryz.prog w=.ok () (((((w.setCell ⟨X,0,none⟩ (.int .i64 k)).setCell ⟨X,1,none⟩ (.int .i64 u)).setCell ⟨X,2,none⟩ (.string b2)).setCell ⟨X,3,none⟩ (.string b3)).setCell ⟨X,4,none⟩ (.string b4)):=by
 have e0:=ae (o:=0) h rfl;have e1:=ae (o:=1) h rfl;have e2:=ae (o:=2) h rfl;have e3:=ae (o:=3) h rfl;have e4:=ae (o:=4) h rfl;have z0:=aD h 0;have z1:=aD h 1;have z2:=aD h 2;have z3:=aD h 3;have z4:=aD h 4;go_simp
theorem eE{w:World}{X B:Nat}{u0 u1 u2 u3 u4:Value}{t:TypeId}(h:w.heap[X]?=some (.cells #[u0,u1,u2,u3,u4] t (0,0))){w0:World}(hb:Below B w0 w)(hX:B<=X)(v0 v1 v2 v3 v4:Value):
  (((((w.setCell ⟨X,0,none⟩ v0).setCell ⟨X,1,none⟩ v1).setCell ⟨X,2,none⟩ v2).setCell ⟨X,3,none⟩ v3).setCell ⟨X,4,none⟩ v4).heap[X]?=some (.cells #[v0,v1,v2,v3,v4] t (0,0))/\Below B w0 (((((w.setCell ⟨X,0,none⟩ v0).setCell ⟨X,1,none⟩ v1).setCell ⟨X,2,none⟩ v2).setCell ⟨X,3,none⟩ v3).setCell ⟨X,4,none⟩ v4):=
 ⟨by simpa using ag (o:=4) v4 (ag (o:=3) v3 (ag (o:=2) v2 (ag (o:=1) v1 (ag (o:=0) v0 h)))),((((hb.setCell hX _).setCell hX _).setCell hX _).setCell hX _).setCell hX _⟩
theorem iL{w:World}{V K X:Nat}{x y v0 v1 v2 v3 v4:Value}(h1:V<X)(h2:K<X)(h:w.cell? ⟨V,0,none⟩=some x/\w.cell? ⟨K,0,none⟩=some y):
  (((((w.setCell ⟨X,0,none⟩ v0).setCell ⟨X,1,none⟩ v1).setCell ⟨X,2,none⟩ v2).setCell ⟨X,3,none⟩ v3).setCell ⟨X,4,none⟩ v4).cell? ⟨V,0,none⟩=some x/\(((((w.setCell ⟨X,0,none⟩ v0).setCell ⟨X,1,none⟩ v1).setCell ⟨X,2,none⟩ v2).setCell ⟨X,3,none⟩ v3).setCell ⟨X,4,none⟩ v4).cell? ⟨K,0,none⟩=some y:=by
 have hc:∀(W:World) (o:Nat) (v:Value) (b:Nat) (x:Value),b<X->W.cell? ⟨b,0,none⟩=some x->(W.setCell ⟨X,o,none⟩ v).cell? ⟨b,0,none⟩=some x:=λW o v b x hb h=>(((Below.refl X W).setCell (show X<=(⟨X,o,none⟩:Addr).block from Nat.le_refl X) v).cell (p:=⟨b,0,none⟩) hb).trans h
 exact⟨hc _ _ _ _ _ h1 (hc _ _ _ _ _ h1 (hc _ _ _ _ _ h1 (hc _ _ _ _ _ h1 (hc _ _ _ _ _ h1 h.1)))),hc _ _ _ _ _ h2 (hc _ _ _ _ _ h2 (hc _ _ _ _ _ h2 (hc _ _ _ _ _ h2 (hc _ _ _ _ _ h2 h.2))))⟩
theorem iP{w:World}{V K:Nat}{x y:Value}{o:Obj}(h1:V<w.heap.size)(h2:K<w.heap.size)(h:w.cell? ⟨V,0,none⟩=some x/\w.cell? ⟨K,0,none⟩=some y):(w.alloc o).cell? ⟨V,0,none⟩=some x/\(w.alloc o).cell? ⟨K,0,none⟩=some y:=
 ⟨(aC ⟨V,0,none⟩ (alB w _ h1)).trans h.1,(aC ⟨K,0,none⟩ (alB w _ h2)).trans h.2⟩
theorem q8{w:World}{V G:Nat}{look:Bool}{name Cd:ByteArray}{ep nx:Int}{va a:Option Addr}{vc cap:Nat}{ks:List aQ}{ms:List al}(h:cD w V G look (.slice va ks.length vc))(hk:oO w va ks)(hF:bw w G name Cd ep nx (.slice a ms.length cap))(hm:dU w a ms)(hl:ms.length<=1000)(CP:ks.length<=1000):
  Calls Tryz.prog 246 #[.pointer (some ⟨V,0,none⟩)] w λe w'=>(∃v,e=.returned v/\pZ w' w.heap.size v (aG ks ms))/\Below w.heap.size w w':=by
 obtain⟨i0,hi,CB,CA,Cz⟩:=alQ mN;have k2:=h.cells.2.2.1;have CE:=h.cells.2.2.2.2;have CG:=hF.cells.2.2.2.2.2.2;have HV:=hid h;have HK:=hid hk;have HF:=hid hF;have HM:=hid hm;clear h hk hF hm;go_enter Tryz.func246,Tryz.ntmps246;go_wp2_with fail;go_loopw [3,13] (λvo i wr=>∃(k n:Nat) (ys:List di),k<=ks.length/\n<=k/\i=.int .i64 k/\Hid (ys.length=n/\aG (ks.take k) ms=ys)/\Hid (wr.ownsRow w.heap.size 335 6 vo n (dC ys))/\Hid (Below w.heap.size w wr)) (λ_ i _=>ks.length-(RowKit.intOf i).toNat)
 case atStart=>exact⟨0,0,[],alT _,alT _,rfl,⟨rfl,rfl⟩,alG _ _ _ _,Below.refl _ _⟩
 case round=>
  obtain⟨k,n,ys,hk,hn,rfl,HY,B4,B5⟩:=hrel;have CM:=B5.out.size
  by_cases B9:k<ks.length
  ·obtain⟨b,off,ha,hb,hc⟩:∃b off,va=some ⟨b,off,none⟩/\b<w.heap.size/\wL w b off ks:=by
    rcases HK.out with hz|hz
    ·rw[hz]at B9;simp at B9
    ·exact hz
   subst ha;obtain⟨c0,c1⟩:=hc k ks[k] (by simp[B9]);have d0:=(B5.out.cell (p:=⟨b,off+k*2,none⟩) hb).trans c0;have d1:=(B5.out.cell (p:=⟨b,off+k*2+1,none⟩) hb).trans c1;have hI:∀w,(Instr.indexAt 337 (.slice (some ⟨b,off,none⟩) ks.length vc) (.int .i64 (k:Int))).run Tryz.prog w=.ok (.pointer (some ⟨b,off+k*2,none⟩)) w:=λw=>mw B9
   have HT:Hid (aG (ks.take (k+1)) ms=aG (ks.take k) ms++((bj ks[k].uid ms).map λm=>(⟨(k:Int)+1,m⟩:di)).toList):=by
    unfold Hid;rw[alL B9,qR];rw[show(ks.take k).length=k by simp;omega]
   generalize(⟨ks[k].told.toArray⟩:ByteArray)=b2 at*;generalize ks[k].uid=uid at*;have Cw:(wr.alloc (.cells #[.int .i64 uid,.string b2] 346)).heap[wr.heap.size]?=some (.cells #[.int .i64 uid,.string b2] 346 (0,0)):=alA wr _;have Cy:Below w.heap.size w (wr.alloc (.cells #[.int .i64 uid,.string b2] 346)):=B5.out.alloc B5.out.size _;have Cu:=B4.out.alloc (.cells #[.int .i64 uid,.string b2] 346);have Cr:wr.heap.size<(wr.alloc (.cells #[.int .i64 uid,.string b2] 346)).heap.size:=by simp
   have CK:=hid Cw;have Ce:=hid Cy;have CJ:=hid Cu;have B6:=hid Cr;clear c0 c1 hc Cw Cy Cu Cr B4;go_wp2_with fail;generalize(wr.alloc (.cells #[.int .i64 uid,.string b2] 346))=w1 at*;generalize wr.heap.size=K at*;clear d0 d1 hI k2;obtain⟨mk,mu,c2,c3,c4,Ch⟩:=pr (bj uid ms);have Cq:cD w1 V G look (.slice (some ⟨b,off,none⟩) ks.length vc):=(Ce.out.block V CE).trans HV.out;have Cj:bw w1 G name Cd ep nx (.slice a ms.length cap):=(Ce.out.block G CG).trans HF.out;have Cv:dU w1 a ms:=HM.out.below Ce.out;generalize Co:(bj uid ms).isSome=fb;have B7:=hid Co;clear Co;refine kV (λa a' w'=>∃X,w1.heap.size<=X/\a'=((((((((((((a.put (some 19) (.pointer (some ⟨V,0,none⟩))).put (some 20) (.pointer (some ⟨V,0,none⟩))).put (some 21) (.pointer (some ⟨V,0,none⟩))).put (some 22) (.pointer (some ⟨G,0,none⟩))).put (some 23) (.pointer (some ⟨K,0,none⟩))).put (some 24) (.int .i64 uid)).put (some 25) (.tuple #[.agg #[.int .i64 mk,.int .i64 mu,.string c2,.string c3,.string c4],.bool fb])).put (some 18) (.tuple #[.agg #[.int .i64 mk,.int .i64 mu,.string c2,.string c3,.string c4],.bool fb])).put (some 26) (.agg #[.int .i64 mk,.int .i64 mu,.string c2,.string c3,.string c4])).put (some 27) (.bool fb)).put (some 6) (.pointer (some ⟨X,0,none⟩))).put (some 7) (.bool fb))/\Hid (w'.heap[X]?=some (.cells #[.int .i64 mk,.int .i64 mu,.string c2,.string c3,.string c4] 175 (0,0)))/\Hid (Below w1.heap.size w1 w')) ?_ ?_
   ·intro Q0 Cs;have s0:w1.drew.cell? ⟨V,0,none⟩=some (.pointer (some ⟨G,0,none⟩)):=Cq.cells.1;have s1:w1.drew.cell? ⟨K,0,none⟩=some (.int .i64 uid):=ae (o:=0) CK.out rfl;have hV1':=Cq.cells.2.2.2.2;have hG1':=Cj.cells.2.2.2.2.2.2;have CF:=B6.out;refine aA 12 (λw':World=>w'.cell? ⟨V,0,none⟩=some (.pointer (some ⟨G,0,none⟩))/\w'.cell? ⟨K,0,none⟩=some (.int .i64 uid)) 13 rfl (by kernel_rfl) ⟨s0,s1⟩ (λa' Q hA hQ hP hS=>?_);have z:a'.tmps.size=38:=by rw[hA.out];rfl
    have e0:a'.eval (.tmp 0)=Value.pointer (some ⟨V,0,none⟩):=by rw[hA.out];rfl
    have e5:a'.eval (.tmp 5)=Value.pointer (some ⟨K,0,none⟩):=by rw[hA.out];rfl
    refine tkA 0 (some 19) rfl rfl hP (λwx hw=>ah rfl e0) hS ?_;refine tkA 1 (some 20) rfl rfl hP (λwx hw=>aS rfl (evz z)) hS ?_;refine tkA 2 (some 21) rfl rfl hP (λwx hw=>aj ⟨V,0,none⟩ rfl (evz (szq z))) hS ?_;refine tkA 3 (some 22) rfl rfl hP (λwx hw=>aq rfl (evz (sz2 z)) (aH hw.1)) hS ?_;refine tkA 4 (some 23) rfl rfl hP (λwx hw=>aj ⟨K,0,none⟩ rfl (ev4 e5)) hS ?_;refine tkA 5 (some 24) rfl rfl hP (λwx hw=>aq rfl (evz (sz4 z)) (aH hw.2)) hS ?_;refine zv (i:=6) (j:=10) (by kernel_rfl) ?_ ?_
    ·refine wv (i:=6) (d:=some 25) rfl rfl rfl rfl Tryz.func250 (by kernel_rfl) rfl (fm (ev2 (evz (sz2 (szq z)))) (evz (sz4 (szq z)))) (kL (w:=w1.drew) Cj Cv hl uid) ?_;rintro e w3 ⟨rfl,Cg⟩;rw[←Ch.out,B7.out];have hb3':Below w1.heap.size w1 w3:=(Below.refl _ w1).drew.trans Cg;have hS:w3.cell? ⟨V,0,none⟩=some (.pointer (some ⟨G,0,none⟩))/\w3.cell? ⟨K,0,none⟩=some (.int .i64 uid):=⟨(hb3'.cell (p:=⟨V,0,none⟩) hV1').trans s0,(hb3'.cell (p:=⟨K,0,none⟩) B6.out).trans s1⟩;refine⟨_,rfl,λ_=>hS,?_⟩;refine tkA 7 (some 18) rfl rfl hP (λwx hw=>ah rfl (evz (sz4 (sz2 z)))) hS ?_;refine tkA 8 (some 26) rfl rfl hP (λwx hw=>cK (v:=.agg #[.int .i64 mk,.int .i64 mu,.string c2,.string c3,.string c4]) rfl (evz (sz4 (sz2 (szq z)))) (by go_simp)) hS ?_;refine tkA 9 (some 27) rfl rfl hP (λwx hw=>cK (v:=.bool fb) rfl (ev1 (evz (sz4 (sz2 (szq z))))) (by go_simp)) hS ?_;have Cb:V<w3.heap.size:=alH hV1' hb3'.size;have Cc:K<w3.heap.size:=alH B6.out hb3'.size;refine bz (i:=10) (d:=some 6) (v:=.pointer (some ⟨w3.heap.size,0,none⟩)) (w':=w3.alloc (.cells #[.int .i64 0,.int .i64 0,.string ⟨#[]⟩,.string ⟨#[]⟩,.string ⟨#[]⟩] 175)) (by kernel_rfl) rfl rfl rfl (iA rfl kK) (λ_=>iP Cb Cc hS) ?_;have hS:=iP (o:=(.cells #[.int .i64 0,.int .i64 0,.string ⟨#[]⟩,.string ⟨#[]⟩,.string ⟨#[]⟩] 175)) Cb Cc hS;have Ca:=hb3'.size;refine iF (i:=11) (w':=((((((w3.alloc (.cells #[.int .i64 0,.int .i64 0,.string ⟨#[]⟩,.string ⟨#[]⟩,.string ⟨#[]⟩] 175)).setCell ⟨w3.heap.size,0,none⟩ (.int .i64 mk)).setCell ⟨w3.heap.size,1,none⟩ (.int .i64 mu)).setCell ⟨w3.heap.size,2,none⟩ (.string c2)).setCell ⟨w3.heap.size,3,none⟩ (.string c3)).setCell ⟨w3.heap.size,4,none⟩ (.string c4))) (by kernel_rfl) rfl rfl rfl rfl (evz (sz8 (sz2 z))) (ev2 (evz (sz8 z))) (kJ (alA w3 _) mk mu c2 c3 c4) (λ_=>iL (by omega) (by omega) hS) ?_;have hS:=iL (X:=w3.heap.size) (v0:=.int .i64 mk) (v1:=.int .i64 mu) (v2:=.string c2) (v3:=.string c3) (v4:=.string c4) (by omega) (by omega) hS;refine bz (i:=12) (d:=some 7) (by kernel_rfl) rfl rfl rfl (aR rfl (ev1 (evz (sz8 (szq z))))) (λ_=>hS) ?_;refine aB (by kernel_rfl) (hQ.out _ _ (Cs _ _ ⟨w3.heap.size,Ca,?_,(eE (alA w3 _) (hb3'.alloc Ca _) Ca _ _ _ _ _).1,(eE (alA w3 _) (hb3'.alloc Ca _) Ca _ _ _ _ _).2⟩)) _
     first|(rw[hA.out];done)|(rw[hA.out];simp only[Act.put,List.setIfInBounds_toArray];done)|(rw[hA.out];simp only[Act.put,List.setIfInBounds_toArray];rfl)
    ·refine yO (i:=10) (d:=some 6) (v:=.pointer (some ⟨w1.heap.size,0,none⟩)) (w':=w1.drew.alloc (.cells #[.int .i64 0,.int .i64 0,.string ⟨#[]⟩,.string ⟨#[]⟩,.string ⟨#[]⟩] 175)) rfl rfl rfl (iA rfl kK) (λ_=>iP hV1' B6.out hS) ?_;have hS:=iP (o:=(.cells #[.int .i64 0,.int .i64 0,.string ⟨#[]⟩,.string ⟨#[]⟩,.string ⟨#[]⟩] 175)) hV1' B6.out hS;have Cf:Below w1.heap.size w1 (w1.drew.alloc (.cells #[.int .i64 0,.int .i64 0,.string ⟨#[]⟩,.string ⟨#[]⟩,.string ⟨#[]⟩] 175)):=(Below.refl _ w1).drew.alloc (alU) _;refine cE (i:=6) (d:=some 25) (by kernel_rfl) rfl rfl rfl rfl Tryz.func250 (by kernel_rfl) rfl (fm (ev2 (ev1 (evz (sz2 (szq z))))) (ev1 (evz (sz4 (szq z))))) (kL (w:=w1.drew.alloc (.cells #[.int .i64 0,.int .i64 0,.string ⟨#[]⟩,.string ⟨#[]⟩,.string ⟨#[]⟩] 175)) ((Cf.block G hG1').trans Cj) (Cv.below Cf) hl uid) ?_;rintro e w3 ⟨rfl,Cg⟩;rw[←Ch.out,B7.out];have hb3':Below w1.heap.size w1 w3:=Cf.trans (Cg.mono Cf.size);have hS:w3.cell? ⟨V,0,none⟩=some (.pointer (some ⟨G,0,none⟩))/\w3.cell? ⟨K,0,none⟩=some (.int .i64 uid):=⟨(hb3'.cell (p:=⟨V,0,none⟩) hV1').trans s0,(hb3'.cell (p:=⟨K,0,none⟩) B6.out).trans s1⟩;have Ci:w3.heap[w1.heap.size]?=some (.cells #[.int .i64 0,.int .i64 0,.string ⟨#[]⟩,.string ⟨#[]⟩,.string ⟨#[]⟩] 175 (0,0)):=(Cg.block w1.heap.size (by simp)).trans (alA w1.drew _);refine⟨_,rfl,λ_=>hS,?_⟩;refine tkA 7 (some 18) rfl rfl hP (λwx hw=>ah rfl (evz (sz4 (sz2 (szq z))))) hS ?_;refine tkA 8 (some 26) rfl rfl hP (λwx hw=>cK (v:=.agg #[.int .i64 mk,.int .i64 mu,.string c2,.string c3,.string c4]) rfl (evz (sz8 z)) (by go_simp)) hS ?_;refine tkA 9 (some 27) rfl rfl hP (λwx hw=>cK (v:=.bool fb) rfl (ev1 (evz (sz8 z))) (by go_simp)) hS ?_;refine iF (i:=11) (w':=(((((w3.setCell ⟨w1.heap.size,0,none⟩ (.int .i64 mk)).setCell ⟨w1.heap.size,1,none⟩ (.int .i64 mu)).setCell ⟨w1.heap.size,2,none⟩ (.string c2)).setCell ⟨w1.heap.size,3,none⟩ (.string c3)).setCell ⟨w1.heap.size,4,none⟩ (.string c4))) (by kernel_rfl) rfl rfl rfl rfl (ev4 (evz (sz4 (sz2 z)))) (ev1 (evz (sz8 (szq z)))) (kJ Ci mk mu c2 c3 c4) (λ_=>iL (by omega) (by omega) hS) ?_;have hS:=iL (X:=w1.heap.size) (v0:=.int .i64 mk) (v1:=.int .i64 mu) (v2:=.string c2) (v3:=.string c3) (v4:=.string c4) (by omega) (by omega) hS;refine bz (i:=12) (d:=some 7) (by kernel_rfl) rfl rfl rfl (aR rfl (evz (sz8 (sz2 z)))) (λ_=>hS) ?_;refine aB (by kernel_rfl) (hQ.out _ _ (Cs _ _ ⟨w1.heap.size,(alU),?_,(eE Ci hb3' (alU) _ _ _ _ _).1,(eE Ci hb3' (alU) _ _ _ _ _).2⟩)) _
     first|(rw[hA.out];done)|(rw[hA.out];simp only[Act.put,List.setIfInBounds_toArray];done)|(rw[hA.out];simp only[Act.put,List.setIfInBounds_toArray];rfl)
   ·rintro _ w5 ⟨X,hX,rfl,HX,Cm⟩;simp only[Act.put,List.setIfInBounds_toArray];dsimp only[List.set];have x0:w5.cell? ⟨X,0,none⟩=some (.int .i64 mk):=ae (o:=0) HX.out rfl;have x1:w5.cell? ⟨X,1,none⟩=some (.int .i64 mu):=ae (o:=1) HX.out rfl;have x2:w5.cell? ⟨X,2,none⟩=some (.string c2):=ae (o:=2) HX.out rfl;have x3:w5.cell? ⟨X,3,none⟩=some (.string c3):=ae (o:=3) HX.out rfl;have x4:w5.cell? ⟨X,4,none⟩=some (.string c4):=ae (o:=4) HX.out rfl;have CN:=Cm.out.size;have Cx:Below w.heap.size w w5:=Ce.out.trans (Cm.out.mono Ce.out.size);have Ct:w5.ownsRow w.heap.size 335 6 u3 n (dC ys):=bQ CJ.out Cm.out;have Cl:=hid Cx;have Ck:=hid Ct;clear Cx Ct
    cases Cn:bj uid ms with
    |none=>
     rw[Cn]at B7 HT;obtain rfl:false=fb:=B7.out;go_wp2_with fail;refine⟨⟨k+1,n,ys,by omega,by omega,by simp,?_,Ck,Cl⟩,by simp[RowKit.intOf];omega⟩;unfold Hid;rw[HT.out];simpa using HY.out
    |some m=>
     rw[Cn]at B7 HT Ch;obtain rfl:true=fb:=B7.out;have CQ:(k:Int)+1<=1001:=by omega
     have CO:n<=1000:=by omega
     have CC:w.heap.size<=w5.heap.size:=Cl.out.size;go_wp2_with(at_builtin;refine wpList_append_own _ rfl (.tmp 29) (.tmp 34) 331 rfl w.heap.size 335 i0 (.agg #[.int .i64 0,.int .i64 0,.int .i64 0,.string ByteArray.empty,.string ByteArray.empty,.string ByteArray.empty]) 6 72 Tryz.underlying331 hi CB CA Cz rfl (by decide) _ n (dC ys) rfl (Ck.out.alloc _) ⟨w5.heap.size,0,none⟩ 1 1 [.int .i64 ((k:Int)+1),.int .i64 mk,.int .i64 mu,.string c2,.string c3,.string c4] rfl rfl ?c1 ?c2 ?c3 ?c4 ?c5 ?_)
     case c1=>exact alF (cs:=#[.int .i64 ((k:Int)+1),.int .i64 mk,.int .i64 mu,.string c2,.string c3,.string c4]) (t:=335) (fr:=(0,0)) (alA w5 _)
     case c2=>intro u hu;simp only[List.mem_cons,List.not_mem_nil,or_false]at hu;rcases hu with rfl|rfl|rfl|rfl|rfl|rfl<;>rfl
     case c3=>unfold maxLen;omega
     case c4=>omega
     case c5=>simp;omega
     intro v' w6 B1 B3 B8;have CL:Hid (Below w.heap.size w w6):=(Cl.out.alloc CC _).grown B3 (by simp;omega) (bY Ck.out);have CH:Hid ((ys++[(⟨(k:Int)+1,m⟩:di)]).length=n+1/\aG (ks.take (k+1)) ms=ys++[⟨(k:Int)+1,m⟩]):=by
      unfold Hid;rw[HT.out,HY.out.2];exact⟨by simp[HY.out.1],rfl⟩
     have Cp:[Value.int .i64 ((k:Int)+1),.int .i64 mk,.int .i64 mu,.string c2,.string c3,.string c4]=[.int .i64 ((k:Int)+1),.int .i64 m.key,.int .i64 m.uid,.string ⟨m.flags.toArray⟩,.string ⟨m.came.toArray⟩,.string ⟨m.text.toArray⟩]:=by
      have:=Ch.out;simp only[mq]at this;simpa using this
     rw[Cp,←md ys ⟨(k:Int)+1,m⟩]at B1;have CI:=hid B1;clear B1 B3 B8 Cp;go_wp2_with fail;exact⟨⟨k+1,n+1,ys++[⟨(k:Int)+1,m⟩],by omega,by omega,by simp,CH,CI,CL⟩,by simp[RowKit.intOf];omega⟩
  ·have CD:k=ks.length:=by omega
   subst CD;go_wp2_with fail;go_ret;have h:=HY.out;rw[List.take_length]at h;refine⟨⟨_,rfl,?_⟩,B5.out⟩;rw[h.2];unfold pZ;rw[h.1];exact B4.out
end Go.Proofs.YtlbcgmlhaeeoeaaGreatDoor
