import Derived.Test.YtbeahecjbokjjaaGreatDoorQ18
set_option maxRecDepth 100000
set_option maxHeartbeats 16000000
namespace Go.Proofs.YtbeahecjbokjjaaGreatDoor
open Go.RowKit Go.Lib
def lQ:Option ap->Array Value
 |some m=>#[.int .i64 m.key,.int .i64 m.uid,.string ⟨m.flags.toArray⟩,.string ⟨m.came.toArray⟩,.string ⟨m.text.toArray⟩]
 |none=>#[.int .i64 0,.int .i64 0,.string ⟨#[]⟩,.string ⟨#[]⟩,.string ⟨#[]⟩]
def aG (uid:Int) (ms:List ap):Option ap:=ms.find? λm=>m.uid==uid
theorem kq{w:World}{G:Nat}{name Ce:ByteArray}{ep nx:Int}{a:Option Addr}{cap:Nat}{ms:List ap}(hF:bg w G name Ce ep nx (.slice a ms.length cap))(hm:dB w a ms)(hl:ms.length<=1000)(uid:Int):
  Calls Tryz.prog 227 #[.pointer (some ⟨G,0,none⟩),.int .i64 uid] w λe w'=>e=.returned (.tuple #[.agg (lQ (aG uid ms)),.bool (aG uid ms).isSome])/\Below w.heap.size w w':=by
 have Cf:(w.alloc (.cells #[.int .i64 0,.int .i64 0,.string ⟨#[]⟩,.string ⟨#[]⟩,.string ⟨#[]⟩] 165)).heap[w.heap.size]?=some (.cells #[.int .i64 0,.int .i64 0,.string ⟨#[]⟩,.string ⟨#[]⟩,.string ⟨#[]⟩] 165 (0,0)):=alA w _;have Cd:Below w.heap.size w (w.alloc (.cells #[.int .i64 0,.int .i64 0,.string ⟨#[]⟩,.string ⟨#[]⟩,.string ⟨#[]⟩] 165)):=aw;have g4:=(Cd.cell (p:=⟨G,4,none⟩) hF.cells.2.2.2.2.2.2).trans hF.cells.2.2.2.2.1;have Ci:=hid Cf;have Cj:=hid Cd;have HM:=hid hm;clear hF hm Cf Cd;go_enter Tryz.func227,Tryz.ntmps227;go_wp2_with fail;go_loopw [13] (λi wr=>∃(k:Nat),k<=ms.length/\i=.int .i64 k/\Hid (∀y∈ms.take k,y.uid≠uid)/\Hid (wr.heap[w.heap.size]?=some (.cells #[.int .i64 0,.int .i64 0,.string ⟨#[]⟩,.string ⟨#[]⟩,.string ⟨#[]⟩] 165 (0,0)))/\Hid (Below w.heap.size w wr)) (λi _=>ms.length-(RowKit.intOf i).toNat)
 case atStart=>exact⟨0,alT _,rfl,by intro y hy;simp at hy,Ci,Cj⟩
 case round=>
  clear Ci Cj g4;obtain⟨k,hk,rfl,B9,hv,B7⟩:=hrel;have Ca:w.heap.size<wr.heap.size:=(alJ.1 hv.out).1
  by_cases B8:k<ms.length
  ·obtain⟨b,off,ha,hb,hc⟩:∃b off,a=some ⟨b,off,none⟩/\b<w.heap.size/\fu w b off ms:=by
    rcases HM.out with hz|hz
    ·rw[hz]at B8;simp at B8
    ·exact hz
   subst ha;obtain⟨c0,c1,c2,c3,c4⟩:=hc k ms[k] (by simp[B8]);have d0:=(B7.out.cell (p:=⟨b,off+k*5,none⟩) hb).trans c0;have d1:=(B7.out.cell (p:=⟨b,off+k*5+1,none⟩) hb).trans c1;have d2:=(B7.out.cell (p:=⟨b,off+k*5+2,none⟩) hb).trans c2;have d3:=(B7.out.cell (p:=⟨b,off+k*5+3,none⟩) hb).trans c3;have d4:=(B7.out.cell (p:=⟨b,off+k*5+4,none⟩) hb).trans c4;have hI:∀w,(Instr.indexAt 112 (.slice (some ⟨b,off,none⟩) ms.length cap) (.int .i64 (k:Int))).run Tryz.prog w=.ok (.pointer (some ⟨b,off+k*5,none⟩)) w:=λw=>cy B8
   have HT:Hid (ms.take (k+1)=ms.take k++[ms[k]]):=alL B8;have HX:Hid (ms[k]?=some ms[k]):=by unfold Hid;simp[B8]
   have Cn:Hid (lQ (some ms[k])=#[.int .i64 ms[k].key,.int .i64 ms[k].uid,.string ⟨ms[k].flags.toArray⟩,.string ⟨ms[k].came.toArray⟩,.string ⟨ms[k].text.toArray⟩]):=rfl;have Co:w.heap.size≠wr.heap.size:=by omega
   clear c0 c1 c2 c3 c4 hc
   by_cases he:ms[k].uid=uid
   ·have Cb:Hid (aG uid ms=some ms[k]):=by
     unfold Hid aG;rw[List.find?_eq_some_iff_getElem];refine⟨by simpa using he,k,B8,rfl,λj hj=>?_⟩;have:=B9.out ms[j] (List.mem_take_iff_getElem.2 ⟨j,by omega,rfl⟩);simpa using this
    have Cm:(ms[k].uid==uid)=true:=by simpa using he
    have HE:=hid he;clear he;have e0:=ae (o:=0) hv.out rfl;have e1:=ae (o:=1) hv.out rfl;have e2:=ae (o:=2) hv.out rfl;have e3:=ae (o:=3) hv.out rfl;have e4:=ae (o:=4) hv.out rfl;have z0:=az hv.out 0;have z1:=az hv.out 1;have z2:=az hv.out 2;have z3:=az hv.out 3;have z4:=az hv.out 4;generalize(⟨ms[k].flags.toArray⟩:ByteArray)=b2 at*;generalize(⟨ms[k].came.toArray⟩:ByteArray)=b3 at*;generalize(⟨ms[k].text.toArray⟩:ByteArray)=b4 at*;generalize Cg:ms[k].uid=mu at*;generalize Ch:ms[k].key=mk at*;have Cp:=hid Cg;have Cr:=hid Ch;clear Cg Ch;go_wp2_with fail;have Cc:=ah (o:=4) (.string b4) (ah (o:=3) (.string b3) (ah (o:=2) (.string b2) (ah (o:=1) (.int .i64 mu) (ah (o:=0) (.int .i64 mk) hv.out))));have B6:Below w.heap.size w ((((((wr).setCell ⟨w.heap.size,0,none⟩ (.int .i64 mk)).setCell ⟨w.heap.size,1,none⟩ (.int .i64 mu)).setCell ⟨w.heap.size,2,none⟩ (.string b2)).setCell ⟨w.heap.size,3,none⟩ (.string b3)).setCell ⟨w.heap.size,4,none⟩ (.string b4)):=((((B7.out.setCell (alU) _).setCell (alU) _).setCell (alU) _).setCell (alU) _).setCell (alU) _;have Ck:((((((wr).setCell ⟨w.heap.size,0,none⟩ (.int .i64 mk)).setCell ⟨w.heap.size,1,none⟩ (.int .i64 mu)).setCell ⟨w.heap.size,2,none⟩ (.string b2)).setCell ⟨w.heap.size,3,none⟩ (.string b3)).setCell ⟨w.heap.size,4,none⟩ (.string b4)).heap.size=wr.heap.size:=by simp
    clear e0 z0 e1 z1 e2 z2 e3 z3 e4 z4;generalize((((((wr).setCell ⟨w.heap.size,0,none⟩ (.int .i64 mk)).setCell ⟨w.heap.size,1,none⟩ (.int .i64 mu)).setCell ⟨w.heap.size,2,none⟩ (.string b2)).setCell ⟨w.heap.size,3,none⟩ (.string b3)).setCell ⟨w.heap.size,4,none⟩ (.string b4))=w6 at*;have B5:(w6.alloc (.cells #[.int .i64 mk,.int .i64 mu,.string b2,.string b3,.string b4] 165)).heap[w.heap.size]?=some (.cells #[.int .i64 mk,.int .i64 mu,.string b2,.string b3,.string b4] 165 (0,0)):=(alB w6 _ (by omega)).trans (by simpa using Cc);have b0:=ae (o:=0) B5 rfl;have b1:=ae (o:=1) B5 rfl;have b2':=ae (o:=2) B5 rfl;have b3':=ae (o:=3) B5 rfl;have b4':=ae (o:=4) B5 rfl;refine bodyPost_ret (v:=.tuple #[.agg #[.int .i64 mk,.int .i64 mu,.string b2,.string b3,.string b4],.bool true]) (by simp[results,Tryz.results227,go_sem,b0,b1,b2',b3',b4']) rfl ⟨?_,B6.alloc B6.size _⟩;rw[Cb.out,Cn.out]
    rfl
   ·have Cm:(ms[k].uid==uid)=false:=by simpa using he
    have HE:=hid he;clear he;generalize(⟨ms[k].flags.toArray⟩:ByteArray)=b2 at*;generalize(⟨ms[k].came.toArray⟩:ByteArray)=b3 at*;generalize(⟨ms[k].text.toArray⟩:ByteArray)=b4 at*;go_wp2_with fail;refine⟨⟨k+1,by omega,by simp,?_,(alB wr _ Ca).trans hv.out,B7.out.alloc B7.out.size _⟩,by simp[RowKit.intOf];omega⟩;unfold Hid;rw[HT.out];intro y hy
    rcases List.mem_append.1 hy with hy|hy
    ·exact B9.out y hy
    ·simp at hy;rw[hy];exact HE.out
  ·have Cb:Hid (aG uid ms=none):=by
    unfold Hid aG;rw[List.find?_eq_none];intro x hx;have Cl:ms.take k=ms:=alO (by omega);have:=B9.out x (by rw[Cl];exact hx);simpa using this
   have e0:=ae (o:=0) hv.out rfl;have e1:=ae (o:=1) hv.out rfl;have e2:=ae (o:=2) hv.out rfl;have e3:=ae (o:=3) hv.out rfl;have e4:=ae (o:=4) hv.out rfl;have z0:=az hv.out 0;have z1:=az hv.out 1;have z2:=az hv.out 2;have z3:=az hv.out 3;have z4:=az hv.out 4;go_wp2_with fail;have Cc:=ah (o:=4) (.string ⟨#[]⟩) (ah (o:=3) (.string ⟨#[]⟩) (ah (o:=2) (.string ⟨#[]⟩) (ah (o:=1) (.int .i64 0) (ah (o:=0) (.int .i64 0) hv.out))));have B6:Below w.heap.size w ((((((wr).setCell ⟨w.heap.size,0,none⟩ (.int .i64 0)).setCell ⟨w.heap.size,1,none⟩ (.int .i64 0)).setCell ⟨w.heap.size,2,none⟩ (.string ⟨#[]⟩)).setCell ⟨w.heap.size,3,none⟩ (.string ⟨#[]⟩)).setCell ⟨w.heap.size,4,none⟩ (.string ⟨#[]⟩)):=((((B7.out.setCell (alU) _).setCell (alU) _).setCell (alU) _).setCell (alU) _).setCell (alU) _;have Ck:((((((wr).setCell ⟨w.heap.size,0,none⟩ (.int .i64 0)).setCell ⟨w.heap.size,1,none⟩ (.int .i64 0)).setCell ⟨w.heap.size,2,none⟩ (.string ⟨#[]⟩)).setCell ⟨w.heap.size,3,none⟩ (.string ⟨#[]⟩)).setCell ⟨w.heap.size,4,none⟩ (.string ⟨#[]⟩)).heap.size=wr.heap.size:=by simp
   clear e0 z0 e1 z1 e2 z2 e3 z3 e4 z4;generalize((((((wr).setCell ⟨w.heap.size,0,none⟩ (.int .i64 0)).setCell ⟨w.heap.size,1,none⟩ (.int .i64 0)).setCell ⟨w.heap.size,2,none⟩ (.string ⟨#[]⟩)).setCell ⟨w.heap.size,3,none⟩ (.string ⟨#[]⟩)).setCell ⟨w.heap.size,4,none⟩ (.string ⟨#[]⟩))=w6 at*;have B5:w6.heap[w.heap.size]?=some (.cells #[.int .i64 0,.int .i64 0,.string ⟨#[]⟩,.string ⟨#[]⟩,.string ⟨#[]⟩] 165 (0,0)):=by simpa using Cc
   have b0:=ae (o:=0) B5 rfl;have b1:=ae (o:=1) B5 rfl;have b2':=ae (o:=2) B5 rfl;have b3':=ae (o:=3) B5 rfl;have b4':=ae (o:=4) B5 rfl;refine bodyPost_ret (v:=.tuple #[.agg #[.int .i64 0,.int .i64 0,.string ⟨#[]⟩,.string ⟨#[]⟩,.string ⟨#[]⟩],.bool false]) (by simp[results,Tryz.results227,go_sem,b0,b1,b2',b3',b4']) rfl ⟨?_,B6⟩;rw[Cb.out]
   rfl
section
variable {P:Program} {ops:Array Oper} {Q:Exit->Act->World->Prop} {S:World->Prop} {last:Nat} {i:Nat} {fuel:Nat} {listed:Array Bool} {a:Act} {w:World} {oi:Oper} {v:Value} {d:Option Tmp}
def wj (P:Program) (ops:Array Oper) (Q:Exit->Act->World->Prop) (S:World->Prop) (last fuel:Nat) (listed:Array Bool) (a:Act) (w:World) (i:Nat):Prop:=wpOp P ops Q i (λa' w'=>(i≠last->S w')/\bZ P ops Q S last fuel (listed.setIfInBounds i true) a' w') a w
theorem zD{j:Nat}(hr:Region.ready .any ops listed=[i,j])(h1:wj P ops Q S last fuel listed a w i)(h2:wj P ops Q S last fuel listed a w j):bZ P ops Q S last (fuel+1) listed a w:=by
 refine⟨λh0=>(by rw[hr]at h0;cases h0),λk hk=>?_⟩;rw[hr]at hk
 rcases List.mem_cons.1 hk with rfl|hk
 ·exact h1
 ·rcases List.mem_cons.1 hk with rfl|hk
  ·exact h2
  ·cases hk
theorem yP{w':World}(hi:ops[i]?=some oi)(hd:oi.dst=d)(B5:oi.guard=none)(he:(execOp a.eval oi).run P w=.ok (.value v) w')(hS:i≠last->S w')
  (h:bZ P ops Q S last fuel (listed.setIfInBounds i true) (a.put d v) w'):wj P ops Q S last fuel listed a w i:=by
 subst hd;exact wpOp_step hi (λK' hK=>sT B5 he (hK _ _ ⟨hS,h⟩))
theorem wi{f:FuncId}{fn:Func}{c:Code}{xs:Array Operand}{ts:Array TypeId}{args:Array Value}{R:Ending->World->Prop}(hi:ops[i]?=some oi)(hd:oi.dst=d)(B6:oi.guard=none)
  (ho:oi.op=.call {callee:=.value (.func f),args:=xs,argTypes:=ts}) (hf:P.funcs[f]?=some fn) (B5:(fn.name== "runtime.NumGoroutine")=false) (hb:fn.body=some c) (ha:xs.map a.eval=args) (hc:Calls P f args w R)
  (h:∀e w',R e w'->∃v,e=.returned v/\(i≠last->S w')/\bZ P ops Q S last fuel (listed.setIfInBounds i true) (a.put d v) w'):wj P ops Q S last fuel listed a w i:=by
 subst hd;exact wpOp_step hi (λK' hK=>qO B6 f fn c hf B5 hb xs ts ho args ha hc (λe w' hR=>let ⟨v,h1,h2,h3⟩:=h e w' hR;⟨v,h1,hK _ _ ⟨h2,h3⟩⟩))
theorem kI{id:Nat}(R:Act->Act->World->Prop)(h1:∀Q':Exit->Act->World->Prop,(∀a' w',R a a' w'->Q' .normal a' w')->(Code.region id ops true).wp P Q' a w)(h2:∀a' w',R a a' w'->Q .normal a' w'):(Code.region id ops true).wp P Q a w:=h1 Q h2
end
structure cw where
 place:Int
 m:ap
def db (xs:List cw):List Value:=xs.flatMap λx=>[.int .i64 x.place,.int .i64 x.m.key,.int .i64 x.m.uid,.string ⟨x.m.flags.toArray⟩,.string ⟨x.m.came.toArray⟩,.string ⟨x.m.text.toArray⟩]
theorem lP(xs:List cw)(x:cw):db (xs++[x])=db xs++[.int .i64 x.place,.int .i64 x.m.key,.int .i64 x.m.uid,.string ⟨x.m.flags.toArray⟩,.string ⟨x.m.came.toArray⟩,.string ⟨x.m.text.toArray⟩]:=by simp[db]
theorem ns:∀(xs:List cw) (k:Nat) (x:cw),xs[k]?=some x->(db xs)[k*6]?=some (.int .i64 x.place)/\(db xs)[k*6+1]?=some (.int .i64 x.m.key)/\(db xs)[k*6+2]?=some (.int .i64 x.m.uid)/\(db xs)[k*6+3]?=some (.string ⟨x.m.flags.toArray⟩)/\(db xs)[k*6+4]?=some (.string ⟨x.m.came.toArray⟩)/\(db xs)[k*6+5]?=some (.string ⟨x.m.text.toArray⟩)
 |[],k,x,h=>by simp at h
 |y::r,0,x,h=>by simp at h;subst h;simp[db]
 |y::r,k+1,x,h=>by
  have:=ns r k x (by simpa using h);simp only[db]at this;simp[db,this,Nat.add_mul]
def ro (w:World) (b off:Nat) (xs:List cw):Prop:=∀(i:Nat) (x:cw),xs[i]?=some x->w.cell? ⟨b,off+i*6,none⟩=some (.int .i64 x.place)/\w.cell? ⟨b,off+i*6+1,none⟩=some (.int .i64 x.m.key)/\w.cell? ⟨b,off+i*6+2,none⟩=some (.int .i64 x.m.uid)/\w.cell? ⟨b,off+i*6+3,none⟩=some (.string ⟨x.m.flags.toArray⟩)/\w.cell? ⟨b,off+i*6+4,none⟩=some (.string ⟨x.m.came.toArray⟩)/\w.cell? ⟨b,off+i*6+5,none⟩=some (.string ⟨x.m.text.toArray⟩)
def Aa (w:World) (a:Option Addr) (xs:List cw):Prop:=(xs=[])∨∃b off,a=some ⟨b,off,none⟩/\b<w.heap.size/\ro w b off xs
theorem Aa.below{w w':World}{a:Option Addr}{xs:List cw}(h:Aa w a xs)(hb:Below w.heap.size w w'):Aa w' a xs:=by
 rcases h with h|⟨b,off,h1,h2,h3⟩
 ·exact Or.inl h
 ·refine Or.inr ⟨b,off,h1,alH h2 hb.size,λi x hx=>?_⟩;obtain⟨c0,c1,c2,c3,c4,c5⟩:=h3 i x hx;exact⟨(hb.cell (p:=⟨b,off+i*6,none⟩) h2).trans c0,(hb.cell (p:=⟨b,off+i*6+1,none⟩) h2).trans c1,(hb.cell (p:=⟨b,off+i*6+2,none⟩) h2).trans c2,(hb.cell (p:=⟨b,off+i*6+3,none⟩) h2).trans c3,(hb.cell (p:=⟨b,off+i*6+4,none⟩) h2).trans c4,(hb.cell (p:=⟨b,off+i*6+5,none⟩) h2).trans c5⟩
def mr (w:World) (B:Nat) (v:Value) (xs:List cw):Prop:=w.ownsRow B 302 6 v xs.length (db xs)
theorem mr.form{w:World}{B:Nat}{v:Value}{xs:List cw}(h:mr w B v xs):∃a cap,v=.slice a xs.length cap/\xs.length<=cap/\Aa w a xs/\∀b off,a=some ⟨b,off,none⟩->B<=b/\off=0:=by
 rcases h.2 with⟨h1,h2⟩|⟨g,c,B5,h1,h2,h3,h4,_⟩
 ·have hx:xs=[]:=alN (by omega);subst hx;exact⟨none,0,h1,alU,Or.inl rfl,λb off hb=>by cases hb⟩
 ·subst h1;refine⟨some ⟨g,0,none⟩,c,rfl,by omega,Or.inr ⟨g,0,rfl,(alJ.1 h3).1,?_⟩,λb off hb=>by injection hb with hb;injection hb with hb hb2;exact⟨by omega,hb2.symm⟩⟩;intro i x hx;rw[Nat.zero_add];obtain⟨c0,c1,c2,c3,c4,c5⟩:=ns _ _ _ hx;exact⟨aE h c0,aE h c1,aE h c2,aE h c3,aE h c4,aE h c5⟩
theorem jM{g off n cap k:Nat}{w:World}(hk:k<n):(Instr.indexAt 298 (.slice (some ⟨g,off,none⟩) n cap) (.int .i64 (k:Int))).run Tryz.prog w=.ok (.pointer (some ⟨g,off+k*6,none⟩)) w:=by
 have h1:¬(k:Int)<0:=by omega
 have h2:((k:Int)).toNat=k:=by omega
 go_simp
theorem mn:(Tryz.prog.info? 302).map (λi=>(i.zero,i.size,i.bytes))=some (some (.agg #[.int .i64 0,.int .i64 0,.int .i64 0,.string ByteArray.empty,.string ByteArray.empty,.string ByteArray.empty]),6,72):=by kernel_rfl
def ar (ks:List ax) (ms:List ap):List cw:=ks.zipIdx.filterMap λp=>(aG p.1.uid ms).map λm=>⟨(p.2:Int)+1,m⟩
theorem qn(ks:List ax)(x:ax)(ms:List ap):ar (ks++[x]) ms=ar ks ms++((aG x.uid ms).map λm=>(⟨(ks.length:Int)+1,m⟩:cw)).toList:=by
 unfold ar;rw[List.zipIdx_append,List.filterMap_append]
 cases h:aG x.uid ms<;>simp[h]
theorem cA(ks:List ax)(ms:List ap):(ar ks ms).length<=ks.length:=by
 unfold ar;refine alS (List.length_filterMap_le _ _) (by simp)
theorem oJ(o:Option ap):∃(k u:Int) (b2 b3 b4:ByteArray),Hid (#[.int .i64 k,.int .i64 u,.string b2,.string b3,.string b4]=lQ o):=by
 cases o with
 |some m=>exact⟨_,_,_,_,_,rfl⟩
 |none=>exact⟨_,_,_,_,_,rfl⟩
theorem ko{w:World}:(Instr.alloc 165 true (.tuple #[])).run Tryz.prog w=.ok (.pointer (some ⟨w.heap.size,0,none⟩)) (w.alloc (.cells #[.int .i64 0,.int .i64 0,.string ⟨#[]⟩,.string ⟨#[]⟩,.string ⟨#[]⟩] 165)):=by
 go_simp
theorem km{w:World}{X:Nat}{u0 u1 u2 u3 u4:Value}{t:TypeId}(h:w.heap[X]?=some (.cells #[u0,u1,u2,u3,u4] t (0,0)))(k u:Int)(b2 b3 b4:ByteArray):
  (Instr.storeAt 165 (.pointer (some ⟨X,0,none⟩)) (.agg #[.int .i64 k,.int .i64 u,.string b2,.string b3,.string b4])).run Tryz.prog w=.ok () (((((w.setCell ⟨X,0,none⟩ (.int .i64 k)).setCell ⟨X,1,none⟩ (.int .i64 u)).setCell ⟨X,2,none⟩ (.string b2)).setCell ⟨X,3,none⟩ (.string b3)).setCell ⟨X,4,none⟩ (.string b4)):=by
 have e0:=ae (o:=0) h rfl;have e1:=ae (o:=1) h rfl;have e2:=ae (o:=2) h rfl;have e3:=ae (o:=3) h rfl;have e4:=ae (o:=4) h rfl;have z0:=az h 0;have z1:=az h 1;have z2:=az h 2;have z3:=az h 3;have z4:=az h 4;go_simp
theorem et{w:World}{X B:Nat}{u0 u1 u2 u3 u4:Value}{t:TypeId}(h:w.heap[X]?=some (.cells #[u0,u1,u2,u3,u4] t (0,0))){w0:World}(hb:Below B w0 w)(hX:B<=X)(v0 v1 v2 v3 v4:Value):
  (((((w.setCell ⟨X,0,none⟩ v0).setCell ⟨X,1,none⟩ v1).setCell ⟨X,2,none⟩ v2).setCell ⟨X,3,none⟩ v3).setCell ⟨X,4,none⟩ v4).heap[X]?=some (.cells #[v0,v1,v2,v3,v4] t (0,0))/\Below B w0 (((((w.setCell ⟨X,0,none⟩ v0).setCell ⟨X,1,none⟩ v1).setCell ⟨X,2,none⟩ v2).setCell ⟨X,3,none⟩ v3).setCell ⟨X,4,none⟩ v4):=
 ⟨by simpa using ah (o:=4) v4 (ah (o:=3) v3 (ah (o:=2) v2 (ah (o:=1) v1 (ah (o:=0) v0 h)))),((((hb.setCell hX _).setCell hX _).setCell hX _).setCell hX _).setCell hX _⟩
theorem iF{w:World}{V K X:Nat}{x y v0 v1 v2 v3 v4:Value}(h1:V<X)(h2:K<X)(h:w.cell? ⟨V,0,none⟩=some x/\w.cell? ⟨K,0,none⟩=some y):
  (((((w.setCell ⟨X,0,none⟩ v0).setCell ⟨X,1,none⟩ v1).setCell ⟨X,2,none⟩ v2).setCell ⟨X,3,none⟩ v3).setCell ⟨X,4,none⟩ v4).cell? ⟨V,0,none⟩=some x/\(((((w.setCell ⟨X,0,none⟩ v0).setCell ⟨X,1,none⟩ v1).setCell ⟨X,2,none⟩ v2).setCell ⟨X,3,none⟩ v3).setCell ⟨X,4,none⟩ v4).cell? ⟨K,0,none⟩=some y:=by
 have hc:∀(W:World) (o:Nat) (v:Value) (b:Nat) (x:Value),b<X->W.cell? ⟨b,0,none⟩=some x->(W.setCell ⟨X,o,none⟩ v).cell? ⟨b,0,none⟩=some x:=λW o v b x hb h=>(((Below.refl X W).setCell (show X<=(⟨X,o,none⟩:Addr).block from Nat.le_refl X) v).cell (p:=⟨b,0,none⟩) hb).trans h
 exact⟨hc _ _ _ _ _ h1 (hc _ _ _ _ _ h1 (hc _ _ _ _ _ h1 (hc _ _ _ _ _ h1 (hc _ _ _ _ _ h1 h.1)))),hc _ _ _ _ _ h2 (hc _ _ _ _ _ h2 (hc _ _ _ _ _ h2 (hc _ _ _ _ _ h2 (hc _ _ _ _ _ h2 h.2))))⟩
theorem iL{w:World}{V K:Nat}{x y:Value}{o:Obj}(h1:V<w.heap.size)(h2:K<w.heap.size)(h:w.cell? ⟨V,0,none⟩=some x/\w.cell? ⟨K,0,none⟩=some y):(w.alloc o).cell? ⟨V,0,none⟩=some x/\(w.alloc o).cell? ⟨K,0,none⟩=some y:=
 ⟨(aF ⟨V,0,none⟩ (alB w _ h1)).trans h.1,(aF ⟨K,0,none⟩ (alB w _ h2)).trans h.2⟩
theorem mH{w:World}{V G:Nat}{look:Bool}{name Cg:ByteArray}{ep nx:Int}{va a:Option Addr}{vc cap:Nat}{ks:List ax}{ms:List ap}(h:ce w V G look (.slice va ks.length vc))(hk:nk w va ks)(hF:bg w G name Cg ep nx (.slice a ms.length cap))(hm:dB w a ms)(hl:ms.length<=1000)(CT:ks.length<=1000):
  Calls Tryz.prog 223 #[.pointer (some ⟨V,0,none⟩)] w λe w'=>(∃v,e=.returned v/\mr w' w.heap.size v (ar ks ms))/\Below w.heap.size w w':=by
 obtain⟨i0,hi,CF,CE,CD⟩:=alQ mn;have k2:=h.cells.2.2.1;have CI:=h.cells.2.2.2.2;have CK:=hF.cells.2.2.2.2.2.2;have HV:=hid h;have HK:=hid hk;have HF:=hid hF;have HM:=hid hm;clear h hk hF hm;go_enter Tryz.func223,Tryz.ntmps223;go_wp2_with fail;go_loopw [3,13] (λvo i wr=>∃(k n:Nat) (ys:List cw),k<=ks.length/\n<=k/\i=.int .i64 k/\Hid (ys.length=n/\ar (ks.take k) ms=ys)/\Hid (wr.ownsRow w.heap.size 302 6 vo n (db ys))/\Hid (Below w.heap.size w wr)) (λ_ i _=>ks.length-(RowKit.intOf i).toNat)
 case atStart=>exact⟨0,0,[],alT _,alT _,rfl,⟨rfl,rfl⟩,alG _ _ _ _,Below.refl _ _⟩
 case round=>
  obtain⟨k,n,ys,hk,hn,rfl,HY,B7,B8⟩:=hrel;have CQ:=B8.out.size
  by_cases Cc:k<ks.length
  ·obtain⟨b,off,ha,hb,hc⟩:∃b off,va=some ⟨b,off,none⟩/\b<w.heap.size/\wI w b off ks:=by
    rcases HK.out with hz|hz
    ·rw[hz]at Cc;simp at Cc
    ·exact hz
   subst ha;obtain⟨c0,c1⟩:=hc k ks[k] (by simp[Cc]);have d0:=(B8.out.cell (p:=⟨b,off+k*2,none⟩) hb).trans c0;have d1:=(B8.out.cell (p:=⟨b,off+k*2+1,none⟩) hb).trans c1;have hI:∀w,(Instr.indexAt 304 (.slice (some ⟨b,off,none⟩) ks.length vc) (.int .i64 (k:Int))).run Tryz.prog w=.ok (.pointer (some ⟨b,off+k*2,none⟩)) w:=λw=>lX Cc
   have HT:Hid (ar (ks.take (k+1)) ms=ar (ks.take k) ms++((aG ks[k].uid ms).map λm=>(⟨(k:Int)+1,m⟩:cw)).toList):=by
    unfold Hid;rw[alL Cc,qn];rw[show(ks.take k).length=k by simp;omega]
   generalize(⟨ks[k].told.toArray⟩:ByteArray)=b2 at*;generalize ks[k].uid=uid at*;have CA:(wr.alloc (.cells #[.int .i64 uid,.string b2] 313)).heap[wr.heap.size]?=some (.cells #[.int .i64 uid,.string b2] 313 (0,0)):=alA wr _;have CC:Below w.heap.size w (wr.alloc (.cells #[.int .i64 uid,.string b2] 313)):=B8.out.alloc B8.out.size _;have Cy:=B7.out.alloc (.cells #[.int .i64 uid,.string b2] 313);have Cv:wr.heap.size<(wr.alloc (.cells #[.int .i64 uid,.string b2] 313)).heap.size:=by simp
   have CO:=hid CA;have Ch:=hid CC;have CN:=hid Cy;have B9:=hid Cv;clear c0 c1 hc CA CC Cy Cv B7;go_wp2_with fail;generalize(wr.alloc (.cells #[.int .i64 uid,.string b2] 313))=w1 at*;generalize wr.heap.size=K at*;clear d0 d1 hI k2;obtain⟨mk,mu,c2,c3,c4,Ck⟩:=oJ (aG uid ms);have Cu:ce w1 V G look (.slice (some ⟨b,off,none⟩) ks.length vc):=(Ch.out.block V CI).trans HV.out;have Cm:bg w1 G name Cg ep nx (.slice a ms.length cap):=(Ch.out.block G CK).trans HF.out;have Cz:dB w1 a ms:=HM.out.below Ch.out;generalize Cs:(aG uid ms).isSome=fb;have Ca:=hid Cs;clear Cs;refine kI (λa a' w'=>∃X,w1.heap.size<=X/\a'=((((((((((((a.put (some 19) (.pointer (some ⟨V,0,none⟩))).put (some 20) (.pointer (some ⟨V,0,none⟩))).put (some 21) (.pointer (some ⟨V,0,none⟩))).put (some 22) (.pointer (some ⟨G,0,none⟩))).put (some 23) (.pointer (some ⟨K,0,none⟩))).put (some 24) (.int .i64 uid)).put (some 25) (.tuple #[.agg #[.int .i64 mk,.int .i64 mu,.string c2,.string c3,.string c4],.bool fb])).put (some 18) (.tuple #[.agg #[.int .i64 mk,.int .i64 mu,.string c2,.string c3,.string c4],.bool fb])).put (some 26) (.agg #[.int .i64 mk,.int .i64 mu,.string c2,.string c3,.string c4])).put (some 27) (.bool fb)).put (some 6) (.pointer (some ⟨X,0,none⟩))).put (some 7) (.bool fb))/\Hid (w'.heap[X]?=some (.cells #[.int .i64 mk,.int .i64 mu,.string c2,.string c3,.string c4] 165 (0,0)))/\Hid (Below w1.heap.size w1 w')) ?_ ?_
   ·intro Q0 Cw;have s0:w1.drew.cell? ⟨V,0,none⟩=some (.pointer (some ⟨G,0,none⟩)):=Cu.cells.1;have s1:w1.drew.cell? ⟨K,0,none⟩=some (.int .i64 uid):=ae (o:=0) CO.out rfl;have hV1':=Cu.cells.2.2.2.2;have hG1':=Cm.cells.2.2.2.2.2.2;have CJ:=B9.out;refine aC 12 (λw':World=>w'.cell? ⟨V,0,none⟩=some (.pointer (some ⟨G,0,none⟩))/\w'.cell? ⟨K,0,none⟩=some (.int .i64 uid)) 13 rfl (by kernel_rfl) ⟨s0,s1⟩ (λa' Q hA hQ hP hS=>?_);have z:a'.tmps.size=38:=by rw[hA.out];rfl
    have e0:a'.eval (.tmp 0)=Value.pointer (some ⟨V,0,none⟩):=by rw[hA.out];rfl
    have e5:a'.eval (.tmp 5)=Value.pointer (some ⟨K,0,none⟩):=by rw[hA.out];rfl
    refine tkA 0 (some 19) rfl rfl hP (λwx hw=>ag rfl e0) hS ?_;refine tkA 1 (some 20) rfl rfl hP (λwx hw=>aI rfl (evz z)) hS ?_;refine tkA 2 (some 21) rfl rfl hP (λwx hw=>ai ⟨V,0,none⟩ rfl (evz (szq z))) hS ?_;refine tkA 3 (some 22) rfl rfl hP (λwx hw=>aq rfl (evz (sz2 z)) (aO hw.1)) hS ?_;refine tkA 4 (some 23) rfl rfl hP (λwx hw=>ai ⟨K,0,none⟩ rfl (ev4 e5)) hS ?_;refine tkA 5 (some 24) rfl rfl hP (λwx hw=>aq rfl (evz (sz4 z)) (aO hw.2)) hS ?_;refine zD (i:=6) (j:=10) (by kernel_rfl) ?_ ?_
    ·refine wi (i:=6) (d:=some 25) rfl rfl rfl rfl Tryz.func227 (by kernel_rfl) rfl (eH (ev2 (evz (sz2 (szq z)))) (evz (sz4 (szq z)))) (kq (w:=w1.drew) Cm Cz hl uid) ?_;rintro e w3 ⟨rfl,Cj⟩;rw[←Ck.out,Ca.out];have hb3':Below w1.heap.size w1 w3:=(Below.refl _ w1).drew.trans Cj;have hS:w3.cell? ⟨V,0,none⟩=some (.pointer (some ⟨G,0,none⟩))/\w3.cell? ⟨K,0,none⟩=some (.int .i64 uid):=⟨(hb3'.cell (p:=⟨V,0,none⟩) hV1').trans s0,(hb3'.cell (p:=⟨K,0,none⟩) B9.out).trans s1⟩;refine⟨_,rfl,λ_=>hS,?_⟩;refine tkA 7 (some 18) rfl rfl hP (λwx hw=>ag rfl (evz (sz4 (sz2 z)))) hS ?_;refine tkA 8 (some 26) rfl rfl hP (λwx hw=>cd (v:=.agg #[.int .i64 mk,.int .i64 mu,.string c2,.string c3,.string c4]) rfl (evz (sz4 (sz2 (szq z)))) (by go_simp)) hS ?_;refine tkA 9 (some 27) rfl rfl hP (λwx hw=>cd (v:=.bool fb) rfl (ev1 (evz (sz4 (sz2 (szq z))))) (by go_simp)) hS ?_;have Ce:V<w3.heap.size:=alH hV1' hb3'.size;have Cf:K<w3.heap.size:=alH B9.out hb3'.size;refine bb (i:=10) (d:=some 6) (v:=.pointer (some ⟨w3.heap.size,0,none⟩)) (w':=w3.alloc (.cells #[.int .i64 0,.int .i64 0,.string ⟨#[]⟩,.string ⟨#[]⟩,.string ⟨#[]⟩] 165)) (by kernel_rfl) rfl rfl rfl (iY rfl ko) (λ_=>iL Ce Cf hS) ?_;have hS:=iL (o:=(.cells #[.int .i64 0,.int .i64 0,.string ⟨#[]⟩,.string ⟨#[]⟩,.string ⟨#[]⟩] 165)) Ce Cf hS;have Cd:=hb3'.size;refine i6 (i:=11) (w':=((((((w3.alloc (.cells #[.int .i64 0,.int .i64 0,.string ⟨#[]⟩,.string ⟨#[]⟩,.string ⟨#[]⟩] 165)).setCell ⟨w3.heap.size,0,none⟩ (.int .i64 mk)).setCell ⟨w3.heap.size,1,none⟩ (.int .i64 mu)).setCell ⟨w3.heap.size,2,none⟩ (.string c2)).setCell ⟨w3.heap.size,3,none⟩ (.string c3)).setCell ⟨w3.heap.size,4,none⟩ (.string c4))) (by kernel_rfl) rfl rfl rfl rfl (evz (sz8 (sz2 z))) (ev2 (evz (sz8 z))) (km (alA w3 _) mk mu c2 c3 c4) (λ_=>iF (by omega) (by omega) hS) ?_;have hS:=iF (X:=w3.heap.size) (v0:=.int .i64 mk) (v1:=.int .i64 mu) (v2:=.string c2) (v3:=.string c3) (v4:=.string c4) (by omega) (by omega) hS;refine bb (i:=12) (d:=some 7) (by kernel_rfl) rfl rfl rfl (aL rfl (ev1 (evz (sz8 (szq z))))) (λ_=>hS) ?_;refine aD (by kernel_rfl) (hQ.out _ _ (Cw _ _ ⟨w3.heap.size,Cd,?_,(et (alA w3 _) (hb3'.alloc Cd _) Cd _ _ _ _ _).1,(et (alA w3 _) (hb3'.alloc Cd _) Cd _ _ _ _ _).2⟩)) _
     first|(rw[hA.out];done)|(rw[hA.out];simp only[Act.put,List.setIfInBounds_toArray];done)|(rw[hA.out];simp only[Act.put,List.setIfInBounds_toArray];rfl)
    ·refine yP (i:=10) (d:=some 6) (v:=.pointer (some ⟨w1.heap.size,0,none⟩)) (w':=w1.drew.alloc (.cells #[.int .i64 0,.int .i64 0,.string ⟨#[]⟩,.string ⟨#[]⟩,.string ⟨#[]⟩] 165)) rfl rfl rfl (iY rfl ko) (λ_=>iL hV1' B9.out hS) ?_;have hS:=iL (o:=(.cells #[.int .i64 0,.int .i64 0,.string ⟨#[]⟩,.string ⟨#[]⟩,.string ⟨#[]⟩] 165)) hV1' B9.out hS;have Ci:Below w1.heap.size w1 (w1.drew.alloc (.cells #[.int .i64 0,.int .i64 0,.string ⟨#[]⟩,.string ⟨#[]⟩,.string ⟨#[]⟩] 165)):=(Below.refl _ w1).drew.alloc (alU) _;refine bG (i:=6) (d:=some 25) (by kernel_rfl) rfl rfl rfl rfl Tryz.func227 (by kernel_rfl) rfl (eH (ev2 (ev1 (evz (sz2 (szq z))))) (ev1 (evz (sz4 (szq z))))) (kq (w:=w1.drew.alloc (.cells #[.int .i64 0,.int .i64 0,.string ⟨#[]⟩,.string ⟨#[]⟩,.string ⟨#[]⟩] 165)) ((Ci.block G hG1').trans Cm) (Cz.below Ci) hl uid) ?_;rintro e w3 ⟨rfl,Cj⟩;rw[←Ck.out,Ca.out];have hb3':Below w1.heap.size w1 w3:=Ci.trans (Cj.mono Ci.size);have hS:w3.cell? ⟨V,0,none⟩=some (.pointer (some ⟨G,0,none⟩))/\w3.cell? ⟨K,0,none⟩=some (.int .i64 uid):=⟨(hb3'.cell (p:=⟨V,0,none⟩) hV1').trans s0,(hb3'.cell (p:=⟨K,0,none⟩) B9.out).trans s1⟩;have Cl:w3.heap[w1.heap.size]?=some (.cells #[.int .i64 0,.int .i64 0,.string ⟨#[]⟩,.string ⟨#[]⟩,.string ⟨#[]⟩] 165 (0,0)):=(Cj.block w1.heap.size (by simp)).trans (alA w1.drew _);refine⟨_,rfl,λ_=>hS,?_⟩;refine tkA 7 (some 18) rfl rfl hP (λwx hw=>ag rfl (evz (sz4 (sz2 (szq z))))) hS ?_;refine tkA 8 (some 26) rfl rfl hP (λwx hw=>cd (v:=.agg #[.int .i64 mk,.int .i64 mu,.string c2,.string c3,.string c4]) rfl (evz (sz8 z)) (by go_simp)) hS ?_;refine tkA 9 (some 27) rfl rfl hP (λwx hw=>cd (v:=.bool fb) rfl (ev1 (evz (sz8 z))) (by go_simp)) hS ?_;refine i6 (i:=11) (w':=(((((w3.setCell ⟨w1.heap.size,0,none⟩ (.int .i64 mk)).setCell ⟨w1.heap.size,1,none⟩ (.int .i64 mu)).setCell ⟨w1.heap.size,2,none⟩ (.string c2)).setCell ⟨w1.heap.size,3,none⟩ (.string c3)).setCell ⟨w1.heap.size,4,none⟩ (.string c4))) (by kernel_rfl) rfl rfl rfl rfl (ev4 (evz (sz4 (sz2 z)))) (ev1 (evz (sz8 (szq z)))) (km Cl mk mu c2 c3 c4) (λ_=>iF (by omega) (by omega) hS) ?_;have hS:=iF (X:=w1.heap.size) (v0:=.int .i64 mk) (v1:=.int .i64 mu) (v2:=.string c2) (v3:=.string c3) (v4:=.string c4) (by omega) (by omega) hS;refine bb (i:=12) (d:=some 7) (by kernel_rfl) rfl rfl rfl (aL rfl (evz (sz8 (sz2 z)))) (λ_=>hS) ?_;refine aD (by kernel_rfl) (hQ.out _ _ (Cw _ _ ⟨w1.heap.size,(alU),?_,(et Cl hb3' (alU) _ _ _ _ _).1,(et Cl hb3' (alU) _ _ _ _ _).2⟩)) _
     first|(rw[hA.out];done)|(rw[hA.out];simp only[Act.put,List.setIfInBounds_toArray];done)|(rw[hA.out];simp only[Act.put,List.setIfInBounds_toArray];rfl)
   ·rintro _ w5 ⟨X,hX,rfl,HX,Cp⟩;simp only[Act.put,List.setIfInBounds_toArray];dsimp only[List.set];have x0:w5.cell? ⟨X,0,none⟩=some (.int .i64 mk):=ae (o:=0) HX.out rfl;have x1:w5.cell? ⟨X,1,none⟩=some (.int .i64 mu):=ae (o:=1) HX.out rfl;have x2:w5.cell? ⟨X,2,none⟩=some (.string c2):=ae (o:=2) HX.out rfl;have x3:w5.cell? ⟨X,3,none⟩=some (.string c3):=ae (o:=3) HX.out rfl;have x4:w5.cell? ⟨X,4,none⟩=some (.string c4):=ae (o:=4) HX.out rfl;have CR:=Cp.out.size;have CB:Below w.heap.size w w5:=Ch.out.trans (Cp.out.mono Ch.out.size);have Cx:w5.ownsRow w.heap.size 302 6 u3 n (db ys):=bM CN.out Cp.out;have Co:=hid CB;have Cn:=hid Cx;clear CB Cx
    cases Cr:aG uid ms with
    |none=>
     rw[Cr]at Ca HT;obtain rfl:false=fb:=Ca.out;go_wp2_with fail;refine⟨⟨k+1,n,ys,by omega,by omega,by simp,?_,Cn,Co⟩,by simp[RowKit.intOf];omega⟩;unfold Hid;rw[HT.out];simpa using HY.out
    |some m=>
     rw[Cr]at Ca HT Ck;obtain rfl:true=fb:=Ca.out;have CU:(k:Int)+1<=1001:=by omega
     have CS:n<=1000:=by omega
     have CG:w.heap.size<=w5.heap.size:=Co.out.size;go_wp2_with(at_builtin;refine wpList_append_own _ rfl (.tmp 29) (.tmp 34) 298 rfl w.heap.size 302 i0 (.agg #[.int .i64 0,.int .i64 0,.int .i64 0,.string ByteArray.empty,.string ByteArray.empty,.string ByteArray.empty]) 6 72 Tryz.underlying298 hi CF CE CD rfl (by decide) _ n (db ys) rfl (Cn.out.alloc _) ⟨w5.heap.size,0,none⟩ 1 1 [.int .i64 ((k:Int)+1),.int .i64 mk,.int .i64 mu,.string c2,.string c3,.string c4] rfl rfl ?c1 ?c2 ?c3 ?c4 ?c5 ?_)
     case c1=>exact alF (cs:=#[.int .i64 ((k:Int)+1),.int .i64 mk,.int .i64 mu,.string c2,.string c3,.string c4]) (t:=302) (fr:=(0,0)) (alA w5 _)
     case c2=>intro u hu;simp only[List.mem_cons,List.not_mem_nil,or_false]at hu;rcases hu with rfl|rfl|rfl|rfl|rfl|rfl<;>rfl
     case c3=>unfold maxLen;omega
     case c4=>omega
     case c5=>simp;omega
     intro v' w6 B5 B6 Cb;have CP:Hid (Below w.heap.size w w6):=(Co.out.alloc CG _).grown B6 (by simp;omega) (bP Cn.out);have CL:Hid ((ys++[(⟨(k:Int)+1,m⟩:cw)]).length=n+1/\ar (ks.take (k+1)) ms=ys++[⟨(k:Int)+1,m⟩]):=by
      unfold Hid;rw[HT.out,HY.out.2];exact⟨by simp[HY.out.1],rfl⟩
     have Ct:[Value.int .i64 ((k:Int)+1),.int .i64 mk,.int .i64 mu,.string c2,.string c3,.string c4]=[.int .i64 ((k:Int)+1),.int .i64 m.key,.int .i64 m.uid,.string ⟨m.flags.toArray⟩,.string ⟨m.came.toArray⟩,.string ⟨m.text.toArray⟩]:=by
      have:=Ck.out;simp only[lQ]at this;simpa using this
     rw[Ct,←lP ys ⟨(k:Int)+1,m⟩]at B5;have CM:=hid B5;clear B5 B6 Cb Ct;go_wp2_with fail;exact⟨⟨k+1,n+1,ys++[⟨(k:Int)+1,m⟩],by omega,by omega,by simp,CL,CM,CP⟩,by simp[RowKit.intOf];omega⟩
  ·have CH:k=ks.length:=by omega
   subst CH;go_wp2_with fail;go_ret;have h:=HY.out;rw[List.take_length]at h;refine⟨⟨_,rfl,?_⟩,B8.out⟩;rw[h.2];unfold mr;rw[h.1];exact B7.out
end Go.Proofs.YtbeahecjbokjjaaGreatDoor
