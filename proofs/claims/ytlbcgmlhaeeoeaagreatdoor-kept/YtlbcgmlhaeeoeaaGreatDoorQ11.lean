import Derived.Test.YtlbcgmlhaeeoeaaGreatDoorQ1
import Derived.WalkKit
import Derived.Conc.MuLone
import Derived.Deep.RegionHeld3
set_option maxRecDepth 100000
set_option maxHeartbeats 16000000
namespace Go.Proofs.YtlbcgmlhaeeoeaaGreatDoor
open Go.RowKit
theorem rb{P:Program}{w:World}{ops:Array Oper}{o:Oper}{a:Act}{K:Act->World->Prop}{Q:Exit->Act->World->Prop}{E:Prop}(B3:o.guard=none)(f:FuncId)(fn:Func)(c:Code)(hf:P.funcs[f]?=some fn)(B1:(fn.name== "runtime.NumGoroutine")=false)(hb:fn.body=some c)
  (xs:Array Operand) (ts:Array TypeId) (ho:o.op=.call {callee:=.value (.func f),args:=xs,argTypes:=ts}) (args:Array Value) (ha:xs.map a.eval=args) {R:Ending->World->Prop} (hc:Calls P f args w R)
  (h:∀e w',R e w'->∃v,e=.returned v/\K (a.put o.dst v) w'):
  if Region.wanted o (yielded ops a.tmps)=true then Oper.wp P o a w K Q else E:=by
 have hw:Region.wanted o (yielded ops a.tmps)=true:=by simp[Region.wanted,B3]
 rw[if_pos hw];have hr:(execOp a.eval o).run P w=.ok (.enter f args) w:=by
  unfold execOp;simp[ho,resolve,invoke,Deferred.ofValue,ha,Act.eval];exact Go.MuLone.run_callFunc_enter hf B1 hb args w
 unfold Oper.wp;rw[hr,Oper.upon_enter];refine hc.mono λe w' hR=>?_
 obtain⟨v,rfl,hk⟩:=h e w' hR;exact hk
section
variable {P:Program} {ops:Array Oper} {Q:Exit->Act->World->Prop} {S:World->Prop} {last:Nat}
def bB (P:Program) (ops:Array Oper) (Q:Exit->Act->World->Prop) (S:World->Prop) (last:Nat):Nat->Array Bool->Act->World->Prop
 |0,listed,a,w=>Region.ready .any ops listed=[]/\Q .normal a w
 |fuel+1,listed,a,w=>
  (Region.ready .any ops listed=[]->Q .normal a w)/\
  ∀i∈Region.ready .any ops listed,wpOp P ops Q i (λa' w'=>(i≠last->S w')/\bB P ops Q S last fuel (listed.setIfInBounds i true) a' w') a w
theorem jY:∀(fuel:Nat) (listed:Array Bool) (a:Act) (w:World),bB P ops Q S last fuel listed a w->wpAny P .any ops Q fuel listed a w
 |0,_,_,_,h=>h
 |fuel+1,_,_,_,h=>⟨h.1,λi hi=>wpOp_mono (λa' w' h'=>jY fuel _ a' w' h'.2) (h.2 i hi)⟩
def iD (ops:Array Oper) (last i:Nat):Bool:=match ops[last]? with|some o=>o.after.any (λe=>Region.binds .any e&&e.on==i)|none=>true
theorem j9{listed:Array Bool}{i:Nat}(hw:iD ops last i=true)(hu:listed.getD i true=false):last∉Region.ready .any ops listed:=by
 intro hl;obtain⟨_,o,ho,B1⟩:=mem_ready.1 hl;unfold iD at hw;rw[ho]at hw;simp only[Array.any_eq_true']at hw;obtain⟨e,he,hb⟩:=hw;simp only[Bool.and_eq_true,beq_iff_eq]at hb;have h1:=B1 e he hb.1;rw[hb.2]at h1
 rcases Nat.lt_or_ge i listed.size with h'|h'
 ·simp[h']at hu h1;rw[hu]at h1;cases h1
 ·simp[Array.getElem?_eq_none h']at h1
theorem jz{i:Nat}{oi:Oper}{v:Value}(hi:ops[i]?=some oi)(Ce:iD ops last i=true)(B4:∀(j:Nat) (o:Oper) cs b,ops[j]?=some o->o.op≠.select cs b)
  (hQ:∀c a w,Q (.panic c) (a.put oi.dst v) w->Q (.panic c) a w):
  ∀(fuel:Nat) (listed:Array Bool) (a:Act) (w:World),
   (∀j oj,ops[j]?=some oj->j≠i->listed.getD j true=false->(∀e∈oj.after,Region.binds .any e=true->e.on≠i)->oi.apart ops oj=true)->
   i∈Region.ready .any ops listed->YieldsIf P ops S oi v a->S w->
   bB P ops Q S last fuel (listed.setIfInBounds i true) (a.put oi.dst v) w->bB P ops Q S last (fuel+1) listed a w:=by
 intro fuel
 induction fuel with
 |zero=>
  intro listed a w _ hr hy hS H;refine⟨λh=>(by rw[h]at hr;cases hr),λj hj=>?_⟩
  by_cases B1:j=i
  ·subst B1;exact hy.wpOp hi hS ⟨λ_=>hS,H⟩
  ·have:=ready_mono hj B1;rw[H.1]at this
   cases this
 |succ fuel ih=>
  intro listed a w B3 hr hy hS H;refine⟨λh=>(by rw[h]at hr;cases hr),λj hj=>?_⟩
  by_cases B1:j=i
  ·subst B1;exact hy.wpOp hi hS ⟨λ_=>hS,H⟩
  ·have h1:=H.2 j (ready_mono hj B1);obtain⟨B5,oj,B6,B8⟩:=mem_ready.1 hj;have Ca:j≠last:=λe=>j9 Ce (mem_ready.1 hr).1 (e▸hj)
   have B7:∀e∈oj.after,Region.binds .any e=true->e.on≠i:=λe he hb Cf=>by
    have h1:=B8 e he hb;have h0:=(mem_ready.1 hr).1;rw[Cf]at h1
    rcases Nat.lt_or_ge i listed.size with h'|h'
    ·simp[h']at h0 h1;rw[h0]at h1;cases h1
    ·simp[Array.getElem?_eq_none h']at h1
   have h2:=wpOp_putIf B6 (B3 j oj B6 B1 B5 B7) (λcs b=>B4 i oi cs b hi) (λcs b=>B4 j oj cs b B6) hQ hy h1;have hfree':∀k ok,ops[k]?=some ok->k≠i->(listed.setIfInBounds j true).getD k true=false->
     (∀e∈ok.after,Region.binds .any e=true->e.on≠i)->oi.apart ops ok=true:=λk ok hk Cd B9 Cc=>by
    refine B3 k ok hk Cd ?_ Cc
    by_cases Cb:j=k
    ·subst Cb;exact B5
    ·rw[getD_set_ne true Cb]at B9;exact B9
   refine wpOp_mono (λa' w' h3=>⟨λ_=>h3.2.1 Ca,ih (listed.setIfInBounds j true) a' w' hfree' (ready_mono hr (Ne.symm B1)) h3.1 (h3.2.1 Ca) ?_⟩) h2;rw[Array.setIfInBounds_comm _ _ B1];exact h3.2.2
theorem aB{listed:Array Bool}{a:Act}{w:World}(hr:Region.ready .any ops listed=[])(h:Q .normal a w):∀fuel,bB P ops Q S last fuel listed a w
 |0=>⟨hr,h⟩
 |_+1=>⟨λ_=>h,by rw[hr];simp⟩
end
theorem aA{P:Program}{id:Nat}{ops:Array Oper}{Q:Exit->Act->World->Prop}{a:Act}{w:World}(last:Nat)(S:World->Prop)(n:Nat)(hn:ops.size=n)(hm:P.follows .mixedOrders=true)(hS:S w.drew)
  (h:∀(a':Act) (Q':Exit->Act->World->Prop),Shut (a'=a)->Shut (∀a w,Q .normal a w->Q' .normal a w)->(∀c (a:Act) d v w,Q' (.panic c) (a.put d v) w->Q' (.panic c) a w)->S w.drew->bB P ops Q' S last n (Array.replicate n false) a' w.drew):
  (Code.region id ops true).wp P Q a w:=by
 subst hn;exact wp_region_noPanic (wp_region_any hm (jY _ _ _ _ (h a (NoPanic Q) rfl (λ_ _ h=>h) (λ_ _ _ _ _ h=>h) hS)))
theorem evq{a:Act}{d e:Nat}{v u:Value}(h:d≠e)(h':a.eval (.tmp e)=u):(a.put (some d) v).eval (.tmp e)=u:=by
 rw[←h'];simp[Act.put,Act.eval,Array.getD_eq_getD_getElem?,alM h]
theorem eve{a:Act}{d:Nat}{v:Value}(h:d<a.tmps.size):(a.put (some d) v).eval (.tmp d)=v:=by
 simp[Act.put,Act.eval,Array.getD_eq_getD_getElem?,h]
theorem szq{a:Act}{d:Option Tmp}{v:Value}{n:Nat}(h:a.tmps.size=n):(a.put d v).tmps.size=n:=by
 rw[←h];cases d<;>simp[Act.put]
theorem evz{a:Act}{d n:Nat}{v:Value}(hs:a.tmps.size=n)(h:d<n:=by decide):(a.put (some d) v).eval (.tmp d)=v:=
 eve (Nat.lt_of_lt_of_eq h hs.symm)
theorem ev1{a:Act}{d0 e:Nat}{v0 u:Value}(h':a.eval (.tmp e)=u)(h:d0≠e:=by decide):(a.put (some d0) v0).eval (.tmp e)=u:=
 (evq h h')
theorem sz1{a:Act}{d0:Option Tmp}{v0:Value}{n:Nat}(h:a.tmps.size=n):(a.put d0 v0).tmps.size=n:=
 (szq h)
theorem ev2{a:Act}{d0 d1 e:Nat}{v0 v1 u:Value}(h':a.eval (.tmp e)=u)(h:d1≠e/\d0≠e:=by decide):((a.put (some d0) v0).put (some d1) v1).eval (.tmp e)=u:=
 (evq h.1 (evq h.2 h'))
theorem sz2{a:Act}{d0 d1:Option Tmp}{v0 v1:Value}{n:Nat}(h:a.tmps.size=n):((a.put d0 v0).put d1 v1).tmps.size=n:=
 (szq (szq h))
theorem ev4{a:Act}{d0 d1 d2 d3 e:Nat}{v0 v1 v2 v3 u:Value}(h':a.eval (.tmp e)=u)(h:d3≠e/\d2≠e/\d1≠e/\d0≠e:=by decide):((((a.put (some d0) v0).put (some d1) v1).put (some d2) v2).put (some d3) v3).eval (.tmp e)=u:=
 (evq h.1 (evq h.2.1 (evq h.2.2.1 (evq h.2.2.2 h'))))
theorem sz4{a:Act}{d0 d1 d2 d3:Option Tmp}{v0 v1 v2 v3:Value}{n:Nat}(h:a.tmps.size=n):((((a.put d0 v0).put d1 v1).put d2 v2).put d3 v3).tmps.size=n:=
 (szq (szq (szq (szq h))))
theorem ev8{a:Act}{d0 d1 d2 d3 d4 d5 d6 d7 e:Nat}{v0 v1 v2 v3 v4 v5 v6 v7 u:Value}(h':a.eval (.tmp e)=u)(h:d7≠e/\d6≠e/\d5≠e/\d4≠e/\d3≠e/\d2≠e/\d1≠e/\d0≠e:=by decide):((((((((a.put (some d0) v0).put (some d1) v1).put (some d2) v2).put (some d3) v3).put (some d4) v4).put (some d5) v5).put (some d6) v6).put (some d7) v7).eval (.tmp e)=u:=
 (evq h.1 (evq h.2.1 (evq h.2.2.1 (evq h.2.2.2.1 (evq h.2.2.2.2.1 (evq h.2.2.2.2.2.1 (evq h.2.2.2.2.2.2.1 (evq h.2.2.2.2.2.2.2 h'))))))))
theorem sz8{a:Act}{d0 d1 d2 d3 d4 d5 d6 d7:Option Tmp}{v0 v1 v2 v3 v4 v5 v6 v7:Value}{n:Nat}(h:a.tmps.size=n):((((((((a.put d0 v0).put d1 v1).put d2 v2).put d3 v3).put d4 v4).put d5 v5).put d6 v6).put d7 v7).tmps.size=n:=
 (szq (szq (szq (szq (szq (szq (szq (szq h))))))))
theorem vC{P:Program}{t:TypeId}{p:Addr}{v:Value}{w:World}(B1:∀w,(isAgg t).run P w=.ok false w)(hc:w.cell? p=some v):(Instr.loadAt t (.pointer (some p))).run P w=.ok v w:=by
 simp[Instr.loadAt,go_sem,B1,hc]
theorem aH{P:Program}{t:TypeId}{p:Addr}{v:Value}{w:World}(hc:w.cell? p=some v)(B1:∀w,(isAgg t).run P w=.ok false w:=by intro _;kernel_rfl):(Instr.loadAt t (.pointer (some p))).run P w=.ok v w:=vC B1 hc
section
variable {P:Program} {ops:Array Oper} {Q:Exit->Act->World->Prop} {S:World->Prop} {last:Nat} {i:Nat} {fuel:Nat} {listed:Array Bool} {a:Act} {w:World} {oi:Oper} {v:Value}
def iY (ops:Array Oper) (last:Nat) (listed:Array Bool) (i:Nat):Bool:=Region.noSelect ops&&Region.free .any ops listed i&&(Region.ready .any ops listed).contains i&&iD ops last i&&(match ops[i]? with|some o=>o.guard.isNone|none=>false)
theorem tk{d:Option Tmp}(hi:ops[i]?=some oi)(hd:oi.dst=d)(B1:iY ops last listed i=true)(hQ:∀c (a:Act) d v w,Q (.panic c) (a.put d v) w->Q (.panic c) a w)
  (hr:∀w,S w->(execOp a.eval oi).run P w=.ok (.value v) w) (hS:S w)
  (h:bB P ops Q S last fuel (listed.setIfInBounds i true) (a.put d v) w):bB P ops Q S last (fuel+1) listed a w:=by
 subst hd;unfold iY at B1;simp only[hi,Bool.and_eq_true]at B1;obtain⟨⟨⟨⟨h1,h2⟩,h3⟩,h5⟩,h4⟩:=B1;refine jz hi h5 (Region.noSelect_spec h1) (λc a w=>hQ c a _ _ w) fuel listed a w (Region.free_spec hi h2) (by simpa using h3) (Or.inl ⟨?_,hr⟩) hS h;simp only[Option.isNone_iff_eq_none]at h4;simp[Region.wanted,h4]
theorem tkA(i:Nat)(d:Option Tmp)(hi:ops[i]?=some oi)(hd:oi.dst=d)(hQ:∀c (a:Act) d v w,Q (.panic c) (a.put d v) w->Q (.panic c) a w)(hr:∀w,S w->(execOp a.eval oi).run P w=.ok (.value v) w)(hS:S w)(h:bB P ops Q S last fuel (listed.setIfInBounds i true) (a.put d v) w)(B1:iY ops last listed i=true:=by kernel_rfl):bB P ops Q S last (fuel+1) listed a w:=
 tk hi hd B1 hQ hr hS h
theorem cX{d:Option Tmp}{x:Operand}(hi:ops[i]?=some oi)(hd:oi.dst=d)(ho:oi.op=.move x)(B1:iY ops last listed i=true)(hQ:∀c (a:Act) d v w,Q (.panic c) (a.put d v) w->Q (.panic c) a w)(hx:a.eval x=v)(hS:S w)
  (h:bB P ops Q S last fuel (listed.setIfInBounds i true) (a.put d v) w):bB P ops Q S last (fuel+1) listed a w:=
 tk hi hd B1 hQ (λw _=>by unfold execOp;simp only[ho,hx];simp[go_sem]) hS h
theorem iE{d:Option Tmp}{x:Operand}{p:Addr}(hi:ops[i]?=some oi)(hd:oi.dst=d)(ho:oi.op=.nilCheck x)(B1:iY ops last listed i=true)(hQ:∀c (a:Act) d v w,Q (.panic c) (a.put d v) w->Q (.panic c) a w)(hx:a.eval x=.pointer (some p))(hS:S w)
  (h:bB P ops Q S last fuel (listed.setIfInBounds i true) (a.put d (.pointer (some p))) w):bB P ops Q S last (fuel+1) listed a w:=
 tk hi hd B1 hQ (λw _=>by unfold execOp;simp only[ho,hx];simp[go_sem]) hS h
theorem de{d:Option Tmp}{x:Operand}{t:TypeId}{f:Nat}{p p':Addr}(hi:ops[i]?=some oi)(hd:oi.dst=d)(ho:oi.op=.fieldAddr t x f)(B1:iY ops last listed i=true)(hQ:∀c (a:Act) d v w,Q (.panic c) (a.put d v) w->Q (.panic c) a w)(hx:a.eval x=.pointer (some p))
  (hf:∀w,(Instr.fieldAt t (.pointer (some p)) f).run P w=.ok (.pointer (some p')) w) (hS:S w)
  (h:bB P ops Q S last fuel (listed.setIfInBounds i true) (a.put d (.pointer (some p'))) w):bB P ops Q S last (fuel+1) listed a w:=
 tk hi hd B1 hQ (λw _=>by unfold execOp;simp only[ho,hx];simp only[Sem.run_bind,hf,Result.andThen,Sem.run_pure]) hS h
theorem du{d:Option Tmp}{x:Operand}{t:TypeId}{p:Addr}(hi:ops[i]?=some oi)(hd:oi.dst=d)(ho:oi.op=.load t x)(B1:iY ops last listed i=true)(hQ:∀c (a:Act) d v w,Q (.panic c) (a.put d v) w->Q (.panic c) a w)(hx:a.eval x=.pointer (some p))
  (hf:∀w,S w->(Instr.loadAt t (.pointer (some p))).run P w=.ok v w) (hS:S w)
  (h:bB P ops Q S last fuel (listed.setIfInBounds i true) (a.put d v) w):bB P ops Q S last (fuel+1) listed a w:=
 tk hi hd B1 hQ (λw hw=>by unfold execOp;simp only[ho,hx];simp only[Sem.run_bind,hf w hw,Result.andThen,Sem.run_pure]) hS h
theorem tV(hr:Region.ready .any ops listed=[i])(hi:ops[i]?=some oi)
  (h:∀K':Act->World->Prop,Shut (∀a w,(i≠last->S w)->bB P ops Q S last fuel (listed.setIfInBounds i true) a w->K' a w)->if Region.wanted oi (yielded ops a.tmps)=true then Oper.wp P oi a w K' Q else K' (a.put oi.dst undef) w):
  bB P ops Q S last (fuel+1) listed a w:=by
 refine⟨λh0=>(by rw[hr]at h0;cases h0),λj hj=>?_⟩;rw[hr]at hj;obtain rfl:j=i:=by simpa using hj
 exact wpOp_step hi (λK' hK=>h K' (λa w hS hW=>hK a w ⟨hS,hW⟩))
theorem tq{K:Act->World->Prop}{E:Prop}{w':World}(B1:oi.guard=none)(hr:(execOp a.eval oi).run P w=.ok (.value v) w')(h:K (a.put oi.dst v) w'):
  if Region.wanted oi (yielded ops a.tmps)=true then Oper.wp P oi a w K Q else E:=by
 have hw:Region.wanted oi (yielded ops a.tmps)=true:=by simp[Region.wanted,B1]
 rw[if_pos hw];unfold Oper.wp;rw[hr];exact h
theorem bz{d:Option Tmp}{w':World}(hr:Region.ready .any ops listed=[i])(hi:ops[i]?=some oi)(hd:oi.dst=d)(B1:oi.guard=none)(he:(execOp a.eval oi).run P w=.ok (.value v) w')(hS:i≠last->S w')
  (h:bB P ops Q S last fuel (listed.setIfInBounds i true) (a.put d v) w'):bB P ops Q S last (fuel+1) listed a w:=by
 subst hd;exact tV hr hi (λ_ hK=>tq B1 he (hK.out _ _ hS h))
theorem cE{d:Option Tmp}{f:FuncId}{fn:Func}{c:Code}{xs:Array Operand}{ts:Array TypeId}{args:Array Value}{R:Ending->World->Prop}(hr:Region.ready .any ops listed=[i])(hi:ops[i]?=some oi)(hd:oi.dst=d)(B3:oi.guard=none)
  (ho:oi.op=.call {callee:=.value (.func f),args:=xs,argTypes:=ts}) (hf:P.funcs[f]?=some fn) (B1:(fn.name== "runtime.NumGoroutine")=false) (hb:fn.body=some c) (ha:xs.map a.eval=args) (hc:Calls P f args w R)
  (h:∀e w',R e w'->∃v,e=.returned v/\(i≠last->S w')/\bB P ops Q S last fuel (listed.setIfInBounds i true) (a.put d v) w'):bB P ops Q S last (fuel+1) listed a w:=by
 subst hd;exact tV hr hi (λ_ hK=>rb B3 f fn c hf B1 hb xs ts ho args ha hc (λe w' hR=>let ⟨v,h1,h2,h3⟩:=h e w' hR;⟨v,h1,hK.out _ _ h2 h3⟩))
theorem o2{K:Act->World->Prop}{E:Prop}(B1:oi.guard=none){t:TypeId}{x y:Operand}(ho:oi.op=.store t x y)(hd:oi.dst=none){p:Addr}{w':World}(hp:a.eval x=.pointer (some p))(hv:a.eval y=v)
  (hs:(Instr.storeAt t (.pointer (some p)) v).run P w=.ok () w') (h:K a w'):if Region.wanted oi (yielded ops a.tmps)=true then Oper.wp P oi a w K Q else E:=by
 have hw:Region.wanted oi (yielded ops a.tmps)=true:=by simp[Region.wanted,B1]
 rw[if_pos hw];have hr:(execOp a.eval oi).run P w=.ok .skip w':=by
  unfold execOp;simp only[ho,hp,hv,Sem.run_bind,hs,Result.andThen,Sem.run_pure]
 unfold Oper.wp;rw[hr,Oper.upon_skip,hd];exact h
theorem et{t:TypeId}{x y:Operand}{p:Addr}{u:Value}(hr:Region.ready .any ops listed=[i])(hi:ops[i]?=some oi)(B1:oi.guard=none)(ho:oi.op=.store t x y)(hd:oi.dst=none)(hp:a.eval x=.pointer (some p))(hv:a.eval y=v)
  (hs:∀w,w.cell? p=some u->w.frozen? p=false->(Instr.storeAt t (.pointer (some p)) v).run P w=.ok () (w.setCell p v)) (hc:w.cell? p=some u) (hf:w.frozen? p=false) (hS:i≠last->S (w.setCell p v))
  (h:bB P ops Q S last fuel (listed.setIfInBounds i true) a (w.setCell p v)):bB P ops Q S last (fuel+1) listed a w:=
 tV hr hi (λ_ hK=>o2 B1 ho hd hp hv (hs w hc hf) (hK.out _ _ hS h))
end
def jb (P:Program) (t e:TypeId) (size bytes:Nat):Prop:=∃i z,P.underlying t=some (.slice e)/\P.info? e=some i/\i.zero=some z/\i.size=size/\i.bytes=bytes/\z.cells.size=size
section
variable {P:Program} {ops:Array Oper} {Q:Exit->Act->World->Prop} {S:World->Prop} {last:Nat} {i:Nat} {fuel:Nat} {listed:Array Bool} {a:Act} {w:World} {oi:Oper} {v:Value} {d:Option Tmp}
theorem cZ{s x:Operand}{t e:TypeId}{size bytes base n:Nat}{xs:List Value}{ad:Addr}{m c:Nat}(B1:List Value)(hr:Region.ready .any ops listed=[i])(hi:ops[i]?=some oi)(hd:oi.dst=d)(B8:oi.guard=none)
  (ho:oi.op=.call {callee:=.builtin .append,args:=#[s,x],argTypes:=#[t,t]}) (hE:jb P t e size bytes) (B7:0<size) (hs:a.eval s=v) (B6:w.ownsRow base e size v n xs)
  (hx:a.eval x=.slice (some ad) m c) (hl:B1.length=m*size) (B4:∀j u,B1[j]?=some u->w.cell? (ad.add j)=some u) (h1:∀u∈B1,u.oneCell'=true)
  (hm:0<m) (B9:n+m<=maxLen) (B3:(n+m)*bytes<=140737488355328) (B5:base<=w.heap.size)
  (h:∀g cap w',w'.ownsRow base e size (.slice (some ⟨g,0,none⟩) (n+m) cap) (n+m) (xs++B1)->w.grownBy w' v.ownBlock->(v.ownBlock=some g∨g=w.heap.size)->g<w'.heap.size->
   (i≠last->S w')/\bB P ops Q S last fuel (listed.setIfInBounds i true) (a.put d (.slice (some ⟨g,0,none⟩) (n+m) cap)) w'):bB P ops Q S last (fuel+1) listed a w:=by
 subst hd;obtain⟨i0,z,e1,e2,e3,e4,e5,e6⟩:=hE;exact tV hr hi (λ_ hK=>step_append_lies w B8 s x t ho base e i0 z size bytes e1 e2 e3 e4 e5 e6 B7 v n xs hs B6 ad m c B1 hx hl B4 h1 hm B9 B3 B5 _ rfl
  (λg cap w' a1 a2 a3 a4=>let ⟨h5,h6⟩:=h g cap w' a1 a2 a3 a4;hK.out _ _ h5 h6))
theorem lD{x:Operand}{p:Addr}(hr:Region.ready .any ops listed=[i])(hi:ops[i]?=some oi)(hd:oi.dst=d)(B1:oi.guard=none)(ho:oi.op=.nilCheck x)(hx:a.eval x=.pointer (some p))(hS:i≠last->S w)
  (h:bB P ops Q S last fuel (listed.setIfInBounds i true) (a.put d (.pointer (some p))) w):bB P ops Q S last (fuel+1) listed a w:=
 bz hr hi hd B1 (by unfold execOp;simp only[ho,hx];simp[go_sem]) hS h
theorem fw{x:Operand}{t:TypeId}{f:Nat}{p p':Addr}(hr:Region.ready .any ops listed=[i])(hi:ops[i]?=some oi)(hd:oi.dst=d)(B1:oi.guard=none)(ho:oi.op=.fieldAddr t x f)(hx:a.eval x=.pointer (some p))
  (hf:∀w,(Instr.fieldAt t (.pointer (some p)) f).run P w=.ok (.pointer (some p')) w) (hS:i≠last->S w)
  (h:bB P ops Q S last fuel (listed.setIfInBounds i true) (a.put d (.pointer (some p'))) w):bB P ops Q S last (fuel+1) listed a w:=
 bz hr hi hd B1 (by unfold execOp;simp only[ho,hx];simp only[Sem.run_bind,hf,Result.andThen,Sem.run_pure]) hS h
theorem tW{t:TypeId}{x y:Operand}{u1 u2:Value}(hr:Region.ready .any ops listed=[i])(hi:ops[i]?=some oi)(hd:oi.dst=d)(B1:oi.guard=none)(ho:oi.op=.indexAddr t x y)(hx:a.eval x=u1)(hy:a.eval y=u2)
  (hf:∀w,(Instr.indexAt t u1 u2).run P w=.ok v w) (hS:i≠last->S w)
  (h:bB P ops Q S last fuel (listed.setIfInBounds i true) (a.put d v) w):bB P ops Q S last (fuel+1) listed a w:=
 bz hr hi hd B1 (by unfold execOp;simp only[ho,hx,hy,Sem.run_bind,hf,Result.andThen,Sem.run_pure]) hS h
theorem dl{t:TypeId}{x:Operand}{u:Value}{w':World}(hr:Region.ready .any ops listed=[i])(hi:ops[i]?=some oi)(hd:oi.dst=d)(B1:oi.guard=none)(ho:oi.op=.buildSlice t 1 #[(0,x)])(hx:a.eval x=u)
  (he:(Instr.buildSlice t 1 #[(0,u)]).run P w=.ok v w') (hS:i≠last->S w')
  (h:bB P ops Q S last fuel (listed.setIfInBounds i true) (a.put d v) w'):bB P ops Q S last (fuel+1) listed a w:=by
 refine bz hr hi hd B1 ?_ hS h;unfold execOp;simp only[ho,List.map_toArray,List.map_cons,List.map_nil,hx,Sem.run_bind,he,Result.andThen,Sem.run_pure]
theorem Bj{op:BinOp}{tx ty:TypeId}{x y:Operand}{u1 u2:Value}(hi:ops[i]?=some oi)(hd:oi.dst=d)(ho:oi.op=.binOp op tx x y ty)(B1:iY ops last listed i=true)(hQ:∀c (a:Act) d v w,Q (.panic c) (a.put d v) w->Q (.panic c) a w)
  (hx:a.eval x=u1) (hy:a.eval y=u2) (hf:∀w,(do eqGuard op tx x y u1 u2;binOp op tx u1 u2:Sem Value).run P w=.ok v w) (hS:S w)
  (h:bB P ops Q S last fuel (listed.setIfInBounds i true) (a.put d v) w):bB P ops Q S last (fuel+1) listed a w:=
 tk hi hd B1 hQ (λw _=>by unfold execOp;simp only[ho,hx,hy];rw[Sem.run_bind,hf];rfl) hS h
theorem tj{t:TypeId}{x y:Operand}{u1 u2:Value}(hi:ops[i]?=some oi)(hd:oi.dst=d)(ho:oi.op=.indexAddr t x y)(B1:iY ops last listed i=true)(hQ:∀c (a:Act) d v w,Q (.panic c) (a.put d v) w->Q (.panic c) a w)
  (hx:a.eval x=u1) (hy:a.eval y=u2) (hf:∀w,(Instr.indexAt t u1 u2).run P w=.ok v w) (hS:S w)
  (h:bB P ops Q S last fuel (listed.setIfInBounds i true) (a.put d v) w):bB P ops Q S last (fuel+1) listed a w:=
 tk hi hd B1 hQ (λw _=>by unfold execOp;simp only[ho,hx,hy,Sem.run_bind,hf,Result.andThen,Sem.run_pure]) hS h
theorem yL{x:Operand}{u1:Value}(hi:ops[i]?=some oi)(hd:oi.dst=d)(B1:iY ops last listed i=true)(hQ:∀c (a:Act) d v w,Q (.panic c) (a.put d v) w->Q (.panic c) a w)
  (hx:a.eval x=u1) (hf:∀(ρ:Operand->Value) w,ρ x=u1->(execOp ρ oi).run P w=.ok (.value v) w) (hS:S w)
  (h:bB P ops Q S last fuel (listed.setIfInBounds i true) (a.put d v) w):bB P ops Q S last (fuel+1) listed a w:=
 tk hi hd B1 hQ (λw _=>hf _ w hx) hS h
end
section
variable {P:Program} {ops:Array Oper} {Q:Exit->Act->World->Prop} {S:World->Prop} {last:Nat} {i:Nat} {fuel:Nat} {listed:Array Bool} {a:Act} {w:World} {oi:Oper} {v:Value} {d:Option Tmp}
theorem ah{x:Operand}(ho:oi.op=.move x)(hx:a.eval x=v):(execOp a.eval oi).run P w=.ok (.value v) w:=by unfold execOp;simp only[ho,hx];simp[go_sem]
theorem aR{x:Operand}(ho:oi.op=.assign x)(hx:a.eval x=v):(execOp a.eval oi).run P w=.ok (.value v) w:=by unfold execOp;simp only[ho,hx];simp[go_sem]
theorem ei{c x y:Operand}{b:Bool}{u1 u2:Value}(ho:oi.op=.pick c x y)(hc:a.eval c=.bool b)(hx:a.eval x=u1)(hy:a.eval y=u2)(hv:(if b then u1 else u2)=v):(execOp a.eval oi).run P w=.ok (.value v) w:=by
 unfold execOp;simp only[ho,hc,hx,hy];subst hv;cases b<;>simp[go_sem]
theorem aS{x:Operand}{p:Addr}(ho:oi.op=.nilCheck x)(hx:a.eval x=.pointer (some p)):(execOp a.eval oi).run P w=.ok (.value (.pointer (some p))) w:=by unfold execOp;simp only[ho,hx];simp[go_sem]
theorem je{x:Operand}{t:TypeId}{f:Nat}{p p':Addr}(ho:oi.op=.fieldAddr t x f)(hx:a.eval x=.pointer (some p))(hf:∀w,(Instr.fieldAt t (.pointer (some p)) f).run P w=.ok (.pointer (some p')) w):(execOp a.eval oi).run P w=.ok (.value (.pointer (some p'))) w:=by
 unfold execOp;simp only[ho,hx];simp only[Sem.run_bind,hf,Result.andThen,Sem.run_pure]
theorem aj{x:Operand}{t:TypeId}{f:Nat}{p:Addr}(p':Addr)(ho:oi.op=.fieldAddr t x f)(hx:a.eval x=.pointer (some p))(hf:∀w,(Instr.fieldAt t (.pointer (some p)) f).run P w=.ok (.pointer (some p')) w:=by intro _;kernel_rfl):(execOp a.eval oi).run P w=.ok (.value (.pointer (some p'))) w:=je ho hx hf
theorem aq{x:Operand}{t:TypeId}{p:Addr}(ho:oi.op=.load t x)(hx:a.eval x=.pointer (some p))(hf:(Instr.loadAt t (.pointer (some p))).run P w=.ok v w):(execOp a.eval oi).run P w=.ok (.value v) w:=by
 unfold execOp;simp only[ho,hx];simp only[Sem.run_bind,hf,Result.andThen,Sem.run_pure]
theorem bA{op:BinOp}{tx ty:TypeId}{x y:Operand}{u1 u2:Value}(ho:oi.op=.binOp op tx x y ty)(hx:a.eval x=u1)(hy:a.eval y=u2)(hf:(do eqGuard op tx x y u1 u2;binOp op tx u1 u2:Sem Value).run P w=.ok v w):(execOp a.eval oi).run P w=.ok (.value v) w:=by
 unfold execOp;simp only[ho,hx,hy];rw[Sem.run_bind,hf];rfl
theorem Bl{op:UnOp}{tx:TypeId}{x:Operand}{u1:Value}(ho:oi.op=.unOp op tx x)(hx:a.eval x=u1)(hf:(Op.unary op u1).run P w=.ok v w):(execOp a.eval oi).run P w=.ok (.value v) w:=by
 unfold execOp;simp only[ho,hx,Sem.run_bind,hf,Result.andThen,Sem.run_pure]
theorem bJ{t:TypeId}{x y:Operand}{u1 u2:Value}(ho:oi.op=.indexAddr t x y)(hx:a.eval x=u1)(hy:a.eval y=u2)(hf:(Instr.indexAt t u1 u2).run P w=.ok v w):(execOp a.eval oi).run P w=.ok (.value v) w:=by
 unfold execOp;simp only[ho,hx,hy,Sem.run_bind,hf,Result.andThen,Sem.run_pure]
theorem cK{x:Operand}{k:Nat}{u1:Value}(ho:oi.op=.extract x k)(hx:a.eval x=u1)(hf:(Instr.extract u1 k).run P w=.ok v w):(execOp a.eval oi).run P w=.ok (.value v) w:=by
 unfold execOp;simp only[ho,hx,Sem.run_bind,hf,Result.andThen,Sem.run_pure]
theorem fh{t:TypeId}{x:Operand}{lo hi:Option Operand}{u1:Value}{l h:Option Value}(ho:oi.op=.slice t x lo hi none)(hx:a.eval x=u1)(hl:lo.map a.eval=l)(hh:hi.map a.eval=h)(hf:(Instr.sliceAt t u1 l h none).run P w=.ok v w):(execOp a.eval oi).run P w=.ok (.value v) w:=by
 unfold execOp;simp only[ho,hx,hl,hh,Option.map_none,Sem.run_bind,hf,Result.andThen,Sem.run_pure]
theorem d8{t:TypeId}{x y:Operand}{u1 u2:Value}(ho:oi.op=.build t #[(0,x),(1,y)])(hx:a.eval x=u1)(hy:a.eval y=u2)(hf:(Instr.build t #[(0,u1),(1,u2)]).run P w=.ok v w):(execOp a.eval oi).run P w=.ok (.value v) w:=by
 unfold execOp;simp only[ho,List.map_toArray,List.map_cons,List.map_nil,hx,hy,Sem.run_bind,hf,Result.andThen,Sem.run_pure]
theorem lW{t:TypeId}{x:Operand}{u1:Value}(ho:oi.op=.call {callee:=.builtin .len,args:=#[x],argTypes:=#[t]})(hx:a.eval x=u1)(hf:∀ρ:Operand->Value,ρ x=u1->(do let d←resolve ρ {callee:=.builtin .len,args:=#[x],argTypes:=#[t]} oi.type;invoke d.target d.args:Sem Next).run P w=.ok (.value v) w):(execOp a.eval oi).run P w=.ok (.value v) w:=by
 unfold execOp;simp only[ho];exact hf _ hx
theorem m9{c:Callee}{t1 t2:TypeId}{x y:Operand}{u1 u2:Value}{w':World}(ho:oi.op=.call {callee:=c,args:=#[x,y],argTypes:=#[t1,t2]})(hx:a.eval x=u1)(hy:a.eval y=u2)(hf:∀ρ:Operand->Value,ρ x=u1->ρ y=u2->(do let d←resolve ρ {callee:=c,args:=#[x,y],argTypes:=#[t1,t2]} oi.type;invoke d.target d.args:Sem Next).run P w=.ok (.value v) w'):(execOp a.eval oi).run P w=.ok (.value v) w':=by
 unfold execOp;simp only[ho];exact hf _ hx hy
theorem iF{t:TypeId}{x y:Operand}{p:Addr}{w':World}(hr:Region.ready .any ops listed=[i])(hi:ops[i]?=some oi)(B1:oi.guard=none)(ho:oi.op=.store t x y)(hd:oi.dst=none)(hp:a.eval x=.pointer (some p))(hv:a.eval y=v)
  (hs:(Instr.storeAt t (.pointer (some p)) v).run P w=.ok () w') (hS:i≠last->S w')
  (h:bB P ops Q S last fuel (listed.setIfInBounds i true) a w'):bB P ops Q S last (fuel+1) listed a w:=
 tV hr hi (λ_ hK=>o2 B1 ho hd hp hv hs (hK.out _ _ hS h))
theorem qZ{j e:Nat}{b c:Bool}(hg:oi.guard=some (j,b))(hj:(ops[j]?).bind (·.dst)=some e)(hv:a.eval (.tmp e)=.bool c):Region.wanted oi (yielded ops a.tmps)=(c==b):=by
 have h1:a.tmps[e]?=some (.bool c):=by
  simp only[Act.eval,Array.getD_eq_getD_getElem?]at hv
  cases h:a.tmps[e]? with
  |none=>rw[h]at hv;cases hv
  |some u=>rw[h]at hv;simp only[Option.getD_some]at hv;rw[hv]
 unfold Region.wanted yielded;simp only[hg,hj,Option.bind_some,h1]
 cases b<;>cases c<;>rfl
theorem au{j e:Nat}{b:Bool}(hg:oi.guard=some (j,b))(hj:(ops[j]?).bind (·.dst)=some e)(hv:a.eval (.tmp e)=.bool b):Region.wanted oi (yielded ops a.tmps)=true:=by
 rw[qZ hg hj hv];cases b<;>rfl
theorem aN{j e:Nat}{b:Bool}(hg:oi.guard=some (j,b))(hj:(ops[j]?).bind (·.dst)=some e)(hv:a.eval (.tmp e)=.bool (!b)):Region.wanted oi (yielded ops a.tmps)=false:=by
 rw[qZ hg hj hv];cases b<;>rfl
def kI (ops:Array Oper) (last:Nat) (listed:Array Bool) (i:Nat):Bool:=Region.noSelect ops&&Region.free .any ops listed i&&(Region.ready .any ops listed).contains i&&iD ops last i
theorem tkg(hi:ops[i]?=some oi)(hd:oi.dst=d)(B1:kI ops last listed i=true)(hQ:∀c (a:Act) d v w,Q (.panic c) (a.put d v) w->Q (.panic c) a w)(hw:Region.wanted oi (yielded ops a.tmps)=true)
  (hr:∀w,S w->(execOp a.eval oi).run P w=.ok (.value v) w) (hS:S w)
  (h:bB P ops Q S last fuel (listed.setIfInBounds i true) (a.put d v) w):bB P ops Q S last (fuel+1) listed a w:=by
 subst hd;unfold kI at B1;simp only[Bool.and_eq_true]at B1;obtain⟨⟨⟨h1,h2⟩,h3⟩,h5⟩:=B1;exact jz hi h5 (Region.noSelect_spec h1) (λc a w=>hQ c a _ _ w) fuel listed a w (Region.free_spec hi h2) (by simpa using h3) (Or.inl ⟨hw,hr⟩) hS h
theorem ip(i:Nat)(d:Option Tmp)(hi:ops[i]?=some oi)(hd:oi.dst=d)(hQ:∀c (a:Act) d v w,Q (.panic c) (a.put d v) w->Q (.panic c) a w)(hw:Region.wanted oi (yielded ops a.tmps)=true)(hr:∀w,S w->(execOp a.eval oi).run P w=.ok (.value v) w)(hS:S w)(h:bB P ops Q S last fuel (listed.setIfInBounds i true) (a.put d v) w)(B1:kI ops last listed i=true:=by kernel_rfl):bB P ops Q S last (fuel+1) listed a w:=
 tkg hi hd B1 hQ hw hr hS h
theorem tkn(hi:ops[i]?=some oi)(hd:oi.dst=d)(B1:kI ops last listed i=true)(hQ:∀c (a:Act) d v w,Q (.panic c) (a.put d v) w->Q (.panic c) a w)(hw:Region.wanted oi (yielded ops a.tmps)=false)(hS:S w)
  (h:bB P ops Q S last fuel (listed.setIfInBounds i true) (a.put d undef) w):bB P ops Q S last (fuel+1) listed a w:=by
 subst hd;unfold kI at B1;simp only[Bool.and_eq_true]at B1;obtain⟨⟨⟨h1,h2⟩,h3⟩,h5⟩:=B1;exact jz hi h5 (Region.noSelect_spec h1) (λc a w=>hQ c a _ _ w) fuel listed a w (Region.free_spec hi h2) (by simpa using h3) (Or.inr ⟨hw,rfl⟩) hS h
theorem oC(i:Nat)(d:Option Tmp)(hi:ops[i]?=some oi)(hd:oi.dst=d)(hQ:∀c (a:Act) d v w,Q (.panic c) (a.put d v) w->Q (.panic c) a w)(hw:Region.wanted oi (yielded ops a.tmps)=false)(hS:S w)(h:bB P ops Q S last fuel (listed.setIfInBounds i true) (a.put d undef) w)(B1:kI ops last listed i=true:=by kernel_rfl):bB P ops Q S last (fuel+1) listed a w:=
 tkn hi hd B1 hQ hw hS h
end
theorem mF{a:Act}{x:Operand}{u:Value}(hx:a.eval x=u):(#[x]:Array Operand).map a.eval=#[u]:=by simp[hx]
theorem fm{a:Act}{x y:Operand}{u v:Value}(hx:a.eval x=u)(hy:a.eval y=v):(#[x,y]:Array Operand).map a.eval=#[u,v]:=by simp[hx,hy]
theorem um{a:Act}{x y z:Operand}{u v t:Value}(hx:a.eval x=u)(hy:a.eval y=v)(hz:a.eval z=t):(#[x,y,z]:Array Operand).map a.eval=#[u,v,t]:=by simp[hx,hy,hz]
end Go.Proofs.YtlbcgmlhaeeoeaaGreatDoor
