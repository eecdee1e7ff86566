import Derived.Test.YtlbcgmlhaeeoeaaGreatDoorQ4
import Derived.Test.YtlbcgmlhaeeoeaaGreatDoorQ15
import Derived.Lib.Builder
set_option maxRecDepth 100000
set_option maxHeartbeats 16000000
namespace Go.Proofs.YtlbcgmlhaeeoeaaGreatDoor
open Go.RowKit
def fF (brk:List Nat) (listed:Array Bool):Bool:=brk.all λl=>!(listed.getD l true)
section
variable {P:Program} {ops:Array Oper} {Q:Exit->Act->World->Prop} {S:World->Prop} {brk:List Nat}
def dv (P:Program) (ops:Array Oper) (Q:Exit->Act->World->Prop) (S:World->Prop) (brk:List Nat):Nat->Array Bool->Act->World->Prop
 |0,listed,a,w=>Region.ready .any ops listed=[]/\Q .normal a w
 |fuel+1,listed,a,w=>
  (Region.ready .any ops listed=[]->Q .normal a w)/\
  ∀i∈Region.ready .any ops listed,wpOp P ops Q i (λa' w'=>(fF brk (listed.setIfInBounds i true)=true->S w')/\dv P ops Q S brk fuel (listed.setIfInBounds i true) a' w') a w
theorem kQ:∀(fuel:Nat) (listed:Array Bool) (a:Act) (w:World),dv P ops Q S brk fuel listed a w->wpAny P .any ops Q fuel listed a w
 |0,_,_,_,h=>h
 |fuel+1,_,_,_,h=>⟨h.1,λi hi=>wpOp_mono (λa' w' h'=>kQ fuel _ a' w' h'.2) (h.2 i hi)⟩
theorem q7{listed:Array Bool}{i:Nat}(h:fF brk (listed.setIfInBounds i true)=true):fF brk listed=true:=by
 unfold fF at*;rw[List.all_eq_true]at*;intro l hl;have h1:=h l hl
 by_cases e:i=l
 ·subst e
  rcases Nat.lt_or_ge i listed.size with h'|h'
  ·simp[h']at h1
  ·simp at h1
 ·rwa [getD_set_ne true e]at h1
theorem nN{listed:Array Bool}{i:Nat}(hi:i∉brk)(h:fF brk listed=true):fF brk (listed.setIfInBounds i true)=true:=by
 unfold fF at*;rw[List.all_eq_true]at*;intro l hl;have B1:i≠l:=by rintro rfl;exact hi hl
 rw[getD_set_ne true B1];exact h l hl
theorem jy{i:Nat}{oi:Oper}{v:Value}{T:World->Prop}(hi:ops[i]?=some oi)(Ch:i∉brk)(B7:∀(j:Nat) (o:Oper) cs b,ops[j]?=some o->o.op≠.select cs b)
  (hQ:∀c a w,Q (.panic c) (a.put oi.dst v) w->Q (.panic c) a w)
  (hT:(∀w,T w)∨((∀w,S w->T w)/\brk.all (λl=>iD ops l i)=true)):
  ∀(fuel:Nat) (listed:Array Bool) (a:Act) (w:World),
   (∀j oj,ops[j]?=some oj->j≠i->listed.getD j true=false->(∀e∈oj.after,Region.binds .any e=true->e.on≠i)->oi.apart ops oj=true)->
   i∈Region.ready .any ops listed->YieldsIf P ops T oi v a->T w->(fF brk listed=true->S w)->((∀w,T w)∨fF brk listed=true)->
   dv P ops Q S brk fuel (listed.setIfInBounds i true) (a.put oi.dst v) w->dv P ops Q S brk (fuel+1) listed a w:=by
 intro fuel
 induction fuel with
 |zero=>
  intro listed a w _ hr hy Cc hS _ H;refine⟨λh=>(by rw[h]at hr;cases hr),λj hj=>?_⟩
  by_cases B1:j=i
  ·subst B1;exact hy.wpOp hi Cc ⟨λh=>hS (q7 h),H⟩
  ·have:=ready_mono hj B1;rw[H.1]at this
   cases this
 |succ fuel ih=>
  intro listed a w B3 hr hy Cc hS B6 H;refine⟨λh=>(by rw[h]at hr;cases hr),λj hj=>?_⟩
  by_cases B1:j=i
  ·subst B1;exact hy.wpOp hi Cc ⟨λh=>hS (q7 h),H⟩
  ·have h1:=H.2 j (ready_mono hj B1);obtain⟨B8,oj,B9,Cb⟩:=mem_ready.1 hj;have Ca:∀e∈oj.after,Region.binds .any e=true->e.on≠i:=λe he hb Ci=>by
    have h1:=Cb e he hb;have h0:=(mem_ready.1 hr).1;rw[Ci]at h1
    rcases Nat.lt_or_ge i listed.size with h'|h'
    ·simp[h']at h0 h1;rw[h0]at h1;cases h1
    ·simp[Array.getElem?_eq_none h']at h1
   have h2:=wpOp_putIf B9 (B3 j oj B9 B1 B8 Ca) (λcs b=>B7 i oi cs b hi) (λcs b=>B7 j oj cs b B9) hQ hy h1;have hfree':∀k ok,ops[k]?=some ok->k≠i->(listed.setIfInBounds j true).getD k true=false->
     (∀e∈ok.after,Region.binds .any e=true->e.on≠i)->oi.apart ops ok=true:=λk ok hk Cg Cd Cf=>by
    refine B3 k ok hk Cg ?_ Cf
    by_cases Ce:j=k
    ·subst Ce;exact B8
    ·rw[getD_set_ne true Ce]at Cd;exact Cd
   have hub':(∀w,T w)∨fF brk (listed.setIfInBounds j true)=true:=by
    rcases hT with hT|⟨_,B5⟩
    ·exact Or.inl hT
    ·rcases B6 with B6|B6
     ·exact Or.inl B6
     ·exact Or.inr (nN (λe=>j9 (List.all_eq_true.1 B5 j e) (mem_ready.1 hr).1 hj) B6)
   refine wpOp_mono (λa' w' h3=>?_) h2;have B4:(listed.setIfInBounds i true).setIfInBounds j true=(listed.setIfInBounds j true).setIfInBounds i true:=Array.setIfInBounds_comm _ _ (Ne.symm B1);have hS':fF brk (listed.setIfInBounds j true)=true->S w':=λh=>h3.2.1 (by rw[B4];exact nN Ch h)
   have hT':T w':=by
    rcases hT with hT|⟨Cj,_⟩
    ·exact hT w'
    ·rcases hub' with h|h
     ·exact h w'
     ·exact Cj w' (hS' h)
   refine⟨hS',ih (listed.setIfInBounds j true) a' w' hfree' (ready_mono hr (Ne.symm B1)) h3.1 hT' hS' hub' ?_⟩;rw[←B4];exact h3.2.2
theorem bW{listed:Array Bool}{a:Act}{w:World}(hr:Region.ready .any ops listed=[])(h:Q .normal a w):∀fuel,dv P ops Q S brk fuel listed a w
 |0=>⟨hr,h⟩
 |_+1=>⟨λ_=>h,by rw[hr];simp⟩
end
theorem bX{P:Program}{id:Nat}{ops:Array Oper}{Q:Exit->Act->World->Prop}{a:Act}{w:World}(brk:List Nat)(S:World->Prop)(n:Nat)(hn:ops.size=n)(hm:P.follows .mixedOrders=true)(hS:S w.drew)
  (h:∀(a':Act) (Q':Exit->Act->World->Prop),Shut (a'=a)->Shut (∀a w,Q .normal a w->Q' .normal a w)->(∀c (a:Act) d v w,Q' (.panic c) (a.put d v) w->Q' (.panic c) a w)->S w.drew->dv P ops Q' S brk n (Array.replicate n false) a' w.drew):
  (Code.region id ops true).wp P Q a w:=by
 subst hn;exact wp_region_noPanic (wp_region_any hm (kQ _ _ _ _ (h a (NoPanic Q) rfl (λ_ _ h=>h) (λ_ _ _ _ _ h=>h) hS)))
section
variable {P:Program} {ops:Array Oper} {Q:Exit->Act->World->Prop} {S:World->Prop} {brk:List Nat} {i:Nat} {fuel:Nat} {listed:Array Bool} {a:Act} {w:World} {oi:Oper} {v:Value} {d:Option Tmp}
def rZ (ops:Array Oper) (brk:List Nat) (listed:Array Bool) (i:Nat):Bool:=Region.noSelect ops&&Region.free .any ops listed i&&(Region.ready .any ops listed).contains i&&brk.all (λl=>iD ops l i)&&fF brk listed&&!(brk.contains i)
def kH (ops:Array Oper) (brk:List Nat) (listed:Array Bool) (i:Nat):Bool:=Region.noSelect ops&&Region.free .any ops listed i&&(Region.ready .any ops listed).contains i&&!(brk.contains i)
theorem af(hg:oi.guard=none):Region.wanted oi (yielded ops a.tmps)=true:=by simp[Region.wanted,hg]
theorem tkv(hi:ops[i]?=some oi)(hd:oi.dst=d)(B1:rZ ops brk listed i=true)(hQ:∀c (a:Act) d v w,Q (.panic c) (a.put d v) w->Q (.panic c) a w)(hw:Region.wanted oi (yielded ops a.tmps)=true)
  (hr:∀w,S w->(execOp a.eval oi).run P w=.ok (.value v) w) (hS:S w)
  (h:dv P ops Q S brk fuel (listed.setIfInBounds i true) (a.put d v) w):dv P ops Q S brk (fuel+1) listed a w:=by
 subst hd;unfold rZ at B1;simp only[Bool.and_eq_true]at B1;obtain⟨⟨⟨⟨⟨h1,h2⟩,h3⟩,h5⟩,h6⟩,h7⟩:=B1;exact jy (T:=S) hi (by simpa using h7) (Region.noSelect_spec h1) (λc a w=>hQ c a _ _ w) (Or.inr ⟨λ_ h=>h,h5⟩) fuel listed a w (Region.free_spec hi h2) (by simpa using h3) (Or.inl ⟨hw,hr⟩) hS (λ_=>hS) (Or.inr h6) h
theorem ft(i:Nat)(d:Option Tmp)(hi:ops[i]?=some oi)(hd:oi.dst=d)(hQ:∀c (a:Act) d v w,Q (.panic c) (a.put d v) w->Q (.panic c) a w)(hw:Region.wanted oi (yielded ops a.tmps)=true)(hr:∀w,S w->(execOp a.eval oi).run P w=.ok (.value v) w)(hS:S w)(h:dv P ops Q S brk fuel (listed.setIfInBounds i true) (a.put d v) w)(B1:rZ ops brk listed i=true:=by kernel_rfl):dv P ops Q S brk (fuel+1) listed a w:=
 tkv hi hd B1 hQ hw hr hS h
theorem tkp(hi:ops[i]?=some oi)(hd:oi.dst=d)(B1:kH ops brk listed i=true)(hQ:∀c (a:Act) d v w,Q (.panic c) (a.put d v) w->Q (.panic c) a w)(hw:Region.wanted oi (yielded ops a.tmps)=true)
  (hr:∀w,(execOp a.eval oi).run P w=.ok (.value v) w) (hS:S w)
  (h:dv P ops Q S brk fuel (listed.setIfInBounds i true) (a.put d v) w):dv P ops Q S brk (fuel+1) listed a w:=by
 subst hd;unfold kH at B1;simp only[Bool.and_eq_true]at B1;obtain⟨⟨⟨h1,h2⟩,h3⟩,h7⟩:=B1;exact jy (T:=λ_=>True) hi (by simpa using h7) (Region.noSelect_spec h1) (λc a w=>hQ c a _ _ w) (Or.inl λ_=>trivial) fuel listed a w (Region.free_spec hi h2) (by simpa using h3) (Or.inl ⟨hw,λw _=>hr w⟩) trivial (λ_=>hS) (Or.inl λ_=>trivial) h
theorem aU(i:Nat)(d:Option Tmp)(hi:ops[i]?=some oi)(hd:oi.dst=d)(hQ:∀c (a:Act) d v w,Q (.panic c) (a.put d v) w->Q (.panic c) a w)(hw:Region.wanted oi (yielded ops a.tmps)=true)(hr:∀w,(execOp a.eval oi).run P w=.ok (.value v) w)(hS:S w)(h:dv P ops Q S brk fuel (listed.setIfInBounds i true) (a.put d v) w)(B1:kH ops brk listed i=true:=by kernel_rfl):dv P ops Q S brk (fuel+1) listed a w:=
 tkp hi hd B1 hQ hw hr hS h
theorem BT(hi:ops[i]?=some oi)(hd:oi.dst=d)(B1:kH ops brk listed i=true)(hQ:∀c (a:Act) d v w,Q (.panic c) (a.put d v) w->Q (.panic c) a w)(hw:Region.wanted oi (yielded ops a.tmps)=false)(hS:S w)
  (h:dv P ops Q S brk fuel (listed.setIfInBounds i true) (a.put d undef) w):dv P ops Q S brk (fuel+1) listed a w:=by
 subst hd;unfold kH at B1;simp only[Bool.and_eq_true]at B1;obtain⟨⟨⟨h1,h2⟩,h3⟩,h7⟩:=B1;exact jy (T:=λ_=>True) hi (by simpa using h7) (Region.noSelect_spec h1) (λc a w=>hQ c a _ _ w) (Or.inl λ_=>trivial) fuel listed a w (Region.free_spec hi h2) (by simpa using h3) (Or.inr ⟨hw,rfl⟩) trivial (λ_=>hS) (Or.inl λ_=>trivial) h
theorem dJ(i:Nat)(d:Option Tmp)(hi:ops[i]?=some oi)(hd:oi.dst=d)(hQ:∀c (a:Act) d v w,Q (.panic c) (a.put d v) w->Q (.panic c) a w)(hw:Region.wanted oi (yielded ops a.tmps)=false)(hS:S w)(h:dv P ops Q S brk fuel (listed.setIfInBounds i true) (a.put d undef) w)(B1:kH ops brk listed i=true:=by kernel_rfl):dv P ops Q S brk (fuel+1) listed a w:=
 BT hi hd B1 hQ hw hS h
theorem vQ(hr:Region.ready .any ops listed=[i])(hi:ops[i]?=some oi)
  (h:∀K':Act->World->Prop,Shut (∀a w,(fF brk (listed.setIfInBounds i true)=true->S w)->dv P ops Q S brk fuel (listed.setIfInBounds i true) a w->K' a w)->if Region.wanted oi (yielded ops a.tmps)=true then Oper.wp P oi a w K' Q else K' (a.put oi.dst undef) w):
  dv P ops Q S brk (fuel+1) listed a w:=by
 refine⟨λh0=>(by rw[hr]at h0;cases h0),λj hj=>?_⟩;rw[hr]at hj;obtain rfl:j=i:=by simpa using hj
 exact wpOp_step hi (λK' hK=>h K' (λa w hS hW=>hK a w ⟨hS,hW⟩))
theorem dN{w':World}(hr:Region.ready .any ops listed=[i])(hi:ops[i]?=some oi)(hd:oi.dst=d)(hw:Region.wanted oi (yielded ops a.tmps)=true)(he:(execOp a.eval oi).run P w=.ok (.value v) w')(hS:fF brk (listed.setIfInBounds i true)=true->S w')
  (h:dv P ops Q S brk fuel (listed.setIfInBounds i true) (a.put d v) w'):dv P ops Q S brk (fuel+1) listed a w:=by
 subst hd;refine vQ hr hi (λK' hK=>?_);rw[if_pos hw];unfold Oper.wp;rw[he];exact hK.out _ _ hS h
theorem ji{t:TypeId}{x y:Operand}{p:Addr}{w':World}(hr:Region.ready .any ops listed=[i])(hi:ops[i]?=some oi)(B1:oi.guard=none)(ho:oi.op=.store t x y)(hd:oi.dst=none)(hp:a.eval x=.pointer (some p))(hv:a.eval y=v)
  (hs:(Instr.storeAt t (.pointer (some p)) v).run P w=.ok () w') (hS:fF brk (listed.setIfInBounds i true)=true->S w')
  (h:dv P ops Q S brk fuel (listed.setIfInBounds i true) a w'):dv P ops Q S brk (fuel+1) listed a w:=
 vQ hr hi (λ_ hK=>o2 B1 ho hd hp hv hs (hK.out _ _ hS h))
theorem fI{f:FuncId}{fn:Func}{c:Code}{x:Operand}{xs:Array Operand}{ts:Array TypeId}{args:Array Value}{R:Ending->World->Prop}(hr:Region.ready .any ops listed=[i])(hi:ops[i]?=some oi)(hd:oi.dst=d)(hw:Region.wanted oi (yielded ops a.tmps)=true)
  (ho:oi.op=.call {callee:=.value x,args:=xs,argTypes:=ts}) (hx:a.eval x=.func (.func f) #[] #[]) (hf:P.funcs[f]?=some fn) (B1:(fn.name== "runtime.NumGoroutine")=false) (hb:fn.body=some c) (ha:xs.map a.eval=args) (hc:Calls P f args w R)
  (h:∀e w',R e w'->∃v,e=.returned v/\(fF brk (listed.setIfInBounds i true)=true->S w')/\dv P ops Q S brk fuel (listed.setIfInBounds i true) (a.put d v) w'):dv P ops Q S brk (fuel+1) listed a w:=by
 subst hd;refine vQ hr hi (λK' hK=>?_);rw[if_pos hw];have hr:(execOp a.eval oi).run P w=.ok (.enter f args) w:=by
  unfold execOp;simp only[ho,resolve,hx];simp[invoke,Deferred.ofValue,ha];exact Go.MuLone.run_callFunc_enter hf B1 hb args w
 unfold Oper.wp;rw[hr,Oper.upon_enter];refine hc.mono λe w' hR=>?_
 obtain⟨v,rfl,h2,h3⟩:=h e w' hR;exact hK.out _ _ h2 h3
end
end Go.Proofs.YtlbcgmlhaeeoeaaGreatDoor
namespace Go.Proofs.YtlbcgmlhaeeoeaaGreatDoor
open Go.RowKit Go.Lib
theorem ae{w:World}{P o:Nat}{cs:Array Value}{t:TypeId}{v:Value}(h:w.heap[P]?=some (.cells cs t (0,0)))(hc:cs[o]?=some v):w.cell? ⟨P,o,none⟩=some v:=by
 simp[World.cell?,h,hc]
theorem aD{w:World}{P:Nat}{cs:Array Value}{t:TypeId}(h:w.heap[P]?=some (.cells cs t (0,0)))(o:Nat):w.frozen? ⟨P,o,none⟩=false:=by
 simp[World.frozen?,h]
theorem kr:(Tryz.prog.info? 5).map (λi=>(i.zero,i.size,i.bytes))=some (some (.int .u8 0),1,1):=by kernel_rfl
theorem aaa(t n:Bool)(w:World):Calls Tryz.prog 142 #[.bool t,.bool n] w λe w'=>e=.returned (.int .i64 (if t then(if n then 3 else 4)else if n then 1 else 2))/\w'=w:=by
 cases t<;>cases n<;>(go_enter Tryz.func142,Tryz.ntmps142;go_wp2_with fail;go_ret;exact⟨rfl,rfl⟩)
theorem takeByte{w:World}{B P o:Nat}{cs:Array Value}{t:TypeId}{v:Value}{tx:Bool}{z:Int}{l:List UInt8}(h:w.heap[P]?=some (.cells cs t (0,0)))(c0:cs[o]?=some v)(c1:cs[o+1]?=some (.bool tx))(c2:cs[o+2]?=some (.int .i64 z))(c3:cs[o+3]?=some (.bool false))
  (ho:w.ownsRow B 5 1 v l.length (Lib.byteCells l)) (hB:B<=w.heap.size) (Ci:v.ownBlock≠some P) (b:UInt8) (hl:l.length<=1000000) (Ck:(tx=true/\(l.length:Int)<z)∨(tx=false/\l.length<80/\b≠10)):
  Calls Tryz.prog 89 #[.pointer (some ⟨P,o,none⟩),.int .u8 (b.toNat:Int)] w λe w'=>e=.returned (.tuple #[.int .i64 0,.string ⟨#[]⟩])/\∃v',w'.heap[P]?=some (.cells (cs.setIfInBounds o v') t (0,0))/\w'.ownsRow B 5 1 v' (l.length+1) (Lib.byteCells (l++[b]))/\v'.ownBlock≠some P/\(∀b',v'.ownBlock=some b'->v.ownBlock=some b'∨w.heap.size<=b')/\But P v.ownBlock w w':=by
 obtain⟨i0,hi,Cg,Cf,Ce⟩:=alQ kr;have Ca:P<w.heap.size:=(alJ.1 h).1;have d0:=ae h c0;have d1:=ae h c1;have d2:=ae h c2;have d3:=ae h c3;have df:=aD h o;obtain⟨va,vc,Cj⟩:∃a cap,v=.slice a l.length cap:=by
  rcases ho.2 with⟨h1,h2⟩|⟨g,c,Cn,h1,_⟩
  ·exact⟨none,0,by rw[h1,h2]⟩
  ·exact⟨_,c,h1⟩
 subst Cj;have H:=hid h;have HO:=hid ho;have Ch:=hid Ci;have B7:=ho.alloc (.cells #[.int .u8 (b.toNat:Int)] 5);have B5:=(ho.drew).alloc (.cells #[.int .u8 (b.toNat:Int)] 5);clear h c0 c1 c2 c3 ho Ci;go_enter Tryz.func89,Tryz.ntmps89
 rcases Ck with⟨rfl,Cl⟩|⟨rfl,Cm,hb⟩
 ·have Cc:∀w,(do eqGuard .lss 3 (.tmp 31) (.tmp 35) (.int .i64 (l.length:Int)) (.int .i64 z);binOp .lss 3 (.int .i64 (l.length:Int)) (.int .i64 z):Sem Value).run Tryz.prog w=.ok (.bool true) w:=λw=>by go_simp
  cases hq:((b.toNat:Int)==10)
  ·go_wp2_with fail;refine bX [] (λw':World=>w'.cell? ⟨P,o+1,none⟩=some (.bool true)/\w'.cell? ⟨P,o,none⟩=some (.slice va l.length vc)/\w'.cell? ⟨P,o+2,none⟩=some (.int .i64 z)) 17 rfl (by kernel_rfl) ⟨d1,d0,d2⟩ (λa' Q hA hQ hP hS=>?_);have z:a'.tmps.size=83:=by rw[hA.out];rfl
   have e0:a'.eval (.tmp 0)=Value.pointer (some ⟨P,o,none⟩):=by rw[hA.out];rfl
   refine aU 0 (some 22) rfl rfl hP (af rfl) (λwx=>ah rfl e0) hS ?_;refine aU 1 (some 23) rfl rfl hP (af rfl) (λwx=>aS rfl (evz z)) hS ?_;refine aU 2 (some 24) rfl rfl hP (af rfl) (λwx=>aj ⟨P,o+1,none⟩ rfl (evz (szq z))) hS ?_;refine ft 3 (some 25) rfl rfl hP (af rfl) (λwx hw=>aq rfl (evz (sz2 z)) (aH hw.1)) hS ?_;refine aU 4 (some 26) rfl rfl hP (af rfl) (λwx=>ah rfl (evz (sz2 (szq z)))) hS ?_;refine aU 5 (some 27) rfl rfl hP (au (e:=26) (b:=true) rfl rfl (evz (sz4 z))) (λwx=>ah rfl (ev4 (ev1 e0))) hS ?_;refine aU 6 (some 28) rfl rfl hP (au (e:=26) (b:=true) rfl rfl (ev1 (evz (sz4 z)))) (λwx=>aS rfl (evz (sz4 (szq z)))) hS ?_;refine aU 7 (some 29) rfl rfl hP (au (e:=26) (b:=true) rfl rfl (ev2 (evz (sz4 z)))) (λwx=>aj ⟨P,o,none⟩ rfl (evz (sz4 (sz2 z)))) hS ?_;refine ft 8 (some 30) rfl rfl hP (au (e:=26) (b:=true) rfl rfl (ev2 (ev1 (evz (sz4 z))))) (λwx hw=>aq rfl (evz (sz4 (sz2 (szq z)))) (aH hw.2.1)) hS ?_;refine aU 9 (some 31) rfl rfl hP (au (e:=26) (b:=true) rfl rfl (ev4 (evz (sz4 z)))) (λwx=>lW (v:=.int .i64 (l.length:Int)) rfl (evz (sz8 z)) (λρ hρ=>by go_simp)) hS ?_;refine aU 10 (some 32) rfl rfl hP (au (e:=26) (b:=true) rfl rfl (ev4 (ev1 (evz (sz4 z))))) (λwx=>ah rfl (ev8 (ev2 e0))) hS ?_;refine aU 11 (some 33) rfl rfl hP (au (e:=26) (b:=true) rfl rfl (ev4 (ev2 (evz (sz4 z))))) (λwx=>aS rfl (evz (sz8 (sz2 z)))) hS ?_;refine aU 12 (some 34) rfl rfl hP (au (e:=26) (b:=true) rfl rfl (ev4 (ev2 (ev1 (evz (sz4 z)))))) (λwx=>aj ⟨P,o+2,none⟩ rfl (evz (sz8 (sz2 (szq z))))) hS ?_;refine ft 13 (some 35) rfl rfl hP (au (e:=26) (b:=true) rfl rfl (ev8 (evz (sz4 z)))) (λwx hw=>aq rfl (evz (sz8 (sz4 z))) (aH hw.2.2)) hS ?_;refine aU 14 (some 36) rfl rfl hP (au (e:=26) (b:=true) rfl rfl (ev8 (ev1 (evz (sz4 z))))) (λwx=>bA (v:=.bool true) rfl (ev4 (evz (sz8 (szq z)))) (evz (sz8 (sz4 (szq z)))) (Cc wx)) hS ?_;refine aU 15 (some 37) rfl rfl hP (af rfl) (λwx=>ei (v:=.bool true) rfl (ev8 (ev2 (evz (sz4 z)))) (evz (sz8 (sz4 (sz2 z)))) rfl rfl) hS ?_;refine aU 16 (some 21) rfl rfl hP (af rfl) (λwx=>aR rfl (evz (sz8 (sz4 (sz2 (szq z)))))) hS ?_;refine bW (by kernel_rfl) (hQ.out _ _ ?_) _;rw[hA.out];simp only[Act.put,List.setIfInBounds_toArray];dsimp only[List.set];clear hQ hP hA z hS Q a' e0;go_wp2_with(at_builtin;refine wpList_append_lies _ rfl (.tmp 59) (.tmp 61) 94 rfl B 5 i0 (.int .u8 0) 1 1 Tryz.underlying94 hi Cg Cf Ce rfl (by decide) (.slice va l.length vc) l.length (Lib.byteCells l) rfl B5 ⟨w.heap.size,0,none⟩ 1 1 [.int .u8 (b.toNat:Int)] rfl rfl (alF (cs:=#[.int .u8 (b.toNat:Int)]) (t:=5) (fr:=(0,0)) (alA w.drew _)) (by simp[Value.oneCell']) (by decide) (by unfold maxLen;omega) (by omega) (by simp;omega) (w.heap.size+1) (by simp) ?_);intro g gc w5 B3 B1 B4 Cb;have B8:some P≠(Value.slice va l.length vc).ownBlock:=λe=>Ch.out e.symm
   have B6:w5.heap[P]?=some (.cells cs t (0,0)):=(B1.block P (by simp;omega) B8).trans ((alB w.drew _ Ca).trans H.out);have r0:w5.cell? ⟨P,o,none⟩=some (.slice va l.length vc):=(B1.cell_far ⟨P,o,none⟩ (by simp;omega) B8).trans ((aC ⟨P,o,none⟩ (alB w.drew _ Ca)).trans d0);have rf:w5.frozen? ⟨P,o,none⟩=false:=aD B6 o;have HR:Hid (∃v',(w5.setCell ⟨P,o,none⟩ (.slice (some ⟨g,0,none⟩) (l.length+1) gc)).heap[P]?=some (.cells (cs.setIfInBounds o v') t (0,0))/\(w5.setCell ⟨P,o,none⟩ (.slice (some ⟨g,0,none⟩) (l.length+1) gc)).ownsRow B 5 1 v' (l.length+1) (Lib.byteCells (l++[b]))/\v'.ownBlock≠some P/\(∀b',v'.ownBlock=some b'->(Value.slice va l.length vc).ownBlock=some b'∨w.heap.size<=b')/\But P (Value.slice va l.length vc).ownBlock w (w5.setCell ⟨P,o,none⟩ (.slice (some ⟨g,0,none⟩) (l.length+1) gc))):=by
    have Cd:g≠P:=by
     rcases B4 with h1|h1
     ·exact λe=>B8 (by rw[h1,e])
     ·omega
    refine⟨_,ag _ B6,?_,λe=>Cd (alR e),λb' e=>?_,?_⟩
    ·have e:Lib.byteCells (l++[b])=Lib.byteCells l++[.int .u8 (b.toNat:Int)]:=by simp[Lib.byteCells]
     rw[e];exact ay (w:=w5) (λb' B9=>alP _ _ _ _ (by have e:g=b':=alR B9;show b'≠P;omega)) B3
    ·have e':g=b':=alR e;subst e'
     rcases B4 with h1|h1
     ·exact Or.inl h1
     ·exact Or.inr (by omega)
    ·have h1:But P (Value.slice va l.length vc).ownBlock w w5:=((But.of_below ((Below.refl _ _).drew)).below ax).grown B1;exact h1.setCell (p:=⟨P,o,none⟩) (Or.inl rfl) _
   clear B3 B1 B4 B7 B5;go_wp2_with fail;go_ret2;exact⟨rfl,HR.out⟩
  ·go_wp2_with fail;refine bX [] (λw':World=>w'.cell? ⟨P,o+1,none⟩=some (.bool true)/\w'.cell? ⟨P,o,none⟩=some (.slice va l.length vc)/\w'.cell? ⟨P,o+2,none⟩=some (.int .i64 z)) 17 rfl (by kernel_rfl) ⟨d1,d0,d2⟩ (λa' Q hA hQ hP hS=>?_);have z:a'.tmps.size=83:=by rw[hA.out];rfl
   have e0:a'.eval (.tmp 0)=Value.pointer (some ⟨P,o,none⟩):=by rw[hA.out];rfl
   refine aU 0 (some 22) rfl rfl hP (af rfl) (λwx=>ah rfl e0) hS ?_;refine aU 1 (some 23) rfl rfl hP (af rfl) (λwx=>aS rfl (evz z)) hS ?_;refine aU 2 (some 24) rfl rfl hP (af rfl) (λwx=>aj ⟨P,o+1,none⟩ rfl (evz (szq z))) hS ?_;refine ft 3 (some 25) rfl rfl hP (af rfl) (λwx hw=>aq rfl (evz (sz2 z)) (aH hw.1)) hS ?_;refine aU 4 (some 26) rfl rfl hP (af rfl) (λwx=>ah rfl (evz (sz2 (szq z)))) hS ?_;refine aU 5 (some 27) rfl rfl hP (au (e:=26) (b:=true) rfl rfl (evz (sz4 z))) (λwx=>ah rfl (ev4 (ev1 e0))) hS ?_;refine aU 6 (some 28) rfl rfl hP (au (e:=26) (b:=true) rfl rfl (ev1 (evz (sz4 z)))) (λwx=>aS rfl (evz (sz4 (szq z)))) hS ?_;refine aU 7 (some 29) rfl rfl hP (au (e:=26) (b:=true) rfl rfl (ev2 (evz (sz4 z)))) (λwx=>aj ⟨P,o,none⟩ rfl (evz (sz4 (sz2 z)))) hS ?_;refine ft 8 (some 30) rfl rfl hP (au (e:=26) (b:=true) rfl rfl (ev2 (ev1 (evz (sz4 z))))) (λwx hw=>aq rfl (evz (sz4 (sz2 (szq z)))) (aH hw.2.1)) hS ?_;refine aU 9 (some 31) rfl rfl hP (au (e:=26) (b:=true) rfl rfl (ev4 (evz (sz4 z)))) (λwx=>lW (v:=.int .i64 (l.length:Int)) rfl (evz (sz8 z)) (λρ hρ=>by go_simp)) hS ?_;refine aU 10 (some 32) rfl rfl hP (au (e:=26) (b:=true) rfl rfl (ev4 (ev1 (evz (sz4 z))))) (λwx=>ah rfl (ev8 (ev2 e0))) hS ?_;refine aU 11 (some 33) rfl rfl hP (au (e:=26) (b:=true) rfl rfl (ev4 (ev2 (evz (sz4 z))))) (λwx=>aS rfl (evz (sz8 (sz2 z)))) hS ?_;refine aU 12 (some 34) rfl rfl hP (au (e:=26) (b:=true) rfl rfl (ev4 (ev2 (ev1 (evz (sz4 z)))))) (λwx=>aj ⟨P,o+2,none⟩ rfl (evz (sz8 (sz2 (szq z))))) hS ?_;refine ft 13 (some 35) rfl rfl hP (au (e:=26) (b:=true) rfl rfl (ev8 (evz (sz4 z)))) (λwx hw=>aq rfl (evz (sz8 (sz4 z))) (aH hw.2.2)) hS ?_;refine aU 14 (some 36) rfl rfl hP (au (e:=26) (b:=true) rfl rfl (ev8 (ev1 (evz (sz4 z))))) (λwx=>bA (v:=.bool true) rfl (ev4 (evz (sz8 (szq z)))) (evz (sz8 (sz4 (szq z)))) (Cc wx)) hS ?_;refine aU 15 (some 37) rfl rfl hP (af rfl) (λwx=>ei (v:=.bool true) rfl (ev8 (ev2 (evz (sz4 z)))) (evz (sz8 (sz4 (sz2 z)))) rfl rfl) hS ?_;refine aU 16 (some 21) rfl rfl hP (af rfl) (λwx=>aR rfl (evz (sz8 (sz4 (sz2 (szq z)))))) hS ?_;refine bW (by kernel_rfl) (hQ.out _ _ ?_) _;rw[hA.out];simp only[Act.put,List.setIfInBounds_toArray];dsimp only[List.set];clear hQ hP hA z hS Q a' e0;go_wp2_with(at_builtin;refine wpList_append_lies _ rfl (.tmp 59) (.tmp 61) 94 rfl B 5 i0 (.int .u8 0) 1 1 Tryz.underlying94 hi Cg Cf Ce rfl (by decide) (.slice va l.length vc) l.length (Lib.byteCells l) rfl B5 ⟨w.heap.size,0,none⟩ 1 1 [.int .u8 (b.toNat:Int)] rfl rfl (alF (cs:=#[.int .u8 (b.toNat:Int)]) (t:=5) (fr:=(0,0)) (alA w.drew _)) (by simp[Value.oneCell']) (by decide) (by unfold maxLen;omega) (by omega) (by simp;omega) (w.heap.size+1) (by simp) ?_);intro g gc w5 B3 B1 B4 Cb;have B8:some P≠(Value.slice va l.length vc).ownBlock:=λe=>Ch.out e.symm
   have B6:w5.heap[P]?=some (.cells cs t (0,0)):=(B1.block P (by simp;omega) B8).trans ((alB w.drew _ Ca).trans H.out);have r0:w5.cell? ⟨P,o,none⟩=some (.slice va l.length vc):=(B1.cell_far ⟨P,o,none⟩ (by simp;omega) B8).trans ((aC ⟨P,o,none⟩ (alB w.drew _ Ca)).trans d0);have rf:w5.frozen? ⟨P,o,none⟩=false:=aD B6 o;have HR:Hid (∃v',(w5.setCell ⟨P,o,none⟩ (.slice (some ⟨g,0,none⟩) (l.length+1) gc)).heap[P]?=some (.cells (cs.setIfInBounds o v') t (0,0))/\(w5.setCell ⟨P,o,none⟩ (.slice (some ⟨g,0,none⟩) (l.length+1) gc)).ownsRow B 5 1 v' (l.length+1) (Lib.byteCells (l++[b]))/\v'.ownBlock≠some P/\(∀b',v'.ownBlock=some b'->(Value.slice va l.length vc).ownBlock=some b'∨w.heap.size<=b')/\But P (Value.slice va l.length vc).ownBlock w (w5.setCell ⟨P,o,none⟩ (.slice (some ⟨g,0,none⟩) (l.length+1) gc))):=by
    have Cd:g≠P:=by
     rcases B4 with h1|h1
     ·exact λe=>B8 (by rw[h1,e])
     ·omega
    refine⟨_,ag _ B6,?_,λe=>Cd (alR e),λb' e=>?_,?_⟩
    ·have e:Lib.byteCells (l++[b])=Lib.byteCells l++[.int .u8 (b.toNat:Int)]:=by simp[Lib.byteCells]
     rw[e];exact ay (w:=w5) (λb' B9=>alP _ _ _ _ (by have e:g=b':=alR B9;show b'≠P;omega)) B3
    ·have e':g=b':=alR e;subst e'
     rcases B4 with h1|h1
     ·exact Or.inl h1
     ·exact Or.inr (by omega)
    ·have h1:But P (Value.slice va l.length vc).ownBlock w w5:=((But.of_below ((Below.refl _ _).drew)).below ax).grown B1;exact h1.setCell (p:=⟨P,o,none⟩) (Or.inl rfl) _
   clear B3 B1 B4 B7 B5;go_wp2_with fail;go_ret2;exact⟨rfl,HR.out⟩
 ·have B9:((b.toNat:Int)==10)=false:=by
   have:b.toNat≠10:=λe=>hb (UInt8.toNat_inj.1 (by rw[e];rfl))
   simp;omega
  have hl8':(l.length:Int)<80:=by omega
  go_wp2_with fail;refine bX [] (λw':World=>w'.cell? ⟨P,o+1,none⟩=some (.bool false)) 17 rfl (by kernel_rfl) d1 (λa' Q hA hQ hP hS=>?_);have z:a'.tmps.size=83:=by rw[hA.out];rfl
  have e0:a'.eval (.tmp 0)=Value.pointer (some ⟨P,o,none⟩):=by rw[hA.out];rfl
  refine aU 0 (some 22) rfl rfl hP (af rfl) (λwx=>ah rfl e0) hS ?_;refine aU 1 (some 23) rfl rfl hP (af rfl) (λwx=>aS rfl (evz z)) hS ?_;refine aU 2 (some 24) rfl rfl hP (af rfl) (λwx=>aj ⟨P,o+1,none⟩ rfl (evz (szq z))) hS ?_;refine ft 3 (some 25) rfl rfl hP (af rfl) (λwx hw=>aq rfl (evz (sz2 z)) (aH hw)) hS ?_;refine aU 4 (some 26) rfl rfl hP (af rfl) (λwx=>ah rfl (evz (sz2 (szq z)))) hS ?_;refine dJ 5 (some 27) rfl rfl hP (aN (e:=26) (b:=true) rfl rfl (evz (sz4 z))) hS ?_;refine dJ 6 (some 28) rfl rfl hP (aN (e:=26) (b:=true) rfl rfl (ev1 (evz (sz4 z)))) hS ?_;refine dJ 7 (some 29) rfl rfl hP (aN (e:=26) (b:=true) rfl rfl (ev2 (evz (sz4 z)))) hS ?_;refine dJ 8 (some 30) rfl rfl hP (aN (e:=26) (b:=true) rfl rfl (ev2 (ev1 (evz (sz4 z))))) hS ?_;refine dJ 9 (some 31) rfl rfl hP (aN (e:=26) (b:=true) rfl rfl (ev4 (evz (sz4 z)))) hS ?_;refine dJ 10 (some 32) rfl rfl hP (aN (e:=26) (b:=true) rfl rfl (ev4 (ev1 (evz (sz4 z))))) hS ?_;refine dJ 11 (some 33) rfl rfl hP (aN (e:=26) (b:=true) rfl rfl (ev4 (ev2 (evz (sz4 z))))) hS ?_;refine dJ 12 (some 34) rfl rfl hP (aN (e:=26) (b:=true) rfl rfl (ev4 (ev2 (ev1 (evz (sz4 z)))))) hS ?_;refine dJ 13 (some 35) rfl rfl hP (aN (e:=26) (b:=true) rfl rfl (ev8 (evz (sz4 z)))) hS ?_;refine dJ 14 (some 36) rfl rfl hP (aN (e:=26) (b:=true) rfl rfl (ev8 (ev1 (evz (sz4 z))))) hS ?_;refine aU 15 (some 37) rfl rfl hP (af rfl) (λwx=>ei (v:=.bool false) rfl (ev8 (ev2 (evz (sz4 z)))) (evz (sz8 (sz4 (sz2 z)))) rfl rfl) hS ?_;refine aU 16 (some 21) rfl rfl hP (af rfl) (λwx=>aR rfl (evz (sz8 (sz4 (sz2 (szq z)))))) hS ?_;refine bW (by kernel_rfl) (hQ.out _ _ ?_) _;rw[hA.out];simp only[Act.put,List.setIfInBounds_toArray];dsimp only[List.set];clear hQ hP hA z hS Q a' e0;go_wp2_with(at_builtin;refine wpList_append_lies _ rfl (.tmp 59) (.tmp 61) 94 rfl B 5 i0 (.int .u8 0) 1 1 Tryz.underlying94 hi Cg Cf Ce rfl (by decide) (.slice va l.length vc) l.length (Lib.byteCells l) rfl B5 ⟨w.heap.size,0,none⟩ 1 1 [.int .u8 (b.toNat:Int)] rfl rfl (alF (cs:=#[.int .u8 (b.toNat:Int)]) (t:=5) (fr:=(0,0)) (alA w.drew _)) (by simp[Value.oneCell']) (by decide) (by unfold maxLen;omega) (by omega) (by simp;omega) (w.heap.size+1) (by simp) ?_);intro g gc w5 B3 B1 B4 Cb;have B8:some P≠(Value.slice va l.length vc).ownBlock:=λe=>Ch.out e.symm
  have B6:w5.heap[P]?=some (.cells cs t (0,0)):=(B1.block P (by simp;omega) B8).trans ((alB w.drew _ Ca).trans H.out);have r0:w5.cell? ⟨P,o,none⟩=some (.slice va l.length vc):=(B1.cell_far ⟨P,o,none⟩ (by simp;omega) B8).trans ((aC ⟨P,o,none⟩ (alB w.drew _ Ca)).trans d0);have rf:w5.frozen? ⟨P,o,none⟩=false:=aD B6 o;have HR:Hid (∃v',(w5.setCell ⟨P,o,none⟩ (.slice (some ⟨g,0,none⟩) (l.length+1) gc)).heap[P]?=some (.cells (cs.setIfInBounds o v') t (0,0))/\(w5.setCell ⟨P,o,none⟩ (.slice (some ⟨g,0,none⟩) (l.length+1) gc)).ownsRow B 5 1 v' (l.length+1) (Lib.byteCells (l++[b]))/\v'.ownBlock≠some P/\(∀b',v'.ownBlock=some b'->(Value.slice va l.length vc).ownBlock=some b'∨w.heap.size<=b')/\But P (Value.slice va l.length vc).ownBlock w (w5.setCell ⟨P,o,none⟩ (.slice (some ⟨g,0,none⟩) (l.length+1) gc))):=by
   have Cd:g≠P:=by
    rcases B4 with h1|h1
    ·exact λe=>B8 (by rw[h1,e])
    ·omega
   refine⟨_,ag _ B6,?_,λe=>Cd (alR e),λb' e=>?_,?_⟩
   ·have e:Lib.byteCells (l++[b])=Lib.byteCells l++[.int .u8 (b.toNat:Int)]:=by simp[Lib.byteCells]
    rw[e];exact ay (w:=w5) (λb' B9=>alP _ _ _ _ (by have e:g=b':=alR B9;show b'≠P;omega)) B3
   ·have e':g=b':=alR e;subst e'
    rcases B4 with h1|h1
    ·exact Or.inl h1
    ·exact Or.inr (by omega)
   ·have h1:But P (Value.slice va l.length vc).ownBlock w w5:=((But.of_below ((Below.refl _ _).drew)).below ax).grown B1;exact h1.setCell (p:=⟨P,o,none⟩) (Or.inl rfl) _
  clear B3 B1 B4 B7 B5;go_wp2_with fail;go_ret2;exact⟨rfl,HR.out⟩
def Az (cs:Array Value) (o:Nat):Array Value:=(((cs.setIfInBounds o (.slice none 0 0)).setIfInBounds (o+1) (.bool false)).setIfInBounds (o+2) (.int .i64 0)).setIfInBounds (o+3) (.bool false)
theorem takeEnd{w:World}{B P o:Nat}{cs:Array Value}{t:TypeId}{v:Value}{tx:Bool}{z:Int}{l:List UInt8}(h:w.heap[P]?=some (.cells cs t (0,0)))(c0:cs[o]?=some v)(c1:cs[o+1]?=some (.bool tx))(c2:cs[o+2]?=some (.int .i64 z))(c3:cs[o+3]?=some (.bool false))
  (ho:w.ownsRow B 5 1 v l.length (Lib.byteCells l)) (B6:(tx=true/\(l.length:Int)=z)∨tx=false):
  Calls Tryz.prog 89 #[.pointer (some ⟨P,o,none⟩),.int .u8 10] w λe w'=>e=.returned (.tuple #[.int .i64 (if tx then 3 else 1),.string ⟨l.toArray⟩])/\w'.heap[P]?=some (.cells (Az cs o) t (0,0))/\But P none w w':=by
 have B8:P<w.heap.size:=(alJ.1 h).1;have d0:=ae h c0;have d1:=ae h c1;have d2:=ae h c2;have d3:=ae h c3;have f0:=aD h o;have f1:=aD h (o+1);have f2:=aD h (o+2);have f3:=aD h (o+3);obtain⟨va,vc,B5⟩:∃a cap,v=.slice a l.length cap:=by
  rcases ho.2 with⟨h1,h2⟩|⟨g,c,B9,h1,_⟩
  ·exact⟨none,0,by rw[h1,h2]⟩
  ·exact⟨_,c,h1⟩
 subst B5;have B7:=ol w.drew B _ l ho.drew;have H:=hid h;clear h c0 c1 c2 c3 ho;go_enter Tryz.func89,Tryz.ntmps89
 rcases B6 with⟨rfl,B3⟩|rfl
 ·have B1:∀w,(do eqGuard .lss 3 (.tmp 31) (.tmp 35) (.int .i64 (l.length:Int)) (.int .i64 z);binOp .lss 3 (.int .i64 (l.length:Int)) (.int .i64 z):Sem Value).run Tryz.prog w=.ok (.bool false) w:=λw=>by
   have h1:¬(l.length:Int)<z:=by omega
   go_simp
  have Ca:=hid B3;clear B3;go_wp2_with fail;refine bX [] (λw':World=>w'.cell? ⟨P,o+1,none⟩=some (.bool true)/\w'.cell? ⟨P,o,none⟩=some (.slice va l.length vc)/\w'.cell? ⟨P,o+2,none⟩=some (.int .i64 z)) 17 rfl (by kernel_rfl) ⟨d1,d0,d2⟩ (λa' Q hA hQ hP hS=>?_);have z:a'.tmps.size=83:=by rw[hA.out];rfl
  have e0:a'.eval (.tmp 0)=Value.pointer (some ⟨P,o,none⟩):=by rw[hA.out];rfl
  refine aU 0 (some 22) rfl rfl hP (af rfl) (λwx=>ah rfl e0) hS ?_;refine aU 1 (some 23) rfl rfl hP (af rfl) (λwx=>aS rfl (evz z)) hS ?_;refine aU 2 (some 24) rfl rfl hP (af rfl) (λwx=>aj ⟨P,o+1,none⟩ rfl (evz (szq z))) hS ?_;refine ft 3 (some 25) rfl rfl hP (af rfl) (λwx hw=>aq rfl (evz (sz2 z)) (aH hw.1)) hS ?_;refine aU 4 (some 26) rfl rfl hP (af rfl) (λwx=>ah rfl (evz (sz2 (szq z)))) hS ?_;refine aU 5 (some 27) rfl rfl hP (au (e:=26) (b:=true) rfl rfl (evz (sz4 z))) (λwx=>ah rfl (ev4 (ev1 e0))) hS ?_;refine aU 6 (some 28) rfl rfl hP (au (e:=26) (b:=true) rfl rfl (ev1 (evz (sz4 z)))) (λwx=>aS rfl (evz (sz4 (szq z)))) hS ?_;refine aU 7 (some 29) rfl rfl hP (au (e:=26) (b:=true) rfl rfl (ev2 (evz (sz4 z)))) (λwx=>aj ⟨P,o,none⟩ rfl (evz (sz4 (sz2 z)))) hS ?_;refine ft 8 (some 30) rfl rfl hP (au (e:=26) (b:=true) rfl rfl (ev2 (ev1 (evz (sz4 z))))) (λwx hw=>aq rfl (evz (sz4 (sz2 (szq z)))) (aH hw.2.1)) hS ?_;refine aU 9 (some 31) rfl rfl hP (au (e:=26) (b:=true) rfl rfl (ev4 (evz (sz4 z)))) (λwx=>lW (v:=.int .i64 (l.length:Int)) rfl (evz (sz8 z)) (λρ hρ=>by go_simp)) hS ?_;refine aU 10 (some 32) rfl rfl hP (au (e:=26) (b:=true) rfl rfl (ev4 (ev1 (evz (sz4 z))))) (λwx=>ah rfl (ev8 (ev2 e0))) hS ?_;refine aU 11 (some 33) rfl rfl hP (au (e:=26) (b:=true) rfl rfl (ev4 (ev2 (evz (sz4 z))))) (λwx=>aS rfl (evz (sz8 (sz2 z)))) hS ?_;refine aU 12 (some 34) rfl rfl hP (au (e:=26) (b:=true) rfl rfl (ev4 (ev2 (ev1 (evz (sz4 z)))))) (λwx=>aj ⟨P,o+2,none⟩ rfl (evz (sz8 (sz2 (szq z))))) hS ?_;refine ft 13 (some 35) rfl rfl hP (au (e:=26) (b:=true) rfl rfl (ev8 (evz (sz4 z)))) (λwx hw=>aq rfl (evz (sz8 (sz4 z))) (aH hw.2.2)) hS ?_;refine aU 14 (some 36) rfl rfl hP (au (e:=26) (b:=true) rfl rfl (ev8 (ev1 (evz (sz4 z))))) (λwx=>bA (v:=.bool false) rfl (ev4 (evz (sz8 (szq z)))) (evz (sz8 (sz4 (szq z)))) (B1 wx)) hS ?_;refine aU 15 (some 37) rfl rfl hP (af rfl) (λwx=>ei (v:=.bool false) rfl (ev8 (ev2 (evz (sz4 z)))) (evz (sz8 (sz4 (sz2 z)))) rfl rfl) hS ?_;refine aU 16 (some 21) rfl rfl hP (af rfl) (λwx=>aR rfl (evz (sz8 (sz4 (sz2 (szq z)))))) hS ?_;refine bW (by kernel_rfl) (hQ.out _ _ ?_) _;rw[hA.out];simp only[Act.put,List.setIfInBounds_toArray];dsimp only[List.set];clear hQ hP hA z hS Q a' e0;go_wp2_with(go_at_call 142;refine(aaa true true w.drew).mono ?_;rintro e w' ⟨rfl,B4⟩;subst w');go_ret2;exact⟨rfl,ag _ (ag _ (ag _ (ag (W:=w.drew) _ H.out))),(((((But.of_below ((Below.refl _ _).drew):But P none w w.drew).setCell (p:=⟨P,o,none⟩) (Or.inl rfl) _).setCell (p:=⟨P,o+1,none⟩) (Or.inl rfl) _).setCell (p:=⟨P,o+2,none⟩) (Or.inl rfl) _).setCell (p:=⟨P,o+3,none⟩) (Or.inl rfl) _)⟩
 ·go_wp2_with fail;refine bX [] (λw':World=>w'.cell? ⟨P,o+1,none⟩=some (.bool false)) 17 rfl (by kernel_rfl) d1 (λa' Q hA hQ hP hS=>?_);have z:a'.tmps.size=83:=by rw[hA.out];rfl
  have e0:a'.eval (.tmp 0)=Value.pointer (some ⟨P,o,none⟩):=by rw[hA.out];rfl
  refine aU 0 (some 22) rfl rfl hP (af rfl) (λwx=>ah rfl e0) hS ?_;refine aU 1 (some 23) rfl rfl hP (af rfl) (λwx=>aS rfl (evz z)) hS ?_;refine aU 2 (some 24) rfl rfl hP (af rfl) (λwx=>aj ⟨P,o+1,none⟩ rfl (evz (szq z))) hS ?_;refine ft 3 (some 25) rfl rfl hP (af rfl) (λwx hw=>aq rfl (evz (sz2 z)) (aH hw)) hS ?_;refine aU 4 (some 26) rfl rfl hP (af rfl) (λwx=>ah rfl (evz (sz2 (szq z)))) hS ?_;refine dJ 5 (some 27) rfl rfl hP (aN (e:=26) (b:=true) rfl rfl (evz (sz4 z))) hS ?_;refine dJ 6 (some 28) rfl rfl hP (aN (e:=26) (b:=true) rfl rfl (ev1 (evz (sz4 z)))) hS ?_;refine dJ 7 (some 29) rfl rfl hP (aN (e:=26) (b:=true) rfl rfl (ev2 (evz (sz4 z)))) hS ?_;refine dJ 8 (some 30) rfl rfl hP (aN (e:=26) (b:=true) rfl rfl (ev2 (ev1 (evz (sz4 z))))) hS ?_;refine dJ 9 (some 31) rfl rfl hP (aN (e:=26) (b:=true) rfl rfl (ev4 (evz (sz4 z)))) hS ?_;refine dJ 10 (some 32) rfl rfl hP (aN (e:=26) (b:=true) rfl rfl (ev4 (ev1 (evz (sz4 z))))) hS ?_;refine dJ 11 (some 33) rfl rfl hP (aN (e:=26) (b:=true) rfl rfl (ev4 (ev2 (evz (sz4 z))))) hS ?_;refine dJ 12 (some 34) rfl rfl hP (aN (e:=26) (b:=true) rfl rfl (ev4 (ev2 (ev1 (evz (sz4 z)))))) hS ?_;refine dJ 13 (some 35) rfl rfl hP (aN (e:=26) (b:=true) rfl rfl (ev8 (evz (sz4 z)))) hS ?_;refine dJ 14 (some 36) rfl rfl hP (aN (e:=26) (b:=true) rfl rfl (ev8 (ev1 (evz (sz4 z))))) hS ?_;refine aU 15 (some 37) rfl rfl hP (af rfl) (λwx=>ei (v:=.bool false) rfl (ev8 (ev2 (evz (sz4 z)))) (evz (sz8 (sz4 (sz2 z)))) rfl rfl) hS ?_;refine aU 16 (some 21) rfl rfl hP (af rfl) (λwx=>aR rfl (evz (sz8 (sz4 (sz2 (szq z)))))) hS ?_;refine bW (by kernel_rfl) (hQ.out _ _ ?_) _;rw[hA.out];simp only[Act.put,List.setIfInBounds_toArray];dsimp only[List.set];clear hQ hP hA z hS Q a' e0;go_wp2_with(go_at_call 142;refine(aaa false true w.drew).mono ?_;rintro e w' ⟨rfl,B4⟩;subst w')
  all_goals
   go_ret2;exact⟨rfl,ag _ (ag _ (ag _ (ag (W:=w.drew) _ H.out))),(((((But.of_below ((Below.refl _ _).drew):But P none w w.drew).setCell (p:=⟨P,o,none⟩) (Or.inl rfl) _).setCell (p:=⟨P,o+1,none⟩) (Or.inl rfl) _).setCell (p:=⟨P,o+2,none⟩) (Or.inl rfl) _).setCell (p:=⟨P,o+3,none⟩) (Or.inl rfl) _)⟩
end Go.Proofs.YtlbcgmlhaeeoeaaGreatDoor
namespace Go.Proofs
open Go.Shelf
def nG:Go.Shelf.Ren:=⟨fun|104=>60|211=>100|207=>99|n=>n,fun|9=>9|4=>4|24=>56|3=>3|n=>n,fun|n=>n⟩
theorem sK:Go.Proofs.Lays.n104 Tryz.prog nG:={
 mixed:=by kernel_rfl
 f104:=Tryz.func60.trans (congrArg some (by kernel_rfl))
 f207:=Tryz.func99.trans (congrArg some (by kernel_rfl))
 f211:=Tryz.func100.trans (congrArg some (by kernel_rfl))
 t3:=Tryz.underlying3
 a3:=Tryz.isAgg3
 z3:=Tryz.sizeOf3
 v3:=Tryz.zeroValue3
 t4:=Tryz.underlying4
 a4:=Tryz.isAgg4
 z4:=Tryz.sizeOf4
 v4:=Tryz.zeroValue4
 t9:=Tryz.underlying9
 a9:=Tryz.isAgg9
 z9:=Tryz.sizeOf9
 v9:=Tryz.zeroValue9
 t24:=Tryz.underlying56
 a24:=Tryz.isAgg56
 z24:=Tryz.sizeOf56
 v24:=Tryz.zeroValue56}
open Go.RowKit in
theorem fz(s p:ByteArray)(w:World)(hs:s.size<=9223372036854775807):
  Calls Tryz.prog 60 #[.string s,.string p] w λe w'=>e=.returned (.tuple #[.string ⟨(Lib.trimSuffix s.data.toList p.data.toList).toArray⟩,.bool (Lib.hasSuffix s.data.toList p.data.toList)])/\w'=w:=Any.strings_CutSuffix sK s p w hs
def nD:Go.Shelf.Ren:=⟨fun|122=>118|215=>170|n=>n,fun|3=>3|4=>4|n=>n,fun|n=>n⟩
theorem sH:Go.Proofs.Lays.n122 Tryz.prog nD:={
 mixed:=by kernel_rfl
 f122:=Tryz.func118.trans (congrArg some (by kernel_rfl))
 f215:=Tryz.func170.trans (congrArg some (by kernel_rfl))
 t3:=Tryz.underlying3
 a3:=Tryz.isAgg3
 z3:=Tryz.sizeOf3
 v3:=Tryz.zeroValue3
 t4:=Tryz.underlying4
 a4:=Tryz.isAgg4
 z4:=Tryz.sizeOf4
 v4:=Tryz.zeroValue4}
open Go.RowKit in
theorem ku(x y:Int)(w:World):
  Calls Tryz.prog 118 #[.int .i64 x,.int .i64 y] w λe w'=>e=.returned (.int .i64 (Lib.compareInt x y))/\w'=w:=Any.cmp_Compare_int sH x y w
def nA:Go.Shelf.Ren:=⟨fun|145=>101|220=>152|219=>208|217=>209|225=>253|224=>254|267=>255|266=>256|314=>284|n=>n,fun|9=>9|4=>4|59=>210|3=>3|5=>5|46=>171|146=>376|51=>76|n=>n,fun|1=>4|n=>n⟩
theorem sE:Go.Proofs.Lays.n145 Tryz.prog nA:={
 mixed:=by kernel_rfl
 f145:=Tryz.func101.trans (congrArg some (by kernel_rfl))
 f217:=Tryz.func209.trans (congrArg some (by kernel_rfl))
 f219:=Tryz.func208.trans (congrArg some (by kernel_rfl))
 f220:=Tryz.func152.trans (congrArg some (by kernel_rfl))
 f224:=Tryz.func254.trans (congrArg some (by kernel_rfl))
 f225:=Tryz.func253.trans (congrArg some (by kernel_rfl))
 f266:=Tryz.func256.trans (congrArg some (by kernel_rfl))
 f267:=Tryz.func255.trans (congrArg some (by kernel_rfl))
 f314:=Tryz.func284.trans (congrArg some (by kernel_rfl))
 t3:=Tryz.underlying3
 a3:=Tryz.isAgg3
 z3:=Tryz.sizeOf3
 v3:=Tryz.zeroValue3
 t4:=Tryz.underlying4
 a4:=Tryz.isAgg4
 z4:=Tryz.sizeOf4
 v4:=Tryz.zeroValue4
 t5:=Tryz.underlying5
 a5:=Tryz.isAgg5
 z5:=Tryz.sizeOf5
 v5:=Tryz.zeroValue5
 t9:=Tryz.underlying9
 a9:=Tryz.isAgg9
 z9:=Tryz.sizeOf9
 v9:=Tryz.zeroValue9
 t46:=Tryz.underlying171
 a46:=Tryz.isAgg171
 z46:=Tryz.sizeOf171
 v46:=Tryz.zeroValue171
 t51:=Tryz.underlying76
 a51:=Tryz.isAgg76
 z51:=Tryz.sizeOf76
 v51:=Tryz.zeroValue76
 t59:=Tryz.underlying210
 a59:=Tryz.isAgg210
 z59:=Tryz.sizeOf210
 v59:=Tryz.zeroValue210
 t146:=Tryz.underlying376
 a146:=Tryz.isAgg376
 z146:=Tryz.sizeOf376
 v146:=Tryz.zeroValue376
 g1:=by kernel_rfl}
open Go.RowKit Go.Lib in
theorem fK(s B1:ByteArray)(m:Int)(w:World)(hs:s.size<4294967281)(hm:w.cell? ⟨4,0,none⟩=some (.int .i64 m)):
  Calls Tryz.prog 101 #[.string s,.string B1] w λe w'=>e=.returned (.tuple #[.string ⟨(Lib.cut s.data.toList B1.data.toList).1.toArray⟩,.string ⟨(Lib.cut s.data.toList B1.data.toList).2.1.toArray⟩,.bool (Lib.cut s.data.toList B1.data.toList).2.2])/\∃n,w'=w.drewN n:=Any.strings_Cut sE s B1 m w hs hm
def nH:Go.Shelf.Ren:=⟨fun|100=>59|207=>99|n=>n,fun|9=>9|4=>4|3=>3|n=>n,fun|n=>n⟩
theorem sL:Go.Proofs.Lays.n100 Tryz.prog nH:={
 mixed:=by kernel_rfl
 f100:=Tryz.func59.trans (congrArg some (by kernel_rfl))
 f207:=Tryz.func99.trans (congrArg some (by kernel_rfl))
 t3:=Tryz.underlying3
 a3:=Tryz.isAgg3
 z3:=Tryz.sizeOf3
 v3:=Tryz.zeroValue3
 t4:=Tryz.underlying4
 a4:=Tryz.isAgg4
 z4:=Tryz.sizeOf4
 v4:=Tryz.zeroValue4
 t9:=Tryz.underlying9
 a9:=Tryz.isAgg9
 z9:=Tryz.sizeOf9
 v9:=Tryz.zeroValue9}
open Go.RowKit Go.Lib in
theorem fy(s p:ByteArray)(w:World)(hs:s.size<=9223372036854775807):
  Calls Tryz.prog 59 #[.string s,.string p] w λe w'=>e=.returned (.bool (Lib.hasSuffix s.data.toList p.data.toList))/\w'=w:=Any.strings_HasSuffix sL s p w hs
end Go.Proofs
namespace Go.Proofs
open Go.Shelf
def jo:Go.Shelf.Ren:=⟨fun|156=>146|165=>191|166=>145|169=>54|240=>190|241=>232|276=>231|277=>265|n=>n,fun|31=>113|9=>9|3=>3|4=>4|0=>0|20=>20|72=>151|76=>214|70=>149|37=>94|75=>213|127=>205|164=>195|5=>5|80=>155|n=>n,fun|n=>n⟩
theorem sC:Go.Proofs.Lays.n156 Tryz.prog jo:={
 mixed:=by kernel_rfl
 f156:=Tryz.func146.trans (congrArg some (by kernel_rfl))
 f165:=Tryz.func191.trans (congrArg some (by kernel_rfl))
 f166:=Tryz.func145.trans (congrArg some (by kernel_rfl))
 f169:=Tryz.func54.trans (congrArg some (by kernel_rfl))
 f240:=Tryz.func190.trans (congrArg some (by kernel_rfl))
 f241:=Tryz.func232.trans (congrArg some (by kernel_rfl))
 f276:=Tryz.func231.trans (congrArg some (by kernel_rfl))
 f277:=Tryz.func265.trans (congrArg some (by kernel_rfl))
 t0:=Tryz.underlying0
 a0:=Tryz.isAgg0
 z0:=Tryz.sizeOf0
 v0:=Tryz.zeroValue0
 t3:=Tryz.underlying3
 a3:=Tryz.isAgg3
 z3:=Tryz.sizeOf3
 v3:=Tryz.zeroValue3
 t4:=Tryz.underlying4
 a4:=Tryz.isAgg4
 z4:=Tryz.sizeOf4
 v4:=Tryz.zeroValue4
 t9:=Tryz.underlying9
 a9:=Tryz.isAgg9
 z9:=Tryz.sizeOf9
 v9:=Tryz.zeroValue9
 t20:=Tryz.underlying20
 a20:=Tryz.isAgg20
 z20:=Tryz.sizeOf20
 v20:=Tryz.zeroValue20
 t31:=Tryz.underlying113
 a31:=Tryz.isAgg113
 z31:=Tryz.sizeOf113
 v31:=Tryz.zeroValue113
 t37:=Tryz.underlying94
 a37:=Tryz.isAgg94
 z37:=Tryz.sizeOf94
 v37:=Tryz.zeroValue94
 t70:=Tryz.underlying149
 a70:=Tryz.isAgg149
 z70:=Tryz.sizeOf149
 v70:=Tryz.zeroValue149
 t72:=Tryz.underlying151
 a72:=Tryz.isAgg151
 z72:=Tryz.sizeOf151
 v72:=Tryz.zeroValue151
 t75:=Tryz.underlying213
 a75:=Tryz.isAgg213
 z75:=Tryz.sizeOf213
 v75:=Tryz.zeroValue213
 t76:=Tryz.underlying214
 a76:=Tryz.isAgg214
 z76:=Tryz.sizeOf214
 v76:=Tryz.zeroValue214
 t127:=Tryz.underlying205
 a127:=Tryz.isAgg205
 z127:=Tryz.sizeOf205
 v127:=Tryz.zeroValue205
 t164:=Tryz.underlying195
 a164:=Tryz.isAgg195
 z164:=Tryz.sizeOf195
 v164:=Tryz.zeroValue195}
theorem jM:Builder.Extra Tryz.prog jo:={
 sizeBuilder:=by kernel_rfl
 liesBuilder:=by kernel_rfl
 t5:=Tryz.underlying5
 a5:=Tryz.isAgg5
 z5:=Tryz.sizeOf5
 v5:=Tryz.zeroValue5
 infoByte:=by kernel_rfl
 cellsByte:=by kernel_rfl
 sizeByte:=by kernel_rfl
 neB5:=by decide}
open Go.RowKit in
theorem mG(bk o c:Nat)(xs:List ByteArray)(B3:ByteArray)(w:World)(B1:∀(j:Nat) x,xs[j]?=some x->w.cell? ⟨bk,o+j,none⟩=some (.string x))(B6:bk<w.heap.size)(hN:xs.length<=140737488355328)(B5:xs.length<=c)(B4:(Lib.join (xs.map (·.data.toList)) B3.data.toList).length<=140737488355328):
  Calls Tryz.prog 146 #[.slice (some ⟨bk,o,none⟩) xs.length c,.string B3] w λe w'=>e=.returned (.string ⟨(Lib.join (xs.map (·.data.toList)) B3.data.toList).toArray⟩)/\Below w.heap.size w w':=Any.strings_Join sC jM bk o c xs B3 w B1 B6 hN B5 B4
def nB:Go.Shelf.Ren:=⟨fun|144=>245|143=>262|219=>208|217=>209|225=>253|224=>254|267=>255|266=>256|314=>284|n=>n,fun|9=>9|4=>4|3=>3|5=>5|46=>171|146=>376|51=>76|n=>n,fun|1=>4|n=>n⟩
theorem sF:Go.Proofs.Lays.n144 Tryz.prog nB:={
 mixed:=by kernel_rfl
 f143:=Tryz.func262.trans (congrArg some (by kernel_rfl))
 f144:=Tryz.func245.trans (congrArg some (by kernel_rfl))
 f217:=Tryz.func209.trans (congrArg some (by kernel_rfl))
 f219:=Tryz.func208.trans (congrArg some (by kernel_rfl))
 f224:=Tryz.func254.trans (congrArg some (by kernel_rfl))
 f225:=Tryz.func253.trans (congrArg some (by kernel_rfl))
 f266:=Tryz.func256.trans (congrArg some (by kernel_rfl))
 f267:=Tryz.func255.trans (congrArg some (by kernel_rfl))
 f314:=Tryz.func284.trans (congrArg some (by kernel_rfl))
 t3:=Tryz.underlying3
 a3:=Tryz.isAgg3
 z3:=Tryz.sizeOf3
 v3:=Tryz.zeroValue3
 t4:=Tryz.underlying4
 a4:=Tryz.isAgg4
 z4:=Tryz.sizeOf4
 v4:=Tryz.zeroValue4
 t5:=Tryz.underlying5
 a5:=Tryz.isAgg5
 z5:=Tryz.sizeOf5
 v5:=Tryz.zeroValue5
 t9:=Tryz.underlying9
 a9:=Tryz.isAgg9
 z9:=Tryz.sizeOf9
 v9:=Tryz.zeroValue9
 t46:=Tryz.underlying171
 a46:=Tryz.isAgg171
 z46:=Tryz.sizeOf171
 v46:=Tryz.zeroValue171
 t51:=Tryz.underlying76
 a51:=Tryz.isAgg76
 z51:=Tryz.sizeOf76
 v51:=Tryz.zeroValue76
 t146:=Tryz.underlying376
 a146:=Tryz.isAgg376
 z146:=Tryz.sizeOf376
 v146:=Tryz.zeroValue376
 g1:=by kernel_rfl}
open Go.RowKit Go.Lib in
theorem bH(s:ByteArray)(c:UInt8)(w:World):
  Calls Tryz.prog 245 #[.string s,.string ⟨#[c]⟩] w λe w'=>e=.returned (.bool (decide (0<=Lib.indexByte s.data.toList c)))/\w'=w:=Any.strings_Contains_one sF s c w
def nF:Go.Shelf.Ren:=⟨fun|107=>275|108=>296|n=>n,fun|28=>31|3=>3|4=>4|0=>0|n=>n,fun|n=>n⟩
theorem sJ:Go.Proofs.Lays.n107 Tryz.prog nF:={
 mixed:=by kernel_rfl
 f107:=Tryz.func275.trans (congrArg some (by kernel_rfl))
 f108:=Tryz.func296.trans (congrArg some (by kernel_rfl))
 t0:=Tryz.underlying0
 a0:=Tryz.isAgg0
 z0:=Tryz.sizeOf0
 v0:=Tryz.zeroValue0
 t3:=Tryz.underlying3
 a3:=Tryz.isAgg3
 z3:=Tryz.sizeOf3
 v3:=Tryz.zeroValue3
 t4:=Tryz.underlying4
 a4:=Tryz.isAgg4
 z4:=Tryz.sizeOf4
 v4:=Tryz.zeroValue4
 t28:=Tryz.underlying31
 a28:=Tryz.isAgg31
 z28:=Tryz.sizeOf31
 v28:=Tryz.zeroValue31}
open Go.Lib in
theorem iZ(b off n c:Nat)(zs:List Int)(x:Int)(w:World)(hz:n<=zs.length)(B1:n<=9223372036854775807)(hc:∀j,j<zs.length->w.cell? ⟨b,off+j,none⟩=some (.int .i64 (zs.getD j 0))):
  Calls Tryz.prog 275 #[.slice (some ⟨b,off,none⟩) n c,.int .i64 x] w λe w'=>e=.returned (.bool ((zs.take n).contains x))/\w'=w:=Any.slices_Contains_int sJ b off n c zs x w hz B1 hc
def nE:Go.Shelf.Ren:=⟨fun|110=>185|109=>227|n=>n,fun|31=>113|9=>9|4=>4|3=>3|0=>0|n=>n,fun|n=>n⟩
theorem sI:Go.Proofs.Lays.n110 Tryz.prog nE:={
 mixed:=by kernel_rfl
 f109:=Tryz.func227.trans (congrArg some (by kernel_rfl))
 f110:=Tryz.func185.trans (congrArg some (by kernel_rfl))
 t0:=Tryz.underlying0
 a0:=Tryz.isAgg0
 z0:=Tryz.sizeOf0
 v0:=Tryz.zeroValue0
 t3:=Tryz.underlying3
 a3:=Tryz.isAgg3
 z3:=Tryz.sizeOf3
 v3:=Tryz.zeroValue3
 t4:=Tryz.underlying4
 a4:=Tryz.isAgg4
 z4:=Tryz.sizeOf4
 v4:=Tryz.zeroValue4
 t9:=Tryz.underlying9
 a9:=Tryz.isAgg9
 z9:=Tryz.sizeOf9
 v9:=Tryz.zeroValue9
 t31:=Tryz.underlying113
 a31:=Tryz.isAgg113
 z31:=Tryz.sizeOf113
 v31:=Tryz.zeroValue113}
open Go.Lib in
theorem dE(b off n c:Nat)(zs:List ByteArray)(x:ByteArray)(w:World)(hz:n<=zs.length)(B1:n<=9223372036854775807)(hc:∀j,j<zs.length->w.cell? ⟨b,off+j,none⟩=some (.string (zs.getD j ByteArray.empty))):
  Calls Tryz.prog 185 #[.slice (some ⟨b,off,none⟩) n c,.string x] w λe w'=>e=.returned (.bool (Lib.containsS (zs.take n) x))/\w'=w:=Any.slices_Contains_string sI b off n c zs x w hz B1 hc
end Go.Proofs
namespace Go.Proofs.YtlbcgmlhaeeoeaaGreatDoor
open Go.RowKit Go.Lib
def jx (w:World) (A:Nat) (p v a:Value):Prop:=w.heap[A]?=some (.cells #[p,v,a] 153 (0,0))
theorem jx.cells{w:World}{A:Nat}{p v a:Value}(h:jx w A p v a):w.cell? ⟨A,0,none⟩=some p/\w.cell? ⟨A,1,none⟩=some v/\w.cell? ⟨A,2,none⟩=some a/\(∀o,w.frozen? ⟨A,o,none⟩=false)/\A<w.heap.size:=by
 unfold jx at h;exact⟨by simp[World.cell?,h],by simp[World.cell?,h],by simp[World.cell?,h],λo=>by simp[World.frozen?,h],(alJ.1 h).1⟩
structure iK (B A:Nat) (p v a:Value) (l:List UInt8) (w:World):Prop where
 low:B<=A
 base:B<=w.heap.size
 blk:jx w A p v a
 ok:p=.pointer none∨p=.pointer (some ⟨A,0,none⟩)
 buf:w.ownsRow B 5 1 v l.length (Lib.byteCells l)
 ne:v.ownBlock≠some A
structure aO (A:Nat) (v v':Value) (w w':World):Prop where
 but:But A v.ownBlock w w'
 row:∀b,v'.ownBlock=some b->v.ownBlock=some b∨w.heap.size<=b
theorem aO.trans{A:Nat}{v v1 v2:Value}{w w1 w2:World}(h:aO A v v1 w w1)(k:aO A v1 v2 w1 w2):aO A v v2 w w2:=by
 refine⟨⟨k.but.os.trans h.but.os,k.but.tape.trans h.but.tape,k.but.output.trans h.but.output,alS h.but.size k.but.size,λb hb h1 h2=>?_⟩,λb hb=>?_⟩
 ·refine(k.but.block b (alH hb h.but.size) h1 (λe=>?_)).trans (h.but.block b hb h1 h2)
  rcases h.row b e with h3|h3
  ·exact h2 h3
  ·omega
 ·rcases k.row b hb with h1|h1
  ·exact h.row b h1
  ·exact Or.inr (alS h.but.size h1)
theorem aO.below{A:Nat}{v:Value}{w w':World}(h:Below w.heap.size w w'):aO A v v w w':=⟨But.of_below h,λ_ hb=>Or.inl hb⟩
theorem iK.below{B A:Nat}{p v a:Value}{l:List UInt8}{w w':World}(h:iK B A p v a l w)(hb:Below w.heap.size w w'):iK B A p v a l w':=
 ⟨h.low,alS h.base hb.size,(hb.block A h.blk.cells.2.2.2.2).trans h.blk,h.ok,bQ h.buf hb,h.ne⟩
theorem mP:(Tryz.prog.info? 151).map (λi=>i.size)=some 2:=by kernel_rfl
theorem Bt:liesAt Tryz.prog Tryz.prog.depth 153 (3/Tryz.prog.cellsOf 153) 0 151 1=true:=by kernel_rfl
theorem ld{B A:Nat}{p v a:Value}{l:List UInt8}{w:World}(h:iK B A p v a l w):
  Calls Tryz.prog 190 #[.pointer (some ⟨A,0,none⟩)] w λe w'=>e=.returned (.tuple #[])/\iK B A (.pointer (some ⟨A,0,none⟩)) v a l w'/\aO A v v w w':=by
 obtain⟨c0,c1,c2,cf,B4⟩:=h.blk.cells;obtain⟨j,hj,B3⟩:=Option.map_eq_some_iff.1 mP
 rcases h.ok with rfl|rfl
 ·have B1:w.shape? A=some (153,3):=by
   have:=h.blk;unfold jx at this;simp[World.shape?,this]
  have B5:=cf 0;have Hh:=hid h;clear h cf;go_enter Tryz.func190,Tryz.ntmps190;go_wp2_with fail;rw[Lib.run_to_unsafe w ⟨A,0,none⟩ Tryz.underlying149 Tryz.underlying195 hj (by rw[B3];decide) B1 (show 0<3 by decide)];simp only[Result.andThen];rw[Oper.upon_value];go_wp2_with fail;rw[run_callFunc_extern Tryz.func231 (by kernel_rfl) (by kernel_rfl) (by kernel_rfl) (e:=Extern.AbiNoEscape.same) (by kernel_rfl)];rw[Lib.run_noEscape];simp only[Result.andThen];rw[Oper.upon_value];go_wp2_with fail;rw[Lib.run_from_unsafe w ⟨A,0,none⟩ Tryz.underlying195 Tryz.underlying149 hj B1 Bt];simp only[Result.andThen];rw[Oper.upon_value];go_wp2_with fail;go_end0;refine⟨rfl,⟨Hh.out.low,by simpa using Hh.out.base,?_,Or.inr rfl,?_,Hh.out.ne⟩,⟨(But.of_below (Below.refl _ _):But A v.ownBlock w w).setCell (p:=⟨A,0,none⟩) (Or.inl rfl) _,λ_ hb=>Or.inl hb⟩⟩
  ·have h2:=ag (o:=0) (.pointer (some ⟨A,0,none⟩)) Hh.out.blk;unfold jx;simpa using h2
  ·exact ay (λb hb=>alP _ _ _ _ (λe=>Hh.out.ne (by rw[hb,e]))) Hh.out.buf
 ·have Hh:=hid h;clear h cf;go_enter Tryz.func190,Tryz.ntmps190;go_wp2_with fail;rw[Lib.run_neq_ptr_same w _ Tryz.underlying149 hj];go_wp2_with fail;go_end0;exact⟨rfl,Hh.out,aO.below (Below.refl _ _)⟩
theorem lX{P:Program}(w:World)(base:Nat)(t u ty e:TypeId)(i:TypeInfo)(ht:P.underlying t=some (.slice e))(hu:P.underlying u=some .string)(hi:P.info? e=some i)(hz:i.zero=some (.int .u8 0))(B1:i.size=1)(B9:i.bytes=1)
  (v:Value) (n:Nat) (xs:List Value) (B3:w.ownsRow base e 1 v n xs) (s:ByteArray) (Cb:n+s.size<=maxLen) (B4:n+s.size<=140737488355328) (B7:base<=w.heap.size):
  ∃v' w',(Builtin.append_ #[t,u] ty #[v,.string s]).run P w=.ok v' w'/\w'.ownsRow base e 1 v' (n+s.size) (xs++Lib.strCells s)/\w.grownBy w' v.ownBlock/\∀b,v'.ownBlock=some b->v.ownBlock=some b∨w.heap.size<=b:=by
 obtain⟨v',w',hr,h2,h3,h4⟩:=Lib.run_append_own_string (P:=P) w base t u ty e i ht hu hi hz B1 B9 v n xs B3 s Cb B4 B7;refine⟨v',w',hr,h2,h3,λb hb=>?_⟩;have B8:n+s.size<=9223372036854775807:=by simp only[maxLen]at Cb;omega
 have Cd:xs.length=n:=by simpa using B3.1
 rcases B3.2 with⟨rfl,rfl⟩|⟨g,cap,Cc,rfl,Ch,hg,Cf,Cg,Ce,Ca⟩
 ·by_cases hm:s.size=0
  ·have:=h4.2 ⟨rfl,hm⟩;subst this
   cases hb
  ·have hr':=Go.run_append_nil_string (P:=P) w t u ty e i (.int .u8 0) ht hu hi hz s (by omega) (by omega) (by rw[B9];omega);rw[hr]at hr';injection hr' with e1 e2
   subst e1
   right
   have:w.heap.size=b:=alR hb;omega
 ·by_cases B5:n+s.size<=cap
  ·have hcs':Cc.size=cap:=by simpa using Ce
   have hr':=Lib.run_append_room_string (P:=P) w t u ty e i ht hu hi B1 g n cap Cc hg s B5 (by omega);rw[hr]at hr';injection hr' with e1 e2
   subst e1;exact Or.inl hb
  ·have B6:∀j u,xs[j]?=some u->w.cell? ((⟨g,0,none⟩:Addr).add j)=some u:=B3.cells (g:=g) rfl;have hr':=Lib.run_append_grow_string (P:=P) w t u ty e i (.int .u8 0) ht hu hi hz ⟨g,0,none⟩ n cap xs (by rw[B1];simpa using Cd) B6 s (by omega) (by omega) (by rw[B9];exact growslice_fits (by omega) (by omega));rw[hr]at hr';injection hr' with e1 e2
   subst e1
   right
   have:w.heap.size=b:=alR hb;omega
theorem jX{P:Program}(w:World){ops:Array Oper}{rest:List Oper}{o:Oper}{a:Act}{Q:Exit->Act->World->Prop}(B6:o.guard=none)(sl x:Operand)(t u:TypeId)
  (ho:o.op=.call {callee:=.builtin .append,args:=#[sl,x],argTypes:=#[t,u]})
  (base:Nat) (e:TypeId) (i:TypeInfo) (ht:P.underlying t=some (.slice e)) (hu:P.underlying u=some .string) (hi:P.info? e=some i) (hz:i.zero=some (.int .u8 0)) (B3:i.size=1) (B7:i.bytes=1)
  (v:Value) (n:Nat) (xs:List Value) (hs:a.eval sl=v) (B5:w.ownsRow base e 1 v n xs) (s:ByteArray) (hx:a.eval x=.string s) (B8:n+s.size<=maxLen) (B1:n+s.size<=140737488355328) (B4:base<=w.heap.size)
  (h:∀v' w',w'.ownsRow base e 1 v' (n+s.size) (xs++Lib.strCells s)->w.grownBy w' v.ownBlock->(∀b,v'.ownBlock=some b->v.ownBlock=some b∨w.heap.size<=b)->wpList P ops Q rest (a.put o.dst v') w'):wpList P ops Q (o::rest) a w:=by
 refine wpList_plain B6 λK hK=>?_
 obtain⟨v',w',hr,h2,h3,h4⟩:=lX (P:=P) w base t u o.type e i ht hu hi hz B3 B7 v n xs B5 s B8 B1 B4;unfold Oper.wp execOp;simp only[ho,resolve,invoke,builtin,Sem.run_bind,Sem.run_pure,Result.andThen_ok,List.map_toArray,List.map_cons,List.map_nil,hs,hx,hr];exact hK _ _ (h v' w' h2 h3 h4)
theorem o1(s:ByteArray):Lib.strCells s=Lib.byteCells s.data.toList:=by simp[Lib.strCells,Lib.byteCells]
theorem oB{B A:Nat}{p v a:Value}{l:List UInt8}{w:World}(h:iK B A p v a l w)(s:ByteArray)(hl:l.length+s.size<=1000000):
  Calls Tryz.prog 145 #[.pointer (some ⟨A,0,none⟩),.string s] w λe w'=>e=.returned (.tuple #[.int .i64 s.size,.nilIface])/\∃v',iK B A (.pointer (some ⟨A,0,none⟩)) v' a (l++s.data.toList) w'/\aO A v v' w w':=by
 obtain⟨i0,hi,Cd,Cc,Cb⟩:=alQ kr;have gC:=ld h;clear h;go_enter Tryz.func145,Tryz.ntmps145;go_wp2_with fail;refine gC.mono ?_;rintro e w1 ⟨rfl,h1,B9⟩;obtain⟨c0,c1,c2,cf,Cg⟩:=h1.blk.cells;have B5:=h1.buf;have Cf:=h1.base;have H1:=hid h1;have Ci:=hid B9;clear gC h1 B9 cf c0 c2;obtain⟨va,vc,Ce⟩:∃a cap,v=.slice a l.length cap:=by
  rcases B5.2 with⟨h1,h2⟩|⟨g,c,Ch,h1,_⟩
  ·exact⟨none,0,by rw[h1,h2]⟩
  ·exact⟨_,c,h1⟩
 subst Ce;go_wp2_with(at_builtin;refine jX _ rfl _ _ 94 9 rfl B 5 i0 Tryz.underlying94 Tryz.underlying9 hi Cd Cc Cb _ _ _ rfl B5 s rfl (by unfold maxLen;omega) (by omega) Cf ?_);intro v' w2 B3 B1 B4;have Ca:=H1.out.ne;have B7:jx w2 A (.pointer (some ⟨A,0,none⟩)) (.slice va l.length vc) a:=(B1.block A Cg (λe=>Ca e.symm)).trans H1.out.blk;have d1:=B7.cells.2.1;have f1:=B7.cells.2.2.2.1 1;obtain⟨ao,n',cap,B8⟩:∃ao n' cap,v'=.slice ao n' cap:=by
  rcases B3.2 with⟨hv,_⟩|⟨g,cap,Ch,hv,_⟩
  ·exact⟨_,_,_,hv⟩
  ·exact⟨_,_,_,hv⟩
 subst B8;have B6:(Value.slice ao n' cap).ownBlock≠some A:=λe=>by
  rcases B4 A e with h|h
  ·exact Ca h
  ·omega
 have HR:Hid (iK B A (.pointer (some ⟨A,0,none⟩)) (.slice ao n' cap) a (l++s.data.toList) (w2.setCell ⟨A,1,none⟩ (.slice ao n' cap))/\aO A (.slice va l.length vc) (.slice ao n' cap) w (w2.setCell ⟨A,1,none⟩ (.slice ao n' cap))):=by
  have Cj:=B1.size;refine⟨⟨H1.out.low,by simp;omega,?_,Or.inr rfl,?_,B6⟩,Ci.out.trans ⟨((But.of_below (Below.refl _ _):But A _ w1 w1).grown B1).setCell (p:=⟨A,1,none⟩) (Or.inl rfl) _,B4⟩⟩
  ·have h2:=ag (o:=1) (.slice ao n' cap) B7;unfold jx;simpa using h2
  ·have e:Lib.byteCells (l++s.data.toList)=Lib.byteCells l++Lib.strCells s:=by rw[o1];simp[Lib.byteCells]
   rw[e,List.length_append,←Lib.size_eq];exact ay (λb hb=>alP _ _ _ _ (λe=>B6 (by rw[hb,e]))) B3
 clear B3 B1 B4 B7 B5 B6;go_wp2_with fail;go_ret2;exact⟨rfl,_,HR.out.1,HR.out.2⟩
theorem qm{B A:Nat}{p v a:Value}{l:List UInt8}{w:World}(h:iK B A p v a l w)(b:UInt8)(hl:l.length<=1000000):
  Calls Tryz.prog 147 #[.pointer (some ⟨A,0,none⟩),.int .u8 (b.toNat:Int)] w λe w'=>e=.returned .nilIface/\∃v',iK B A (.pointer (some ⟨A,0,none⟩)) v' a (l++[b]) w'/\aO A v v' w w':=by
 obtain⟨i0,hi,Cc,Cb,Ca⟩:=alQ kr;have gC:=ld h;clear h;go_enter Tryz.func147,Tryz.ntmps147;go_wp2_with fail;refine gC.mono ?_;rintro e w1 ⟨rfl,h1,B8⟩;obtain⟨c0,c1,c2,cf,Ch⟩:=h1.blk.cells;have B5:=h1.buf;have Ck:=h1.base;have H1:=hid h1;have Ci:=hid B8;clear gC h1 B8 cf c0 c2;obtain⟨va,vc,Cd⟩:∃a cap,v=.slice a l.length cap:=by
  rcases B5.2 with⟨h1,h2⟩|⟨g,c,Cl,h1,_⟩
  ·exact⟨none,0,by rw[h1,h2]⟩
  ·exact⟨_,c,h1⟩
 subst Cd;have B3:=B5.alloc (.cells #[.int .u8 (b.toNat:Int)] 5);go_wp2_with(at_builtin;refine wpList_append_lies _ rfl (.tmp 11) (.tmp 13) 94 rfl B 5 i0 (.int .u8 0) 1 1 Tryz.underlying94 hi Cc Cb Ca rfl (by decide) (.slice va l.length vc) l.length (Lib.byteCells l) rfl B3 ⟨w1.heap.size,0,none⟩ 1 1 [.int .u8 (b.toNat:Int)] rfl rfl (alF (cs:=#[.int .u8 (b.toNat:Int)]) (t:=5) (fr:=(0,0)) (alA w1 _)) (by simp[Value.oneCell']) (by decide) (by unfold maxLen;omega) (by omega) (by simp;omega) (w1.heap.size+1) (by simp) ?_);intro g gc w2 B4 B1 B7 Cj;have B9:=H1.out.ne;have B6:jx w2 A (.pointer (some ⟨A,0,none⟩)) (.slice va l.length vc) a:=(B1.block A (by simp;omega) (λe=>B9 e.symm)).trans ((alB w1 _ Ch).trans H1.out.blk);have d1:=B6.cells.2.1;have f1:=B6.cells.2.2.2.1 1;have Cf:g≠A:=by
  rcases B7 with h1|h1
  ·exact λe=>B9 (by rw[h1,e])
  ·omega
 have HR:Hid (iK B A (.pointer (some ⟨A,0,none⟩)) (.slice (some ⟨g,0,none⟩) (l.length+1) gc) a (l++[b]) (w2.setCell ⟨A,1,none⟩ (.slice (some ⟨g,0,none⟩) (l.length+1) gc))/\aO A (.slice va l.length vc) (.slice (some ⟨g,0,none⟩) (l.length+1) gc) w (w2.setCell ⟨A,1,none⟩ (.slice (some ⟨g,0,none⟩) (l.length+1) gc))):=by
  have Ce:=B1.size;simp at Ce;refine⟨⟨H1.out.low,by simp;omega,?_,Or.inr rfl,?_,λe=>Cf (alR e)⟩,Ci.out.trans ⟨(((But.of_below (Below.refl _ _):But A _ w1 w1).below ax).grown B1).setCell (p:=⟨A,1,none⟩) (Or.inl rfl) _,λb' e=>?_⟩⟩
  ·have h2:=ag (o:=1) (.slice (some ⟨g,0,none⟩) (l.length+1) gc) B6;unfold jx;simpa using h2
  ·have e:Lib.byteCells (l++[b])=Lib.byteCells l++[.int .u8 (b.toNat:Int)]:=by simp[Lib.byteCells]
   rw[e,List.length_append];exact ay (w:=w2) (λb' Cg=>alP _ _ _ _ (by have e:g=b':=alR Cg;show b'≠A;omega)) B4
  ·have e':g=b':=alR e;subst e'
   rcases B7 with h1|h1
   ·exact Or.inl h1
   ·exact Or.inr (by omega)
 clear B4 B1 B7 B6 B5 B3;go_wp2_with fail;go_ret;exact⟨rfl,_,HR.out.1,HR.out.2⟩
end Go.Proofs.YtlbcgmlhaeeoeaaGreatDoor
