/-
  OWN TEXT: a call of a function within a region that draws its order, as one step.
  OWN TEXT: a region that draws its order, with a condition on the world that holds until one last operation (a store) is done: the quiet operations are taken one by one, each by the law of its kind, the frame being a letter.
  OWN TEXT: as Until, with several operations (brk) that may break the condition on the world: it is asked until one of them is done. And calls of a function value, guarded ones too.
-/
import Derived.WalkKit
import Derived.Conc.MuLone
import Derived.Deep.RegionHeld3
import Derived.Deep.AppendLies
namespace Go.Proofs.YtamglanahpcedaaGreatDoor
open Go.RowKit

theorem step_call {P : Program} {w : World} {ops : Array Oper} {o : Oper} {a : Act} {K : Act → World → Prop} {Q : Exit → Act → World → Prop} {E : Prop} (hgd : o.guard = none) (f : FuncId) (fn : Func) (c : Code) (hf : P.funcs[f]? = some fn) (hname : (fn.name == "runtime.NumGoroutine") = false) (hb : fn.body = some c)
    (xs : Array Operand) (ts : Array TypeId) (ho : o.op = .call { callee := .value (.func f), args := xs, argTypes := ts }) (args : Array Value) (ha : xs.map a.eval = args) {R : Ending → World → Prop} (hc : Calls P f args w R)
    (h : ∀ e w', R e w' → ∃ v, e = .returned v ∧ K (a.put o.dst v) w') :
    if Region.wanted o (yielded ops a.tmps) = true then Oper.wp P o a w K Q else E := by
  have hw : Region.wanted o (yielded ops a.tmps) = true := by simp [Region.wanted, hgd]
  rw [if_pos hw]
  have hr : (execOp a.eval o).run P w = .ok (.enter f args) w := by
    unfold execOp
    simp [ho, resolve, invoke, Deferred.ofValue, ha, Act.eval]
    exact Go.MuLone.run_callFunc_enter hf hname hb args w
  unfold Oper.wp
  rw [hr, Oper.upon_enter]
  refine hc.mono fun e w' hR => ?_
  obtain ⟨v, rfl, hk⟩ := h e w' hR
  exact hk

theorem step_call2 {P : Program} {w : World} {ops : Array Oper} {o : Oper} {a : Act} {K : Act → World → Prop} {Q : Exit → Act → World → Prop} {E : Prop} (hgd : o.guard = none) (f : FuncId) (fn : Func) (c : Code) (hf : P.funcs[f]? = some fn) (hname : (fn.name == "runtime.NumGoroutine") = false) (hb : fn.body = some c)
    (x y : Operand) (ts : Array TypeId) (ho : o.op = .call { callee := .value (.func f), args := #[x, y], argTypes := ts }) (u v : Value) (hx : a.eval x = u) (hy : a.eval y = v) {R : Ending → World → Prop} (hc : Calls P f #[u, v] w R)
    (h : ∀ e w', R e w' → ∃ v, e = .returned v ∧ K (a.put o.dst v) w') :
    if Region.wanted o (yielded ops a.tmps) = true then Oper.wp P o a w K Q else E :=
  step_call hgd f fn c hf hname hb _ ts ho _ (by simp [hx, hy]) hc h
theorem step_call3 {P : Program} {w : World} {ops : Array Oper} {o : Oper} {a : Act} {K : Act → World → Prop} {Q : Exit → Act → World → Prop} {E : Prop} (hgd : o.guard = none) (f : FuncId) (fn : Func) (c : Code) (hf : P.funcs[f]? = some fn) (hname : (fn.name == "runtime.NumGoroutine") = false) (hb : fn.body = some c)
    (x y z : Operand) (ts : Array TypeId) (ho : o.op = .call { callee := .value (.func f), args := #[x, y, z], argTypes := ts }) (u v t : Value) (hx : a.eval x = u) (hy : a.eval y = v) (hz : a.eval z = t) {R : Ending → World → Prop} (hc : Calls P f #[u, v, t] w R)
    (h : ∀ e w', R e w' → ∃ v, e = .returned v ∧ K (a.put o.dst v) w') :
    if Region.wanted o (yielded ops a.tmps) = true then Oper.wp P o a w K Q else E :=
  step_call hgd f fn c hf hname hb _ ts ho _ (by simp [hx, hy, hz]) hc h

theorem step_store {P : Program} {w : World} {ops : Array Oper} {o : Oper} {a : Act} {K : Act → World → Prop} {Q : Exit → Act → World → Prop} {E : Prop} (hgd : o.guard = none) (t : TypeId) (hs : ∀ w, Sem.run P (sizeOf t) w = .ok 1 w) (x y : Operand) (ho : o.op = .store t x y) (hd : o.dst = none) (p : Addr) (va : Option Addr) (vn vc : Nat) (u : Value) (hp : a.eval x = .pointer (some p)) (hv : a.eval y = .slice va vn vc) (hc : w.cell? p = some u) (hf : w.frozen? p = false)
    (h : K a (w.setCell p (.slice va vn vc))) : if Region.wanted o (yielded ops a.tmps) = true then Oper.wp P o a w K Q else E := by
  have hw : Region.wanted o (yielded ops a.tmps) = true := by simp [Region.wanted, hgd]
  rw [if_pos hw]
  have hr : (execOp a.eval o).run P w = .ok .skip (w.setCell p (.slice va vn vc)) := by
    unfold execOp
    simp only [ho, hp, hv]
    simp [Instr.storeAt, go_sem, hc, hf, hs]
  unfold Oper.wp
  rw [hr, Oper.upon_skip, hd]
  exact h

end Go.Proofs.YtamglanahpcedaaGreatDoor
namespace Go.Proofs.YtamglanahpcedaaGreatDoor
open Go.RowKit

section
variable {P : Program} {ops : Array Oper} {Q : Exit → Act → World → Prop} {S : World → Prop} {last : Nat}

/-- whatever order is picked from here on; S holds behind every operation but the last -/
def wpAnyU (P : Program) (ops : Array Oper) (Q : Exit → Act → World → Prop) (S : World → Prop) (last : Nat) : Nat → Array Bool → Act → World → Prop
  | 0, listed, a, w => Region.ready .any ops listed = [] ∧ Q .normal a w
  | fuel + 1, listed, a, w =>
    (Region.ready .any ops listed = [] → Q .normal a w) ∧
    ∀ i ∈ Region.ready .any ops listed, wpOp P ops Q i (fun a' w' => (i ≠ last → S w') ∧ wpAnyU P ops Q S last fuel (listed.setIfInBounds i true) a' w') a w

theorem wpAny_of_until : ∀ (fuel : Nat) (listed : Array Bool) (a : Act) (w : World), wpAnyU P ops Q S last fuel listed a w → wpAny P .any ops Q fuel listed a w
  | 0, _, _, _, h => h
  | fuel + 1, _, _, _, h => ⟨h.1, fun i hi => wpOp_mono (fun a' w' h' => wpAny_of_until fuel _ a' w' h'.2) (h.2 i hi)⟩

/-- the last operation waits for this one -/
def waitsFor (ops : Array Oper) (last i : Nat) : Bool := match ops[last]? with | some o => o.after.any (fun e => Region.binds .any e && e.on == i) | none => true

theorem not_ready_last {listed : Array Bool} {i : Nat} (hw : waitsFor ops last i = true) (hu : listed.getD i true = false) : last ∉ Region.ready .any ops listed := by
  intro hl
  obtain ⟨_, o, ho, hall⟩ := mem_ready.1 hl
  unfold waitsFor at hw
  rw [ho] at hw
  simp only [Array.any_eq_true'] at hw
  obtain ⟨e, he, hb⟩ := hw
  simp only [Bool.and_eq_true, beq_iff_eq] at hb
  have h1 := hall e he hb.1
  rw [hb.2] at h1
  rcases Nat.lt_or_ge i listed.size with h' | h'
  · simp [h'] at hu h1; rw [hu] at h1; cases h1
  · simp [Array.getElem?_eq_none h'] at h1

theorem wpAnyU_first {i : Nat} {oi : Oper} {v : Value} (hi : ops[i]? = some oi) (hil : waitsFor ops last i = true) (hsel : ∀ (j : Nat) (o : Oper) cs b, ops[j]? = some o → o.op ≠ .select cs b)
    (hQ : ∀ c a w, Q (.panic c) (a.put oi.dst v) w → Q (.panic c) a w) :
    ∀ (fuel : Nat) (listed : Array Bool) (a : Act) (w : World),
      (∀ j oj, ops[j]? = some oj → j ≠ i → listed.getD j true = false → (∀ e ∈ oj.after, Region.binds .any e = true → e.on ≠ i) → oi.apart ops oj = true) →
      i ∈ Region.ready .any ops listed → YieldsIf P ops S oi v a → S w →
      wpAnyU P ops Q S last fuel (listed.setIfInBounds i true) (a.put oi.dst v) w → wpAnyU P ops Q S last (fuel + 1) listed a w := by
  intro fuel
  induction fuel with
  | zero =>
    intro listed a w _ hr hy hS H
    refine ⟨fun h => (by rw [h] at hr; cases hr), fun j hj => ?_⟩
    by_cases hji : j = i
    · subst hji; exact hy.wpOp hi hS ⟨fun _ => hS, H⟩
    · have := ready_mono hj hji
      rw [H.1] at this
      cases this
  | succ fuel ih =>
    intro listed a w hfree hr hy hS H
    refine ⟨fun h => (by rw [h] at hr; cases hr), fun j hj => ?_⟩
    by_cases hji : j = i
    · subst hji; exact hy.wpOp hi hS ⟨fun _ => hS, H⟩
    · have h1 := H.2 j (ready_mono hj hji)
      obtain ⟨hjun, oj, hoj, hall⟩ := mem_ready.1 hj
      have hjl : j ≠ last := fun e => not_ready_last hil (mem_ready.1 hr).1 (e ▸ hj)
      have hnot : ∀ e ∈ oj.after, Region.binds .any e = true → e.on ≠ i := fun e he hb heq => by
        have h1 := hall e he hb
        have h0 := (mem_ready.1 hr).1
        rw [heq] at h1
        rcases Nat.lt_or_ge i listed.size with h' | h'
        · simp [h'] at h0 h1; rw [h0] at h1; cases h1
        · simp [Array.getElem?_eq_none h'] at h1
      have h2 := wpOp_putIf hoj (hfree j oj hoj hji hjun hnot) (fun cs b => hsel i oi cs b hi) (fun cs b => hsel j oj cs b hoj) hQ hy h1
      have hfree' : ∀ k ok, ops[k]? = some ok → k ≠ i → (listed.setIfInBounds j true).getD k true = false →
          (∀ e ∈ ok.after, Region.binds .any e = true → e.on ≠ i) → oi.apart ops ok = true := fun k ok hk hki hun hno => by
        refine hfree k ok hk hki ?_ hno
        by_cases hjk : j = k
        · subst hjk; exact hjun
        · rw [getD_set_ne true hjk] at hun; exact hun
      refine wpOp_mono (fun a' w' h3 => ⟨fun _ => h3.2.1 hjl, ih (listed.setIfInBounds j true) a' w' hfree' (ready_mono hr (Ne.symm hji)) h3.1 (h3.2.1 hjl) ?_⟩) h2
      rw [Array.setIfInBounds_comm _ _ hji]
      exact h3.2.2

theorem wpAnyU_done {listed : Array Bool} {a : Act} {w : World} (hr : Region.ready .any ops listed = []) (h : Q .normal a w) : ∀ fuel, wpAnyU P ops Q S last fuel listed a w
  | 0 => ⟨hr, h⟩
  | _ + 1 => ⟨fun _ => h, by rw [hr]; simp⟩
end

/-- A region that draws, opened: the frame and the post as letters; S holds until the last operation -/
theorem region_until {P : Program} {id : Nat} {ops : Array Oper} {Q : Exit → Act → World → Prop} {a : Act} {w : World} (last : Nat) (S : World → Prop) (n : Nat) (hn : ops.size = n) (hm : P.follows .mixedOrders = true) (hS : S w.drew)
    (h : ∀ (a' : Act) (Q' : Exit → Act → World → Prop), Shut (a' = a) → Shut (∀ a w, Q .normal a w → Q' .normal a w) → (∀ c (a : Act) d v w, Q' (.panic c) (a.put d v) w → Q' (.panic c) a w) → S w.drew → wpAnyU P ops Q' S last n (Array.replicate n false) a' w.drew) :
    (Code.region id ops true).wp P Q a w := by
  subst hn
  exact wp_region_noPanic (wp_region_any hm (wpAny_of_until _ _ _ _ (h a (NoPanic Q) rfl (fun _ _ h => h) (fun _ _ _ _ _ h => h) hS)))

/-! frames -/
theorem evq {a : Act} {d e : Nat} {v u : Value} (h : d ≠ e) (h' : a.eval (.tmp e) = u) : (a.put (some d) v).eval (.tmp e) = u := by
  rw [← h']; simp [Act.put, Act.eval, Array.getD_eq_getD_getElem?, Array.getElem?_setIfInBounds_ne h]
theorem evn {a : Act} {e : Nat} {v u : Value} (h' : a.eval (.tmp e) = u) : (a.put none v).eval (.tmp e) = u := h'
theorem eve {a : Act} {d : Nat} {v : Value} (h : d < a.tmps.size) : (a.put (some d) v).eval (.tmp d) = v := by
  simp [Act.put, Act.eval, Array.getD_eq_getD_getElem?, h]
theorem szq {a : Act} {d : Option Tmp} {v : Value} {n : Nat} (h : a.tmps.size = n) : (a.put d v).tmps.size = n := by
  rw [← h]; cases d <;> simp [Act.put]

/-- one cell loaded -/
theorem loadAt_one {P : Program} {t : TypeId} {p : Addr} {v : Value} {w : World} (hag : ∀ w, (isAgg t).run P w = .ok false w) (hc : w.cell? p = some v) : (Instr.loadAt t (.pointer (some p))).run P w = .ok v w := by
  simp [Instr.loadAt, go_sem, hag, hc]

section
variable {P : Program} {ops : Array Oper} {Q : Exit → Act → World → Prop} {S : World → Prop} {last : Nat} {i : Nat} {fuel : Nat} {listed : Array Bool} {a : Act} {w : World} {oi : Oper} {v : Value}

/-- may it be taken first? -/
def okTake (ops : Array Oper) (last : Nat) (listed : Array Bool) (i : Nat) : Bool := Region.noSelect ops && Region.free .any ops listed i && (Region.ready .any ops listed).contains i && waitsFor ops last i && (match ops[i]? with | some o => o.guard.isNone | none => false)

theorem tk {d : Option Tmp} (hi : ops[i]? = some oi) (hd : oi.dst = d) (hok : okTake ops last listed i = true) (hQ : ∀ c (a : Act) d v w, Q (.panic c) (a.put d v) w → Q (.panic c) a w)
    (hr : ∀ w, S w → (execOp a.eval oi).run P w = .ok (.value v) w) (hS : S w)
    (h : wpAnyU P ops Q S last fuel (listed.setIfInBounds i true) (a.put d v) w) : wpAnyU P ops Q S last (fuel + 1) listed a w := by
  subst hd
  unfold okTake at hok
  simp only [hi, Bool.and_eq_true] at hok
  obtain ⟨⟨⟨⟨h1, h2⟩, h3⟩, h5⟩, h4⟩ := hok
  refine wpAnyU_first hi h5 (Region.noSelect_spec h1) (fun c a w => hQ c a _ _ w) fuel listed a w (Region.free_spec hi h2) (by simpa using h3) (Or.inl ⟨?_, hr⟩) hS h
  simp only [Option.isNone_iff_eq_none] at h4
  simp [Region.wanted, h4]

theorem tk_move {d : Option Tmp} {x : Operand} (hi : ops[i]? = some oi) (hd : oi.dst = d) (ho : oi.op = .move x) (hok : okTake ops last listed i = true) (hQ : ∀ c (a : Act) d v w, Q (.panic c) (a.put d v) w → Q (.panic c) a w) (hx : a.eval x = v) (hS : S w)
    (h : wpAnyU P ops Q S last fuel (listed.setIfInBounds i true) (a.put d v) w) : wpAnyU P ops Q S last (fuel + 1) listed a w :=
  tk hi hd hok hQ (fun w _ => by unfold execOp; simp only [ho, hx]; simp [go_sem]) hS h
theorem tk_assign {d : Option Tmp} {x : Operand} (hi : ops[i]? = some oi) (hd : oi.dst = d) (ho : oi.op = .assign x) (hok : okTake ops last listed i = true) (hQ : ∀ c (a : Act) d v w, Q (.panic c) (a.put d v) w → Q (.panic c) a w) (hx : a.eval x = v) (hS : S w)
    (h : wpAnyU P ops Q S last fuel (listed.setIfInBounds i true) (a.put d v) w) : wpAnyU P ops Q S last (fuel + 1) listed a w :=
  tk hi hd hok hQ (fun w _ => by unfold execOp; simp only [ho, hx]; simp [go_sem]) hS h
theorem tk_nil {d : Option Tmp} {x : Operand} {p : Addr} (hi : ops[i]? = some oi) (hd : oi.dst = d) (ho : oi.op = .nilCheck x) (hok : okTake ops last listed i = true) (hQ : ∀ c (a : Act) d v w, Q (.panic c) (a.put d v) w → Q (.panic c) a w) (hx : a.eval x = .pointer (some p)) (hS : S w)
    (h : wpAnyU P ops Q S last fuel (listed.setIfInBounds i true) (a.put d (.pointer (some p))) w) : wpAnyU P ops Q S last (fuel + 1) listed a w :=
  tk hi hd hok hQ (fun w _ => by unfold execOp; simp only [ho, hx]; simp [go_sem]) hS h
/-- a field's address -/
theorem tk_field {d : Option Tmp} {x : Operand} {t : TypeId} {f : Nat} {p p' : Addr} (hi : ops[i]? = some oi) (hd : oi.dst = d) (ho : oi.op = .fieldAddr t x f) (hok : okTake ops last listed i = true) (hQ : ∀ c (a : Act) d v w, Q (.panic c) (a.put d v) w → Q (.panic c) a w) (hx : a.eval x = .pointer (some p))
    (hf : ∀ w, (Instr.fieldAt t (.pointer (some p)) f).run P w = .ok (.pointer (some p')) w) (hS : S w)
    (h : wpAnyU P ops Q S last fuel (listed.setIfInBounds i true) (a.put d (.pointer (some p'))) w) : wpAnyU P ops Q S last (fuel + 1) listed a w :=
  tk hi hd hok hQ (fun w _ => by unfold execOp; simp only [ho, hx]; simp only [Sem.run_bind, hf, Result.andThen, Sem.run_pure]) hS h
/-- a load -/
theorem tk_load {d : Option Tmp} {x : Operand} {t : TypeId} {p : Addr} (hi : ops[i]? = some oi) (hd : oi.dst = d) (ho : oi.op = .load t x) (hok : okTake ops last listed i = true) (hQ : ∀ c (a : Act) d v w, Q (.panic c) (a.put d v) w → Q (.panic c) a w) (hx : a.eval x = .pointer (some p))
    (hf : ∀ w, S w → (Instr.loadAt t (.pointer (some p))).run P w = .ok v w) (hS : S w)
    (h : wpAnyU P ops Q S last fuel (listed.setIfInBounds i true) (a.put d v) w) : wpAnyU P ops Q S last (fuel + 1) listed a w :=
  tk hi hd hok hQ (fun w hw => by unfold execOp; simp only [ho, hx]; simp only [Sem.run_bind, hf w hw, Result.andThen, Sem.run_pure]) hS h

/-- the one operation that may come up now, whatever it does -/
theorem go_op (hr : Region.ready .any ops listed = [i]) (hi : ops[i]? = some oi)
    (h : ∀ K' : Act → World → Prop, Shut (∀ a w, (i ≠ last → S w) → wpAnyU P ops Q S last fuel (listed.setIfInBounds i true) a w → K' a w) → if Region.wanted oi (yielded ops a.tmps) = true then Oper.wp P oi a w K' Q else K' (a.put oi.dst undef) w) :
    wpAnyU P ops Q S last (fuel + 1) listed a w := by
  refine ⟨fun h0 => (by rw [hr] at h0; cases h0), fun j hj => ?_⟩
  rw [hr] at hj
  obtain rfl : j = i := by simpa using hj
  exact wpOp_step hi (fun K' hK => h K' (fun a w hS hW => hK a w ⟨hS, hW⟩))
theorem step_val {K : Act → World → Prop} {E : Prop} {w' : World} (hgd : oi.guard = none) (hr : (execOp a.eval oi).run P w = .ok (.value v) w') (h : K (a.put oi.dst v) w') :
    if Region.wanted oi (yielded ops a.tmps) = true then Oper.wp P oi a w K Q else E := by
  have hw : Region.wanted oi (yielded ops a.tmps) = true := by simp [Region.wanted, hgd]
  rw [if_pos hw]
  unfold Oper.wp
  rw [hr]
  exact h
/-- it yields a value, and perhaps another world -/
theorem go_val {d : Option Tmp} {w' : World} (hr : Region.ready .any ops listed = [i]) (hi : ops[i]? = some oi) (hd : oi.dst = d) (hgd : oi.guard = none) (he : (execOp a.eval oi).run P w = .ok (.value v) w') (hS : i ≠ last → S w')
    (h : wpAnyU P ops Q S last fuel (listed.setIfInBounds i true) (a.put d v) w') : wpAnyU P ops Q S last (fuel + 1) listed a w := by
  subst hd
  exact go_op hr hi (fun _ hK => step_val hgd he (hK.out _ _ hS h))
theorem go_call {d : Option Tmp} {f : FuncId} {fn : Func} {c : Code} {xs : Array Operand} {ts : Array TypeId} {args : Array Value} {R : Ending → World → Prop} (hr : Region.ready .any ops listed = [i]) (hi : ops[i]? = some oi) (hd : oi.dst = d) (hgd : oi.guard = none)
    (ho : oi.op = .call { callee := .value (.func f), args := xs, argTypes := ts }) (hf : P.funcs[f]? = some fn) (hname : (fn.name == "runtime.NumGoroutine") = false) (hb : fn.body = some c) (ha : xs.map a.eval = args) (hc : Calls P f args w R)
    (h : ∀ e w', R e w' → ∃ v, e = .returned v ∧ (i ≠ last → S w') ∧ wpAnyU P ops Q S last fuel (listed.setIfInBounds i true) (a.put d v) w') : wpAnyU P ops Q S last (fuel + 1) listed a w := by
  subst hd
  exact go_op hr hi (fun _ hK => step_call hgd f fn c hf hname hb xs ts ho args ha hc (fun e w' hR => let ⟨v, h1, h2, h3⟩ := h e w' hR; ⟨v, h1, hK.out _ _ h2 h3⟩))
theorem step_put {K : Act → World → Prop} {E : Prop} (hgd : oi.guard = none) {t : TypeId} {x y : Operand} (ho : oi.op = .store t x y) (hd : oi.dst = none) {p : Addr} {w' : World} (hp : a.eval x = .pointer (some p)) (hv : a.eval y = v)
    (hs : (Instr.storeAt t (.pointer (some p)) v).run P w = .ok () w') (h : K a w') : if Region.wanted oi (yielded ops a.tmps) = true then Oper.wp P oi a w K Q else E := by
  have hw : Region.wanted oi (yielded ops a.tmps) = true := by simp [Region.wanted, hgd]
  rw [if_pos hw]
  have hr : (execOp a.eval oi).run P w = .ok .skip w' := by
    unfold execOp
    simp only [ho, hp, hv, Sem.run_bind, hs, Result.andThen, Sem.run_pure]
  unfold Oper.wp
  rw [hr, Oper.upon_skip, hd]
  exact h
theorem go_put {t : TypeId} {x y : Operand} {p : Addr} {u : Value} (hr : Region.ready .any ops listed = [i]) (hi : ops[i]? = some oi) (hgd : oi.guard = none) (ho : oi.op = .store t x y) (hd : oi.dst = none) (hp : a.eval x = .pointer (some p)) (hv : a.eval y = v)
    (hs : ∀ w, w.cell? p = some u → w.frozen? p = false → (Instr.storeAt t (.pointer (some p)) v).run P w = .ok () (w.setCell p v)) (hc : w.cell? p = some u) (hf : w.frozen? p = false) (hS : i ≠ last → S (w.setCell p v))
    (h : wpAnyU P ops Q S last fuel (listed.setIfInBounds i true) a (w.setCell p v)) : wpAnyU P ops Q S last (fuel + 1) listed a w :=
  go_op hr hi (fun _ hK => step_put hgd ho hd hp hv (hs w hc hf) (hK.out _ _ hS h))
end
/-- what a slice's elements are -/
def ElemOf (P : Program) (t e : TypeId) (size bytes : Nat) : Prop := ∃ i z, P.underlying t = some (.slice e) ∧ P.info? e = some i ∧ i.zero = some z ∧ i.size = size ∧ i.bytes = bytes ∧ z.cells.size = size

section
variable {P : Program} {ops : Array Oper} {Q : Exit → Act → World → Prop} {S : World → Prop} {last : Nat} {i : Nat} {fuel : Nat} {listed : Array Bool} {a : Act} {w : World} {oi : Oper} {v : Value} {d : Option Tmp}

theorem go_append {s x : Operand} {t e : TypeId} {size bytes base n : Nat} {xs : List Value} {ad : Addr} {m c : Nat} (news : List Value) (hr : Region.ready .any ops listed = [i]) (hi : ops[i]? = some oi) (hd : oi.dst = d) (hgd : oi.guard = none)
    (ho : oi.op = .call { callee := .builtin .append, args := #[s, x], argTypes := #[t, t] }) (hE : ElemOf P t e size bytes) (hsz : 0 < size) (hs : a.eval s = v) (hown : w.ownsRow base e size v n xs)
    (hx : a.eval x = .slice (some ad) m c) (hl : news.length = m * size) (hnews : ∀ j u, news[j]? = some u → w.cell? (ad.add j) = some u) (h1 : ∀ u ∈ news, u.oneCell' = true)
    (hm : 0 < m) (h63 : n + m ≤ maxLen) (hbytes : (n + m) * bytes ≤ 140737488355328) (hbase : base ≤ w.heap.size)
    (h : ∀ g cap w', w'.ownsRow base e size (.slice (some ⟨g, 0, none⟩) (n + m) cap) (n + m) (xs ++ news) → w.grownBy w' v.ownBlock → (v.ownBlock = some g ∨ g = w.heap.size) → g < w'.heap.size →
      (i ≠ last → S w') ∧ wpAnyU P ops Q S last fuel (listed.setIfInBounds i true) (a.put d (.slice (some ⟨g, 0, none⟩) (n + m) cap)) w') : wpAnyU P ops Q S last (fuel + 1) listed a w := by
  subst hd
  obtain ⟨i0, z, e1, e2, e3, e4, e5, e6⟩ := hE
  exact go_op hr hi (fun _ hK => step_append_lies w hgd s x t ho base e i0 z size bytes e1 e2 e3 e4 e5 e6 hsz v n xs hs hown ad m c news hx hl hnews h1 hm h63 hbytes hbase _ rfl
    (fun g cap w' a1 a2 a3 a4 => let ⟨h5, h6⟩ := h g cap w' a1 a2 a3 a4; hK.out _ _ h5 h6))
theorem go_move {x : Operand} (hr : Region.ready .any ops listed = [i]) (hi : ops[i]? = some oi) (hd : oi.dst = d) (hgd : oi.guard = none) (ho : oi.op = .move x) (hx : a.eval x = v) (hS : i ≠ last → S w)
    (h : wpAnyU P ops Q S last fuel (listed.setIfInBounds i true) (a.put d v) w) : wpAnyU P ops Q S last (fuel + 1) listed a w :=
  go_val hr hi hd hgd (by unfold execOp; simp only [ho, hx]; simp [go_sem]) hS h
theorem go_assign {x : Operand} (hr : Region.ready .any ops listed = [i]) (hi : ops[i]? = some oi) (hd : oi.dst = d) (hgd : oi.guard = none) (ho : oi.op = .assign x) (hx : a.eval x = v) (hS : i ≠ last → S w)
    (h : wpAnyU P ops Q S last fuel (listed.setIfInBounds i true) (a.put d v) w) : wpAnyU P ops Q S last (fuel + 1) listed a w :=
  go_val hr hi hd hgd (by unfold execOp; simp only [ho, hx]; simp [go_sem]) hS h
theorem go_nil {x : Operand} {p : Addr} (hr : Region.ready .any ops listed = [i]) (hi : ops[i]? = some oi) (hd : oi.dst = d) (hgd : oi.guard = none) (ho : oi.op = .nilCheck x) (hx : a.eval x = .pointer (some p)) (hS : i ≠ last → S w)
    (h : wpAnyU P ops Q S last fuel (listed.setIfInBounds i true) (a.put d (.pointer (some p))) w) : wpAnyU P ops Q S last (fuel + 1) listed a w :=
  go_val hr hi hd hgd (by unfold execOp; simp only [ho, hx]; simp [go_sem]) hS h
theorem go_field {x : Operand} {t : TypeId} {f : Nat} {p p' : Addr} (hr : Region.ready .any ops listed = [i]) (hi : ops[i]? = some oi) (hd : oi.dst = d) (hgd : oi.guard = none) (ho : oi.op = .fieldAddr t x f) (hx : a.eval x = .pointer (some p))
    (hf : ∀ w, (Instr.fieldAt t (.pointer (some p)) f).run P w = .ok (.pointer (some p')) w) (hS : i ≠ last → S w)
    (h : wpAnyU P ops Q S last fuel (listed.setIfInBounds i true) (a.put d (.pointer (some p'))) w) : wpAnyU P ops Q S last (fuel + 1) listed a w :=
  go_val hr hi hd hgd (by unfold execOp; simp only [ho, hx]; simp only [Sem.run_bind, hf, Result.andThen, Sem.run_pure]) hS h
theorem go_load {x : Operand} {t : TypeId} {p : Addr} (hr : Region.ready .any ops listed = [i]) (hi : ops[i]? = some oi) (hd : oi.dst = d) (hgd : oi.guard = none) (ho : oi.op = .load t x) (hx : a.eval x = .pointer (some p))
    (hf : (Instr.loadAt t (.pointer (some p))).run P w = .ok v w) (hS : i ≠ last → S w)
    (h : wpAnyU P ops Q S last fuel (listed.setIfInBounds i true) (a.put d v) w) : wpAnyU P ops Q S last (fuel + 1) listed a w :=
  go_val hr hi hd hgd (by unfold execOp; simp only [ho, hx]; simp only [Sem.run_bind, hf, Result.andThen, Sem.run_pure]) hS h
theorem go_bin {op : BinOp} {tx ty : TypeId} {x y : Operand} {u1 u2 : Value} (hr : Region.ready .any ops listed = [i]) (hi : ops[i]? = some oi) (hd : oi.dst = d) (hgd : oi.guard = none) (ho : oi.op = .binOp op tx x y ty) (hx : a.eval x = u1) (hy : a.eval y = u2)
    (hf : ∀ w, (do eqGuard op tx x y u1 u2; binOp op tx u1 u2 : Sem Value).run P w = .ok v w) (hS : i ≠ last → S w)
    (h : wpAnyU P ops Q S last fuel (listed.setIfInBounds i true) (a.put d v) w) : wpAnyU P ops Q S last (fuel + 1) listed a w :=
  go_val hr hi hd hgd (by unfold execOp; simp only [ho, hx, hy]; rw [Sem.run_bind, hf]; rfl) hS h
theorem go_index {t : TypeId} {x y : Operand} {u1 u2 : Value} (hr : Region.ready .any ops listed = [i]) (hi : ops[i]? = some oi) (hd : oi.dst = d) (hgd : oi.guard = none) (ho : oi.op = .indexAddr t x y) (hx : a.eval x = u1) (hy : a.eval y = u2)
    (hf : ∀ w, (Instr.indexAt t u1 u2).run P w = .ok v w) (hS : i ≠ last → S w)
    (h : wpAnyU P ops Q S last fuel (listed.setIfInBounds i true) (a.put d v) w) : wpAnyU P ops Q S last (fuel + 1) listed a w :=
  go_val hr hi hd hgd (by unfold execOp; simp only [ho, hx, hy, Sem.run_bind, hf, Result.andThen, Sem.run_pure]) hS h
theorem go_extract {x : Operand} {k : Nat} {u1 : Value} (hr : Region.ready .any ops listed = [i]) (hi : ops[i]? = some oi) (hd : oi.dst = d) (hgd : oi.guard = none) (ho : oi.op = .extract x k) (hx : a.eval x = u1) (hf : ∀ w, (Instr.extract u1 k).run P w = .ok v w) (hS : i ≠ last → S w)
    (h : wpAnyU P ops Q S last fuel (listed.setIfInBounds i true) (a.put d v) w) : wpAnyU P ops Q S last (fuel + 1) listed a w :=
  go_val hr hi hd hgd (by unfold execOp; simp only [ho, hx, Sem.run_bind, hf, Result.andThen, Sem.run_pure]) hS h
/-- a slice of one element, made -/
theorem go_build1 {t : TypeId} {x : Operand} {u : Value} {w' : World} (hr : Region.ready .any ops listed = [i]) (hi : ops[i]? = some oi) (hd : oi.dst = d) (hgd : oi.guard = none) (ho : oi.op = .buildSlice t 1 #[(0, x)]) (hx : a.eval x = u)
    (he : (Instr.buildSlice t 1 #[(0, u)]).run P w = .ok v w') (hS : i ≠ last → S w')
    (h : wpAnyU P ops Q S last fuel (listed.setIfInBounds i true) (a.put d v) w') : wpAnyU P ops Q S last (fuel + 1) listed a w := by
  refine go_val hr hi hd hgd ?_ hS h
  unfold execOp
  simp only [ho, List.map_toArray, List.map_cons, List.map_nil, hx, Sem.run_bind, he, Result.andThen, Sem.run_pure]
/-- an operation of two operands -/
theorem tk_bin {op : BinOp} {tx ty : TypeId} {x y : Operand} {u1 u2 : Value} (hi : ops[i]? = some oi) (hd : oi.dst = d) (ho : oi.op = .binOp op tx x y ty) (hok : okTake ops last listed i = true) (hQ : ∀ c (a : Act) d v w, Q (.panic c) (a.put d v) w → Q (.panic c) a w)
    (hx : a.eval x = u1) (hy : a.eval y = u2) (hf : ∀ w, (do eqGuard op tx x y u1 u2; binOp op tx u1 u2 : Sem Value).run P w = .ok v w) (hS : S w)
    (h : wpAnyU P ops Q S last fuel (listed.setIfInBounds i true) (a.put d v) w) : wpAnyU P ops Q S last (fuel + 1) listed a w :=
  tk hi hd hok hQ (fun w _ => by unfold execOp; simp only [ho, hx, hy]; rw [Sem.run_bind, hf]; rfl) hS h
/-- an element's address -/
theorem tk_index {t : TypeId} {x y : Operand} {u1 u2 : Value} (hi : ops[i]? = some oi) (hd : oi.dst = d) (ho : oi.op = .indexAddr t x y) (hok : okTake ops last listed i = true) (hQ : ∀ c (a : Act) d v w, Q (.panic c) (a.put d v) w → Q (.panic c) a w)
    (hx : a.eval x = u1) (hy : a.eval y = u2) (hf : ∀ w, (Instr.indexAt t u1 u2).run P w = .ok v w) (hS : S w)
    (h : wpAnyU P ops Q S last fuel (listed.setIfInBounds i true) (a.put d v) w) : wpAnyU P ops Q S last (fuel + 1) listed a w :=
  tk hi hd hok hQ (fun w _ => by unfold execOp; simp only [ho, hx, hy, Sem.run_bind, hf, Result.andThen, Sem.run_pure]) hS h
theorem tk_extract {x : Operand} {k : Nat} {u1 : Value} (hi : ops[i]? = some oi) (hd : oi.dst = d) (ho : oi.op = .extract x k) (hok : okTake ops last listed i = true) (hQ : ∀ c (a : Act) d v w, Q (.panic c) (a.put d v) w → Q (.panic c) a w)
    (hx : a.eval x = u1) (hf : ∀ w, (Instr.extract u1 k).run P w = .ok v w) (hS : S w)
    (h : wpAnyU P ops Q S last fuel (listed.setIfInBounds i true) (a.put d v) w) : wpAnyU P ops Q S last (fuel + 1) listed a w :=
  tk hi hd hok hQ (fun w _ => by unfold execOp; simp only [ho, hx, Sem.run_bind, hf, Result.andThen, Sem.run_pure]) hS h
/-- len of a string, of a slice -/
theorem tk_call1 {x : Operand} {u1 : Value} (hi : ops[i]? = some oi) (hd : oi.dst = d) (hok : okTake ops last listed i = true) (hQ : ∀ c (a : Act) d v w, Q (.panic c) (a.put d v) w → Q (.panic c) a w)
    (hx : a.eval x = u1) (hf : ∀ (ρ : Operand → Value) w, ρ x = u1 → (execOp ρ oi).run P w = .ok (.value v) w) (hS : S w)
    (h : wpAnyU P ops Q S last fuel (listed.setIfInBounds i true) (a.put d v) w) : wpAnyU P ops Q S last (fuel + 1) listed a w :=
  tk hi hd hok hQ (fun w _ => hf _ w hx) hS h
end
/-! what an operation yields, by its kind -/
section
variable {P : Program} {ops : Array Oper} {Q : Exit → Act → World → Prop} {S : World → Prop} {last : Nat} {i : Nat} {fuel : Nat} {listed : Array Bool} {a : Act} {w : World} {oi : Oper} {v : Value} {d : Option Tmp}
theorem run_move {x : Operand} (ho : oi.op = .move x) (hx : a.eval x = v) : (execOp a.eval oi).run P w = .ok (.value v) w := by unfold execOp; simp only [ho, hx]; simp [go_sem]
theorem run_assign {x : Operand} (ho : oi.op = .assign x) (hx : a.eval x = v) : (execOp a.eval oi).run P w = .ok (.value v) w := by unfold execOp; simp only [ho, hx]; simp [go_sem]
theorem run_pick {c x y : Operand} {b : Bool} {u1 u2 : Value} (ho : oi.op = .pick c x y) (hc : a.eval c = .bool b) (hx : a.eval x = u1) (hy : a.eval y = u2) (hv : (if b then u1 else u2) = v) : (execOp a.eval oi).run P w = .ok (.value v) w := by
  unfold execOp; simp only [ho, hc, hx, hy]; subst hv; cases b <;> simp [go_sem]
theorem run_nil {x : Operand} {p : Addr} (ho : oi.op = .nilCheck x) (hx : a.eval x = .pointer (some p)) : (execOp a.eval oi).run P w = .ok (.value (.pointer (some p))) w := by unfold execOp; simp only [ho, hx]; simp [go_sem]
theorem run_field {x : Operand} {t : TypeId} {f : Nat} {p p' : Addr} (ho : oi.op = .fieldAddr t x f) (hx : a.eval x = .pointer (some p)) (hf : ∀ w, (Instr.fieldAt t (.pointer (some p)) f).run P w = .ok (.pointer (some p')) w) : (execOp a.eval oi).run P w = .ok (.value (.pointer (some p'))) w := by
  unfold execOp; simp only [ho, hx]; simp only [Sem.run_bind, hf, Result.andThen, Sem.run_pure]
theorem run_load {x : Operand} {t : TypeId} {p : Addr} (ho : oi.op = .load t x) (hx : a.eval x = .pointer (some p)) (hf : (Instr.loadAt t (.pointer (some p))).run P w = .ok v w) : (execOp a.eval oi).run P w = .ok (.value v) w := by
  unfold execOp; simp only [ho, hx]; simp only [Sem.run_bind, hf, Result.andThen, Sem.run_pure]
theorem run_bin {op : BinOp} {tx ty : TypeId} {x y : Operand} {u1 u2 : Value} (ho : oi.op = .binOp op tx x y ty) (hx : a.eval x = u1) (hy : a.eval y = u2) (hf : (do eqGuard op tx x y u1 u2; binOp op tx u1 u2 : Sem Value).run P w = .ok v w) : (execOp a.eval oi).run P w = .ok (.value v) w := by
  unfold execOp; simp only [ho, hx, hy]; rw [Sem.run_bind, hf]; rfl
theorem run_un {op : UnOp} {tx : TypeId} {x : Operand} {u1 : Value} (ho : oi.op = .unOp op tx x) (hx : a.eval x = u1) (hf : (Op.unary op u1).run P w = .ok v w) : (execOp a.eval oi).run P w = .ok (.value v) w := by
  unfold execOp; simp only [ho, hx, Sem.run_bind, hf, Result.andThen, Sem.run_pure]
theorem run_index {t : TypeId} {x y : Operand} {u1 u2 : Value} (ho : oi.op = .indexAddr t x y) (hx : a.eval x = u1) (hy : a.eval y = u2) (hf : (Instr.indexAt t u1 u2).run P w = .ok v w) : (execOp a.eval oi).run P w = .ok (.value v) w := by
  unfold execOp; simp only [ho, hx, hy, Sem.run_bind, hf, Result.andThen, Sem.run_pure]
theorem run_extract {x : Operand} {k : Nat} {u1 : Value} (ho : oi.op = .extract x k) (hx : a.eval x = u1) (hf : (Instr.extract u1 k).run P w = .ok v w) : (execOp a.eval oi).run P w = .ok (.value v) w := by
  unfold execOp; simp only [ho, hx, Sem.run_bind, hf, Result.andThen, Sem.run_pure]
theorem run_slice {t : TypeId} {x : Operand} {lo hi : Option Operand} {u1 : Value} {l h : Option Value} (ho : oi.op = .slice t x lo hi none) (hx : a.eval x = u1) (hl : lo.map a.eval = l) (hh : hi.map a.eval = h) (hf : (Instr.sliceAt t u1 l h none).run P w = .ok v w) : (execOp a.eval oi).run P w = .ok (.value v) w := by
  unfold execOp; simp only [ho, hx, hl, hh, Option.map_none, Sem.run_bind, hf, Result.andThen, Sem.run_pure]
theorem run_build2 {t : TypeId} {x y : Operand} {u1 u2 : Value} (ho : oi.op = .build t #[(0, x), (1, y)]) (hx : a.eval x = u1) (hy : a.eval y = u2) (hf : (Instr.build t #[(0, u1), (1, u2)]).run P w = .ok v w) : (execOp a.eval oi).run P w = .ok (.value v) w := by
  unfold execOp; simp only [ho, List.map_toArray, List.map_cons, List.map_nil, hx, hy, Sem.run_bind, hf, Result.andThen, Sem.run_pure]
theorem run_build3 {t : TypeId} {x y z : Operand} {u1 u2 u3 : Value} (ho : oi.op = .build t #[(0, x), (1, y), (2, z)]) (hx : a.eval x = u1) (hy : a.eval y = u2) (hz : a.eval z = u3) (hf : (Instr.build t #[(0, u1), (1, u2), (2, u3)]).run P w = .ok v w) : (execOp a.eval oi).run P w = .ok (.value v) w := by
  unfold execOp; simp only [ho, List.map_toArray, List.map_cons, List.map_nil, hx, hy, hz, Sem.run_bind, hf, Result.andThen, Sem.run_pure]
theorem run_len {t : TypeId} {x : Operand} {u1 : Value} (ho : oi.op = .call { callee := .builtin .len, args := #[x], argTypes := #[t] }) (hx : a.eval x = u1) (hf : ∀ ρ : Operand → Value, ρ x = u1 → (do let d ← resolve ρ { callee := .builtin .len, args := #[x], argTypes := #[t] } oi.type; invoke d.target d.args : Sem Next).run P w = .ok (.value v) w) : (execOp a.eval oi).run P w = .ok (.value v) w := by
  unfold execOp; simp only [ho]; exact hf _ hx
theorem run_call2 {c : Callee} {t1 t2 : TypeId} {x y : Operand} {u1 u2 : Value} {w' : World} (ho : oi.op = .call { callee := c, args := #[x, y], argTypes := #[t1, t2] }) (hx : a.eval x = u1) (hy : a.eval y = u2) (hf : ∀ ρ : Operand → Value, ρ x = u1 → ρ y = u2 → (do let d ← resolve ρ { callee := c, args := #[x, y], argTypes := #[t1, t2] } oi.type; invoke d.target d.args : Sem Next).run P w = .ok (.value v) w') : (execOp a.eval oi).run P w = .ok (.value v) w' := by
  unfold execOp; simp only [ho]; exact hf _ hx hy
theorem go_store {t : TypeId} {x y : Operand} {p : Addr} {w' : World} (hr : Region.ready .any ops listed = [i]) (hi : ops[i]? = some oi) (hgd : oi.guard = none) (ho : oi.op = .store t x y) (hd : oi.dst = none) (hp : a.eval x = .pointer (some p)) (hv : a.eval y = v)
    (hs : (Instr.storeAt t (.pointer (some p)) v).run P w = .ok () w') (hS : i ≠ last → S w')
    (h : wpAnyU P ops Q S last fuel (listed.setIfInBounds i true) a w') : wpAnyU P ops Q S last (fuel + 1) listed a w :=
  go_op hr hi (fun _ hK => step_put hgd ho hd hp hv hs (hK.out _ _ hS h))

/-! guarded operations -/
theorem wanted_is {j e : Nat} {b c : Bool} (hg : oi.guard = some (j, b)) (hj : (ops[j]?).bind (·.dst) = some e) (hv : a.eval (.tmp e) = .bool c) : Region.wanted oi (yielded ops a.tmps) = (c == b) := by
  have h1 : a.tmps[e]? = some (.bool c) := by
    simp only [Act.eval, Array.getD_eq_getD_getElem?] at hv
    cases h : a.tmps[e]? with
    | none => rw [h] at hv; cases hv
    | some u => rw [h] at hv; simp only [Option.getD_some] at hv; rw [hv]
  unfold Region.wanted yielded
  simp only [hg, hj, Option.bind_some, h1]
  cases b <;> cases c <;> rfl
theorem wanted_yes {j e : Nat} {b : Bool} (hg : oi.guard = some (j, b)) (hj : (ops[j]?).bind (·.dst) = some e) (hv : a.eval (.tmp e) = .bool b) : Region.wanted oi (yielded ops a.tmps) = true := by
  rw [wanted_is hg hj hv]; cases b <;> rfl
theorem wanted_no {j e : Nat} {b : Bool} (hg : oi.guard = some (j, b)) (hj : (ops[j]?).bind (·.dst) = some e) (hv : a.eval (.tmp e) = .bool (!b)) : Region.wanted oi (yielded ops a.tmps) = false := by
  rw [wanted_is hg hj hv]; cases b <;> rfl
def okTakeG (ops : Array Oper) (last : Nat) (listed : Array Bool) (i : Nat) : Bool := Region.noSelect ops && Region.free .any ops listed i && (Region.ready .any ops listed).contains i && waitsFor ops last i
theorem tkg (hi : ops[i]? = some oi) (hd : oi.dst = d) (hok : okTakeG ops last listed i = true) (hQ : ∀ c (a : Act) d v w, Q (.panic c) (a.put d v) w → Q (.panic c) a w) (hw : Region.wanted oi (yielded ops a.tmps) = true)
    (hr : ∀ w, S w → (execOp a.eval oi).run P w = .ok (.value v) w) (hS : S w)
    (h : wpAnyU P ops Q S last fuel (listed.setIfInBounds i true) (a.put d v) w) : wpAnyU P ops Q S last (fuel + 1) listed a w := by
  subst hd
  unfold okTakeG at hok
  simp only [Bool.and_eq_true] at hok
  obtain ⟨⟨⟨h1, h2⟩, h3⟩, h5⟩ := hok
  exact wpAnyU_first hi h5 (Region.noSelect_spec h1) (fun c a w => hQ c a _ _ w) fuel listed a w (Region.free_spec hi h2) (by simpa using h3) (Or.inl ⟨hw, hr⟩) hS h
/-- one that is not wanted -/
theorem tkn (hi : ops[i]? = some oi) (hd : oi.dst = d) (hok : okTakeG ops last listed i = true) (hQ : ∀ c (a : Act) d v w, Q (.panic c) (a.put d v) w → Q (.panic c) a w) (hw : Region.wanted oi (yielded ops a.tmps) = false) (hS : S w)
    (h : wpAnyU P ops Q S last fuel (listed.setIfInBounds i true) (a.put d undef) w) : wpAnyU P ops Q S last (fuel + 1) listed a w := by
  subst hd
  unfold okTakeG at hok
  simp only [Bool.and_eq_true] at hok
  obtain ⟨⟨⟨h1, h2⟩, h3⟩, h5⟩ := hok
  exact wpAnyU_first hi h5 (Region.noSelect_spec h1) (fun c a w => hQ c a _ _ w) fuel listed a w (Region.free_spec hi h2) (by simpa using h3) (Or.inr ⟨hw, rfl⟩) hS h
end
theorem args0 {a : Act} : (#[] : Array Operand).map a.eval = #[] := by simp
theorem args1 {a : Act} {x : Operand} {u : Value} (hx : a.eval x = u) : (#[x] : Array Operand).map a.eval = #[u] := by simp [hx]
theorem args2 {a : Act} {x y : Operand} {u v : Value} (hx : a.eval x = u) (hy : a.eval y = v) : (#[x, y] : Array Operand).map a.eval = #[u, v] := by simp [hx, hy]
theorem args3 {a : Act} {x y z : Operand} {u v t : Value} (hx : a.eval x = u) (hy : a.eval y = v) (hz : a.eval z = t) : (#[x, y, z] : Array Operand).map a.eval = #[u, v, t] := by simp [hx, hy, hz]

end Go.Proofs.YtamglanahpcedaaGreatDoor
namespace Go.Proofs.YtamglanahpcedaaGreatDoor
open Go.RowKit

/-- none of these has come up yet -/
def unbrk (brk : List Nat) (listed : Array Bool) : Bool := brk.all fun l => !(listed.getD l true)
section
variable {P : Program} {ops : Array Oper} {Q : Exit → Act → World → Prop} {S : World → Prop} {brk : List Nat}

/-- whatever order is picked from here on; S holds as long as none of brk has come up -/
def wpAnyV (P : Program) (ops : Array Oper) (Q : Exit → Act → World → Prop) (S : World → Prop) (brk : List Nat) : Nat → Array Bool → Act → World → Prop
  | 0, listed, a, w => Region.ready .any ops listed = [] ∧ Q .normal a w
  | fuel + 1, listed, a, w =>
    (Region.ready .any ops listed = [] → Q .normal a w) ∧
    ∀ i ∈ Region.ready .any ops listed, wpOp P ops Q i (fun a' w' => (unbrk brk (listed.setIfInBounds i true) = true → S w') ∧ wpAnyV P ops Q S brk fuel (listed.setIfInBounds i true) a' w') a w

theorem wpAny_of_late : ∀ (fuel : Nat) (listed : Array Bool) (a : Act) (w : World), wpAnyV P ops Q S brk fuel listed a w → wpAny P .any ops Q fuel listed a w
  | 0, _, _, _, h => h
  | fuel + 1, _, _, _, h => ⟨h.1, fun i hi => wpOp_mono (fun a' w' h' => wpAny_of_late fuel _ a' w' h'.2) (h.2 i hi)⟩
theorem unbrk_set {listed : Array Bool} {i : Nat} (h : unbrk brk (listed.setIfInBounds i true) = true) : unbrk brk listed = true := by
  unfold unbrk at *
  rw [List.all_eq_true] at *
  intro l hl
  have h1 := h l hl
  by_cases e : i = l
  · subst e
    rcases Nat.lt_or_ge i listed.size with h' | h'
    · simp [h'] at h1
    · simp at h1
  · rwa [getD_set_ne true e] at h1
theorem unbrk_other {listed : Array Bool} {i : Nat} (hi : i ∉ brk) (h : unbrk brk listed = true) : unbrk brk (listed.setIfInBounds i true) = true := by
  unfold unbrk at *
  rw [List.all_eq_true] at *
  intro l hl
  have hne : i ≠ l := by rintro rfl; exact hi hl
  rw [getD_set_ne true hne]
  exact h l hl

/-- an operation may be taken first: T: where it yields its value (S, where the breaking ones wait for it; else any world) -/
theorem wpAnyV_first {i : Nat} {oi : Oper} {v : Value} {T : World → Prop} (hi : ops[i]? = some oi) (hib : i ∉ brk) (hsel : ∀ (j : Nat) (o : Oper) cs b, ops[j]? = some o → o.op ≠ .select cs b)
    (hQ : ∀ c a w, Q (.panic c) (a.put oi.dst v) w → Q (.panic c) a w)
    (hT : (∀ w, T w) ∨ ((∀ w, S w → T w) ∧ brk.all (fun l => waitsFor ops l i) = true)) :
    ∀ (fuel : Nat) (listed : Array Bool) (a : Act) (w : World),
      (∀ j oj, ops[j]? = some oj → j ≠ i → listed.getD j true = false → (∀ e ∈ oj.after, Region.binds .any e = true → e.on ≠ i) → oi.apart ops oj = true) →
      i ∈ Region.ready .any ops listed → YieldsIf P ops T oi v a → T w → (unbrk brk listed = true → S w) → ((∀ w, T w) ∨ unbrk brk listed = true) →
      wpAnyV P ops Q S brk fuel (listed.setIfInBounds i true) (a.put oi.dst v) w → wpAnyV P ops Q S brk (fuel + 1) listed a w := by
  intro fuel
  induction fuel with
  | zero =>
    intro listed a w _ hr hy hTw hS _ H
    refine ⟨fun h => (by rw [h] at hr; cases hr), fun j hj => ?_⟩
    by_cases hji : j = i
    · subst hji; exact hy.wpOp hi hTw ⟨fun h => hS (unbrk_set h), H⟩
    · have := ready_mono hj hji
      rw [H.1] at this
      cases this
  | succ fuel ih =>
    intro listed a w hfree hr hy hTw hS hub H
    refine ⟨fun h => (by rw [h] at hr; cases hr), fun j hj => ?_⟩
    by_cases hji : j = i
    · subst hji; exact hy.wpOp hi hTw ⟨fun h => hS (unbrk_set h), H⟩
    · have h1 := H.2 j (ready_mono hj hji)
      obtain ⟨hjun, oj, hoj, hall⟩ := mem_ready.1 hj
      have hnot : ∀ e ∈ oj.after, Region.binds .any e = true → e.on ≠ i := fun e he hb heq => by
        have h1 := hall e he hb
        have h0 := (mem_ready.1 hr).1
        rw [heq] at h1
        rcases Nat.lt_or_ge i listed.size with h' | h'
        · simp [h'] at h0 h1; rw [h0] at h1; cases h1
        · simp [Array.getElem?_eq_none h'] at h1
      have h2 := wpOp_putIf hoj (hfree j oj hoj hji hjun hnot) (fun cs b => hsel i oi cs b hi) (fun cs b => hsel j oj cs b hoj) hQ hy h1
      have hfree' : ∀ k ok, ops[k]? = some ok → k ≠ i → (listed.setIfInBounds j true).getD k true = false →
          (∀ e ∈ ok.after, Region.binds .any e = true → e.on ≠ i) → oi.apart ops ok = true := fun k ok hk hki hun hno => by
        refine hfree k ok hk hki ?_ hno
        by_cases hjk : j = k
        · subst hjk; exact hjun
        · rw [getD_set_ne true hjk] at hun; exact hun
      have hub' : (∀ w, T w) ∨ unbrk brk (listed.setIfInBounds j true) = true := by
        rcases hT with hT | ⟨_, hwait⟩
        · exact Or.inl hT
        · rcases hub with hub | hub
          · exact Or.inl hub
          · exact Or.inr (unbrk_other (fun e => not_ready_last (List.all_eq_true.1 hwait j e) (mem_ready.1 hr).1 hj) hub)
      refine wpOp_mono (fun a' w' h3 => ?_) h2
      have hcomm : (listed.setIfInBounds i true).setIfInBounds j true = (listed.setIfInBounds j true).setIfInBounds i true := Array.setIfInBounds_comm _ _ (Ne.symm hji)
      have hS' : unbrk brk (listed.setIfInBounds j true) = true → S w' := fun h => h3.2.1 (by rw [hcomm]; exact unbrk_other hib h)
      have hT' : T w' := by
        rcases hT with hT | ⟨hST, _⟩
        · exact hT w'
        · rcases hub' with h | h
          · exact h w'
          · exact hST w' (hS' h)
      refine ⟨hS', ih (listed.setIfInBounds j true) a' w' hfree' (ready_mono hr (Ne.symm hji)) h3.1 hT' hS' hub' ?_⟩
      rw [← hcomm]
      exact h3.2.2

theorem wpAnyV_done {listed : Array Bool} {a : Act} {w : World} (hr : Region.ready .any ops listed = []) (h : Q .normal a w) : ∀ fuel, wpAnyV P ops Q S brk fuel listed a w
  | 0 => ⟨hr, h⟩
  | _ + 1 => ⟨fun _ => h, by rw [hr]; simp⟩
end
/-- A region that draws, opened -/
theorem region_late {P : Program} {id : Nat} {ops : Array Oper} {Q : Exit → Act → World → Prop} {a : Act} {w : World} (brk : List Nat) (S : World → Prop) (n : Nat) (hn : ops.size = n) (hm : P.follows .mixedOrders = true) (hS : S w.drew)
    (h : ∀ (a' : Act) (Q' : Exit → Act → World → Prop), Shut (a' = a) → Shut (∀ a w, Q .normal a w → Q' .normal a w) → (∀ c (a : Act) d v w, Q' (.panic c) (a.put d v) w → Q' (.panic c) a w) → S w.drew → wpAnyV P ops Q' S brk n (Array.replicate n false) a' w.drew) :
    (Code.region id ops true).wp P Q a w := by
  subst hn
  exact wp_region_noPanic (wp_region_any hm (wpAny_of_late _ _ _ _ (h a (NoPanic Q) rfl (fun _ _ h => h) (fun _ _ _ _ _ h => h) hS)))

section
variable {P : Program} {ops : Array Oper} {Q : Exit → Act → World → Prop} {S : World → Prop} {brk : List Nat} {i : Nat} {fuel : Nat} {listed : Array Bool} {a : Act} {w : World} {oi : Oper} {v : Value} {d : Option Tmp}
def okTakeV (ops : Array Oper) (brk : List Nat) (listed : Array Bool) (i : Nat) : Bool := Region.noSelect ops && Region.free .any ops listed i && (Region.ready .any ops listed).contains i && brk.all (fun l => waitsFor ops l i) && unbrk brk listed && !(brk.contains i)
def okTakeP (ops : Array Oper) (brk : List Nat) (listed : Array Bool) (i : Nat) : Bool := Region.noSelect ops && Region.free .any ops listed i && (Region.ready .any ops listed).contains i && !(brk.contains i)
theorem wanted_all (hg : oi.guard = none) : Region.wanted oi (yielded ops a.tmps) = true := by simp [Region.wanted, hg]
theorem tkv (hi : ops[i]? = some oi) (hd : oi.dst = d) (hok : okTakeV ops brk listed i = true) (hQ : ∀ c (a : Act) d v w, Q (.panic c) (a.put d v) w → Q (.panic c) a w) (hw : Region.wanted oi (yielded ops a.tmps) = true)
    (hr : ∀ w, S w → (execOp a.eval oi).run P w = .ok (.value v) w) (hS : S w)
    (h : wpAnyV P ops Q S brk fuel (listed.setIfInBounds i true) (a.put d v) w) : wpAnyV P ops Q S brk (fuel + 1) listed a w := by
  subst hd
  unfold okTakeV at hok
  simp only [Bool.and_eq_true] at hok
  obtain ⟨⟨⟨⟨⟨h1, h2⟩, h3⟩, h5⟩, h6⟩, h7⟩ := hok
  exact wpAnyV_first (T := S) hi (by simpa using h7) (Region.noSelect_spec h1) (fun c a w => hQ c a _ _ w) (Or.inr ⟨fun _ h => h, h5⟩) fuel listed a w (Region.free_spec hi h2) (by simpa using h3) (Or.inl ⟨hw, hr⟩) hS (fun _ => hS) (Or.inr h6) h
/-- one that yields its value in whatever world -/
theorem tkp (hi : ops[i]? = some oi) (hd : oi.dst = d) (hok : okTakeP ops brk listed i = true) (hQ : ∀ c (a : Act) d v w, Q (.panic c) (a.put d v) w → Q (.panic c) a w) (hw : Region.wanted oi (yielded ops a.tmps) = true)
    (hr : ∀ w, (execOp a.eval oi).run P w = .ok (.value v) w) (hS : S w)
    (h : wpAnyV P ops Q S brk fuel (listed.setIfInBounds i true) (a.put d v) w) : wpAnyV P ops Q S brk (fuel + 1) listed a w := by
  subst hd
  unfold okTakeP at hok
  simp only [Bool.and_eq_true] at hok
  obtain ⟨⟨⟨h1, h2⟩, h3⟩, h7⟩ := hok
  exact wpAnyV_first (T := fun _ => True) hi (by simpa using h7) (Region.noSelect_spec h1) (fun c a w => hQ c a _ _ w) (Or.inl fun _ => trivial) fuel listed a w (Region.free_spec hi h2) (by simpa using h3) (Or.inl ⟨hw, fun w _ => hr w⟩) trivial (fun _ => hS) (Or.inl fun _ => trivial) h
theorem tknv (hi : ops[i]? = some oi) (hd : oi.dst = d) (hok : okTakeP ops brk listed i = true) (hQ : ∀ c (a : Act) d v w, Q (.panic c) (a.put d v) w → Q (.panic c) a w) (hw : Region.wanted oi (yielded ops a.tmps) = false) (hS : S w)
    (h : wpAnyV P ops Q S brk fuel (listed.setIfInBounds i true) (a.put d undef) w) : wpAnyV P ops Q S brk (fuel + 1) listed a w := by
  subst hd
  unfold okTakeP at hok
  simp only [Bool.and_eq_true] at hok
  obtain ⟨⟨⟨h1, h2⟩, h3⟩, h7⟩ := hok
  exact wpAnyV_first (T := fun _ => True) hi (by simpa using h7) (Region.noSelect_spec h1) (fun c a w => hQ c a _ _ w) (Or.inl fun _ => trivial) fuel listed a w (Region.free_spec hi h2) (by simpa using h3) (Or.inr ⟨hw, rfl⟩) trivial (fun _ => hS) (Or.inl fun _ => trivial) h
theorem gov_op (hr : Region.ready .any ops listed = [i]) (hi : ops[i]? = some oi)
    (h : ∀ K' : Act → World → Prop, Shut (∀ a w, (unbrk brk (listed.setIfInBounds i true) = true → S w) → wpAnyV P ops Q S brk fuel (listed.setIfInBounds i true) a w → K' a w) → if Region.wanted oi (yielded ops a.tmps) = true then Oper.wp P oi a w K' Q else K' (a.put oi.dst undef) w) :
    wpAnyV P ops Q S brk (fuel + 1) listed a w := by
  refine ⟨fun h0 => (by rw [hr] at h0; cases h0), fun j hj => ?_⟩
  rw [hr] at hj
  obtain rfl : j = i := by simpa using hj
  exact wpOp_step hi (fun K' hK => h K' (fun a w hS hW => hK a w ⟨hS, hW⟩))
theorem gov_val {w' : World} (hr : Region.ready .any ops listed = [i]) (hi : ops[i]? = some oi) (hd : oi.dst = d) (hw : Region.wanted oi (yielded ops a.tmps) = true) (he : (execOp a.eval oi).run P w = .ok (.value v) w') (hS : unbrk brk (listed.setIfInBounds i true) = true → S w')
    (h : wpAnyV P ops Q S brk fuel (listed.setIfInBounds i true) (a.put d v) w') : wpAnyV P ops Q S brk (fuel + 1) listed a w := by
  subst hd
  refine gov_op hr hi (fun K' hK => ?_)
  rw [if_pos hw]
  unfold Oper.wp
  rw [he]
  exact hK.out _ _ hS h
theorem gov_store {t : TypeId} {x y : Operand} {p : Addr} {w' : World} (hr : Region.ready .any ops listed = [i]) (hi : ops[i]? = some oi) (hgd : oi.guard = none) (ho : oi.op = .store t x y) (hd : oi.dst = none) (hp : a.eval x = .pointer (some p)) (hv : a.eval y = v)
    (hs : (Instr.storeAt t (.pointer (some p)) v).run P w = .ok () w') (hS : unbrk brk (listed.setIfInBounds i true) = true → S w')
    (h : wpAnyV P ops Q S brk fuel (listed.setIfInBounds i true) a w') : wpAnyV P ops Q S brk (fuel + 1) listed a w :=
  gov_op hr hi (fun _ hK => step_put hgd ho hd hp hv hs (hK.out _ _ hS h))
/-- a call of a function value -/
theorem gov_callv {f : FuncId} {fn : Func} {c : Code} {x : Operand} {xs : Array Operand} {ts : Array TypeId} {args : Array Value} {R : Ending → World → Prop} (hr : Region.ready .any ops listed = [i]) (hi : ops[i]? = some oi) (hd : oi.dst = d) (hw : Region.wanted oi (yielded ops a.tmps) = true)
    (ho : oi.op = .call { callee := .value x, args := xs, argTypes := ts }) (hx : a.eval x = .func (.func f) #[] #[]) (hf : P.funcs[f]? = some fn) (hname : (fn.name == "runtime.NumGoroutine") = false) (hb : fn.body = some c) (ha : xs.map a.eval = args) (hc : Calls P f args w R)
    (h : ∀ e w', R e w' → ∃ v, e = .returned v ∧ (unbrk brk (listed.setIfInBounds i true) = true → S w') ∧ wpAnyV P ops Q S brk fuel (listed.setIfInBounds i true) (a.put d v) w') : wpAnyV P ops Q S brk (fuel + 1) listed a w := by
  subst hd
  refine gov_op hr hi (fun K' hK => ?_)
  rw [if_pos hw]
  have hr : (execOp a.eval oi).run P w = .ok (.enter f args) w := by
    unfold execOp
    simp only [ho, resolve, hx]
    simp [invoke, Deferred.ofValue, ha]
    exact Go.MuLone.run_callFunc_enter hf hname hb args w
  unfold Oper.wp
  rw [hr, Oper.upon_enter]
  refine hc.mono fun e w' hR => ?_
  obtain ⟨v, rfl, h2, h3⟩ := h e w' hR
  exact hK.out _ _ h2 h3
end
end Go.Proofs.YtamglanahpcedaaGreatDoor
