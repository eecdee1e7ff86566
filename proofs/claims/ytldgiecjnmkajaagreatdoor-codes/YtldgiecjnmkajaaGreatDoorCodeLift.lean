/-
  OWN TEXT: Codes, lifted to the form of the rows.
-/
import Derived.Test.YtldgiecjnmkajaaGreatDoorCodeRead
import Derived.Test.YtldgiecjnmkajaaGreatDoorPlayH
import Derived.ProofKit
import Derived.Lib.SmallJoins
import Derived.Deep.Slices
import Derived.Deep.Strs
import Derived.ChangeMaps5
import Derived.SevenTiedAt
namespace Go.Proofs.YtldgiecjnmkajaaGreatDoor
open Go.ChangeShapes Go.WideShapes Go.ChangeAt Go.RowKit Go.Joins Go.ChangeMaps

theorem gTz : Tryz.prog.globalNamed "math/bits.deBruijn64tab" = some 4 := by kernel_rfl
theorem tTz : (Tryz.prog.globals[4]?).map (·.type) = some 485 := by kernel_rfl
theorem cU8 : Tryz.prog.cellsOf 5 = 1 := by kernel_rfl
theorem cArr64 : Tryz.prog.cellsOf 485 = 64 := by kernel_rfl
def tzTab : List Int := [0, 1, 56, 2, 57, 49, 28, 3, 61, 58, 42, 50, 38, 29, 17, 4, 62, 47, 59, 36, 45, 43, 51, 22, 53, 39, 33, 30, 24, 18, 12, 5, 63, 55, 48, 27, 60, 41, 37, 16, 46, 35, 44, 21, 52, 32, 23, 11, 54, 26, 40, 15, 34, 20, 31, 10, 25, 14, 19, 9, 13, 8, 7, 6]
theorem gLe : Tryz.prog.globalNamed "mailbag/mailbagref.least" = some 0 := by kernel_rfl
theorem tLe : (Tryz.prog.globals[0]?).map (·.type) = some 377 := by kernel_rfl
theorem cArr5 : Tryz.prog.cellsOf 377 = 5 := by kernel_rfl
def leTab : List Int := [0, 0, 128, 2048, 65536]

theorem env_all {W : World} (h : laidMet Tryz.prog Rows.codesRow.laid W) (hsh : W.ShapedOpen Tryz.prog) : EnvN W ∧ LeastIs W := by
  refine ⟨⟨env_of h hsh, ?_⟩, ?_⟩
  · have h1 := Lib.tabIs_of_head (zs := tzTab) gTz tTz Tryz.underlying485 Tryz.underlying5 cU8 cArr64 h.tail
    have h2 := World.var?_cell gTz h1 15
    have h3 : (tzTab.map fun z => Value.int .u8 z).toArray[15]? = some (.int .u8 4) := by rfl
    rw [h3] at h2
    exact h2
  · have h1 := Lib.tabIs_of_head (zs := leTab) gLe tLe Tryz.underlying377 Tryz.underlying3 cInt cArr5 h.tail.tail.tail.tail.tail.tail
    have c2 := World.var?_cell gLe h1 2
    have c3 := World.var?_cell gLe h1 3
    have c4 := World.var?_cell gLe h1 4
    have e2 : (leTab.map fun z => Value.int .i64 z).toArray[2]? = some (.int .i64 128) := by rfl
    have e3 : (leTab.map fun z => Value.int .i64 z).toArray[3]? = some (.int .i64 2048) := by rfl
    have e4 : (leTab.map fun z => Value.int .i64 z).toArray[4]? = some (.int .i64 65536) := by rfl
    rw [e2] at c2
    rw [e3] at c3
    rw [e4] at c4
    exact ⟨c2, c3, c4⟩

/-- a wrap for a row that lists variables: the contract gets the listed condition, the world's shape and the form's own reach -/
theorem returns_laid_sized {H : Type} {enc : TypeId × Value → H} {a : Assume} {C : Checked} {os : Os} {f : FuncId} {fn : Func} {s : ChangeSpec} {apart fresh handsOn again : Bool} {X : World → Array Value → Prop}
    (hX : ∀ (w w' : World) (args : Array Value), w.heap = w'.heap → X w args → X w' args)
    (hown : ownKnob C.prog.godebug = none) (started : os.Started) (noInit : C.prog.inits.idxOf? f = none) (hfn : C.prog.funcs[f]? = some fn)
    (witness : ∃ (w : World) (tape : Tape) (i : Input), w.os = os ∧ (w.forCall tape i).Shaped C.prog ∧ i.vars = [] ∧ Input.okWide C.prog (w.forCall tape i) .any w.heap.size f i ∧
      ((s.pre enc C.prog fn [] apart (w.forCall tape i).memory i.args ∧ X (w.forCall tape i).memory i.args) ∧ sizedMet enc C.prog fn (OpenSpec.ofChange s) apart (w.forCall tape i).memory i.args) ∧ a.holds C.prog (lone (Frame.enter C.prog f i.args .normal) [] (w.forCall tape i)))
    (contract : ∀ (W : World) (base : Nat) (args : Array Value) (ds gs : List (DataW H)) (before : List MemPlace),
      (∀ (j : Nat) t v, fn.params[j]? = some t → args[j]? = some v → Value.okWide C.prog W .any base t v) →
      DataW.Whole enc C.prog fn.params.toList s.vars apart W args.toList ds gs before →
      (DataW.weightsEach C.prog (fn.params.toList ++ (OpenSpec.ofChange s).bare.plain.varTypes C.prog) (ds ++ gs)).all (· ≤ reachBytes) = true → X W args → W.ShapedOpen C.prog →
      Calls C.prog f args W fun e W' => ∃ v, e = .returned v ∧ s.post enc C.prog fn apart fresh handsOn again W args v W') :
    ReturnsInHanded a C os f .any (fun w args => (s.pre enc C.prog fn [] apart w args ∧ X w args) ∧ sizedMet enc C.prog fn (OpenSpec.ofChange s) apart w args) (s.post enc C.prog fn apart fresh handsOn again) := by
  refine returnsInHanded_of_calls hown started noInit witness ?_
  intro w tape i _ hsh _ hok hpre _
  obtain ⟨_, _, _, fn', hfn', _, _, _, _, hval⟩ := hok
  have e : fn' = fn := Option.some.inj (hfn'.symm.trans hfn)
  subst e
  obtain ⟨⟨_, hx⟩, _, ds, gs, before, hw, hwt⟩ := hpre
  have hw' := DataW.Whole.of_heap (w' := w.forCall tape i) (by rfl) hw
  refine (contract (w.forCall tape i) w.heap.size i.args ds gs before hval hw' hwt (hX _ _ _ (by rfl) hx) hsh).mono fun e W' ⟨v, he, hp⟩ => ?_
  subst he
  exact ChangeSpec.post_blind hp

set_option maxRecDepth 100000 in
theorem codes_lifted (os : Os) (started : os.Started) (H : Type) (enc : TypeId × Value → H) :
    ReturnsInHanded {} Tryz.checked os 3 .any (fun w args => (Rows.codesSpec.pre enc Tryz.prog Tryz.f3 [] false w args ∧ laidMetH Tryz.prog Rows.codesRow.laid w) ∧ sizedMet enc Tryz.prog Tryz.f3 (OpenSpec.ofChange Rows.codesSpec) false w args)
      (Rows.codesSpec.post enc Tryz.prog Tryz.f3 false true false false) := by
  refine returns_laid_sized (C := Tryz.checked) (X := fun w _ => laidMetH Tryz.prog Rows.codesRow.laid w) (fun _ _ _ hh h => h.of_heap hh) own started (by kernel_rfl) Tryz.func3
    (ChangeSpec.witness_shaped (enc := enc) (C := Tryz.checked) (os := os) (X := fun w _ => laidMetH Tryz.prog Rows.codesRow.laid w) false (World.laidAll Tryz.prog os Rows.codesRow.laid) #[.slice none 0 0] 8 (World.laidAll_os _ _ _)
      (World.shaped_of_ZipB (by kernel_rfl) (by kernel_rfl)) (by kernel_rfl) (by kernel_rfl) (by kernel_rfl)
      (by rw [MakeChecks.laidMetH_plain _ _ _ (by kernel_rfl)]; exact laidMet_laidAll _ (by kernel_rfl) (by kernel_rfl))) ?_
  intro W base args ds gs before hval0 hW hwt0 hL hsh
  have hval : ∀ (j : Nat) t v, Tryz.f3.params[j]? = some t → args[j]? = some v → Value.okWide Tryz.prog W .any base t v := hval0
  have hwt : (DataW.weightsEach Tryz.prog (Tryz.f3.params.toList ++ []) (ds ++ gs)).all (· ≤ reachBytes) = true := hwt0
  have hW' := hW
  obtain ⟨p, q, hA0, hV, rfl, _, _⟩ := hW
  have hA : DataW.TrodAll enc Tryz.prog W 0 (fun _ => true) true Tryz.f3.params.toList args.toList ds p := hA0
  rw [Tryz.params3] at hA hval hwt
  obtain ⟨v0, d0, rfl, rfl, h0⟩ := trodAll_one hA
  obtain ⟨rfl, rfl⟩ := trodVars_none hV
  have h0k := h0
  obtain ⟨fuel, hf⟩ := h0
  obtain ⟨a', l', c', rfl⟩ := okWide_slice Tryz.underlying22 (hval 0 22 v0 rfl rfl)
  have hwt' : ∀ z ∈ DataW.weights Tryz.prog 22 d0, z ≤ reachBytes := by
    intro z hz
    have := List.all_eq_true.1 hwt z (by simp [DataW.weightsEach, hz])
    simpa using this
  obtain ⟨a, cap, xs, hv, hsl, hcap, hxl, hfl⟩ := ops_of (v := .slice a' l' c') hf hwt'
  rw [hv] at h0k
  clear hA0 hval0 hwt0 hf
  simp only [List.append_nil] at hW'
  have hlt : ∀ z ∈ p, z.block < W.heap.size := fun z hz => by simpa using hW'.lt z (by simpa using hz)
  have hL' := hL
  rw [MakeChecks.laidMetH_plain _ _ _ (by kernel_rfl)] at hL'
  obtain ⟨hE, hLe⟩ := env_all hL' hsh
  rw [hv] at hW' ⊢
  refine (codes_any a cap xs W hE hLe hsl hxl hcap hfl).mono fun r W' ⟨hr, hb⟩ => ?_
  subst hr
  refine ⟨_, rfl, _, _, _, [], p, [], hW', trodAll_mk1 (shut_bool Tryz.underlying4 _), ?_, rfl, hb.frame _, fun h => by cases h⟩
  have t0 := Below.trod laidOut (by kernel_rfl) (of_decide_eq_true (by kernel_rfl)) h0k hb hlt
  exact trodAll_mk1 t0

end Go.Proofs.YtldgiecjnmkajaaGreatDoor
