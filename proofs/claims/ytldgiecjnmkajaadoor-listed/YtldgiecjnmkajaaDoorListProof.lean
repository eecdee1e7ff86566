/-
  PROVED HERE: mailbagkeep.Listed answers true for every list, place and number, and leaves its arguments as they were, where the listed package-level variables of Go's library hold what the program's text lays there (the tied card; the cards tie the variables to a pruned copy of the project and say nothing of its tests).
-/
import Derived.Test.YtldgiecjnmkajaaDoorLaid
import Derived.Test.YtldgiecjnmkajaaDoorListWalkN
import Derived.Test.YtldgiecjnmkajaaDoorTie
import Derived.Test.YtldgiecjnmkajaaDoorCards
import Derived.ProofKit
import Derived.Lib.SmallJoins
import Derived.Deep.Slices
import Derived.Deep.Strs
import Derived.SevenTiedAt
namespace Go.Proofs.YtldgiecjnmkajaaDoor
open Go.ChangeShapes Go.WideShapes Go.ChangeAt Go.RowKit Go.Joins

theorem cEntry : Tryd.prog.cellsOf 35 = 3 := by kernel_rfl
theorem cList : Tryd.prog.cellsOf 31 = 3 := by kernel_rfl
theorem cInt : Tryd.prog.cellsOf 3 = 1 := by kernel_rfl

theorem list3 {α : Type} {l : List α} (h : l.length = 3) : ∃ a b c, l = [a, b, c] := by
  match l, h with
  | [a, b, c], _ => exact ⟨a, b, c, rfl⟩

theorem choose_list {α : Type} {p : Nat → α → Prop} : ∀ (n : Nat), (∀ i, i < n → ∃ e, p i e) → ∃ xs : List α, xs.length = n ∧ ∀ i e, xs[i]? = some e → p i e
  | 0, _ => ⟨[], rfl, fun i e he => by simp at he⟩
  | k + 1, hall => by
    obtain ⟨xs, h1, h2⟩ := choose_list k (fun i hi => hall i (by omega))
    obtain ⟨e, he⟩ := hall k (by omega)
    refine ⟨xs ++ [e], by simp [h1], fun i e' hi => ?_⟩
    by_cases hik : i < xs.length
    · rw [List.getElem?_append_left hik] at hi
      exact h2 i e' hi
    · rw [List.getElem?_append_right (by omega)] at hi
      have : i - xs.length = 0 := by
        cases hq : i - xs.length with
        | zero => rfl
        | succ q => rw [hq] at hi; simp at hi
      rw [this] at hi
      simp only [List.getElem?_cons_zero, Option.some.injEq] at hi
      subst hi
      have : i = k := by omega
      subst this
      exact he

section
variable {H : Type} {enc : TypeId × Value → H} {W : World} {base : Nat} {spare : Nat → Bool} {held : Bool}

/-- an entry, read -/
theorem entry_of {n : Nat} {cs : List Value} {x : DataW H × List MemPlace} (h : DataW.trod enc Tryd.prog W base spare held n 35 cs = some x) :
    ∃ e : Mb.Ent, cs = [.int .i64 e.key, .int .i64 e.uid, .string ⟨e.flags.toArray⟩] ∧ e.flags.length ≤ maxLen := by
  obtain ⟨y0, y1, y2, m, _, hl, h0, h1, h2⟩ := Deep.trod_struct3 Tryd.underlying35 h
  rw [cEntry] at hl
  obtain ⟨c0, c1, c2, rfl⟩ := list3 hl
  simp only [cInt, cStr, List.drop_zero, List.drop_succ_cons, List.take_succ_cons, List.take_zero] at h0 h1 h2
  obtain ⟨k, e0, _, _⟩ := DataW.trod_int Tryd.underlying3 h0
  obtain ⟨u, e1, _, _⟩ := DataW.trod_int Tryd.underlying3 h1
  obtain ⟨s, e2, _, hs⟩ := DataW.trod_string Tryd.underlying9 h2
  refine ⟨⟨k, u, s.data.toList⟩, ?_, by rw [← Lib.size_eq]; exact hs⟩
  simp only [List.cons.injEq, and_true] at e0 e1 e2
  rw [e0, e1, e2]

/-- the entries of a slice, read -/
theorem entries_of {n : Nat} {v : Value} {x : DataW H × List MemPlace} (h : DataW.trod enc Tryd.prog W base spare held n 29 [v] = some x) :
    ∃ (a : Option Addr) (cap : Nat) (xs : List Mb.Ent), v = .slice a xs.length cap ∧ SlAt W a xs ∧ xs.length ≤ cap ∧ xs.length ≤ maxLen ∧ ∀ y ∈ xs, y.flags.length ≤ maxLen := by
  rcases Deep.open_slice Tryd.underlying29 h with ⟨hc, _⟩ | ⟨a, len, cap, m, n', D, Pl, hc, _, hl, hm, hmm, _, hx⟩
  · simp only [List.cons.injEq, and_true] at hc
    exact ⟨none, 0, [], hc, Or.inl rfl, Nat.le_refl _, Nat.zero_le _, fun y hy => (List.not_mem_nil hy).elim⟩
  · simp only [List.cons.injEq, and_true] at hc
    have hmle : len ≤ m := by rw [hmm]; split <;> omega
    have hall : ∀ i, i < len → ∃ e : Mb.Ent, (W.cell? (a.add (i * 3)) = some (.int .i64 e.key) ∧ W.cell? ((a.add (i * 3)).add 1) = some (.int .i64 e.uid) ∧ W.cell? ((a.add (i * 3)).add 2) = some (.string ⟨e.flags.toArray⟩)) ∧ e.flags.length ≤ maxLen := fun i hi => by
      obtain ⟨cs', h1, h2⟩ := hx i (by omega)
      obtain ⟨e, rfl, hf⟩ := entry_of h2
      rw [cEntry] at h1
      obtain ⟨_, _, hcell⟩ := World.cells?_some h1
      refine ⟨e, ⟨?_, ?_, ?_⟩, hf⟩
      · have := hcell 0 (by omega); simpa [Addr.add] using this
      · simpa using hcell 1 (by omega)
      · simpa using hcell 2 (by omega)
    obtain ⟨xs, hxl, hxs⟩ := choose_list len hall
    refine ⟨some a, cap, xs, by rw [hxl]; exact hc, ?_, by omega, by omega, fun y hy => ?_⟩
    · by_cases h0 : xs = []
      · exact Or.inl h0
      · right
        obtain ⟨b, off, spot⟩ := a
        obtain ⟨e0, he0⟩ : ∃ e, xs[0]? = some e := by
          cases xs with
          | nil => exact absurd rfl h0
          | cons e _ => exact ⟨e, rfl⟩
        have hspot : spot = none := by
          have := (hxs 0 e0 he0).1.1
          simpa [Addr.add] using World.cell?_spot this
        subst hspot
        have hb := Lib.lt_of_cell (hxs 0 e0 he0).1.1
        refine ⟨b, off, rfl, by simpa [Addr.add] using hb, fun i e he => ?_⟩
        obtain ⟨⟨g0, g1, g2⟩, _⟩ := hxs i e he
        rw [Lib.add_plain] at g0 g1 g2
        rw [Lib.add_plain] at g1 g2
        exact ⟨g0, g1, g2⟩
    · obtain ⟨i, hi⟩ := List.getElem?_of_mem hy
      exact (hxs i y hi).2

end

theorem int_bounds {n : Int} (h : (Lit.int .i64 n).wf = true) : -9223372036854775808 ≤ n ∧ n ≤ 9223372036854775807 := by
  simpa [Lit.wf, IntKind.min, IntKind.max, IntKind.signed, IntKind.bits] using h

set_option maxRecDepth 100000 in
theorem listed_lifted (os : Os) (started : os.Started) (H : Type) (enc : TypeId × Value → H) :
    ReturnsInHanded {} Tryd.checked os 4 .any (fun w args => (Rows.listedSpec.pre enc Tryd.prog Tryd.f4 [] false w args ∧ laidMetH Tryd.prog Rows.listedRow.laid w) ∧ sizedMet enc Tryd.prog Tryd.f4 (OpenSpec.ofChange Rows.listedSpec) false w args)
      (Rows.listedSpec.post enc Tryd.prog Tryd.f4 false true false false) := by
  refine returns_laid (C := Tryd.checked) (X := fun w _ => laidMetH Tryd.prog Rows.listedRow.laid w) (fun _ _ _ hh h => h.of_heap hh) own started (by kernel_rfl) Tryd.func4
    (ChangeSpec.witness_shaped (enc := enc) (C := Tryd.checked) (os := os) (X := fun w _ => laidMetH Tryd.prog Rows.listedRow.laid w) false (World.laidAll Tryd.prog os Rows.listedRow.laid) #[.agg #[.int .i64 0, .int .i64 0, .slice none 0 0], .int .i64 0, .int .i64 0] 8 (World.laidAll_os _ _ _)
      (World.shaped_of_ZipB (by kernel_rfl) (by kernel_rfl)) (by kernel_rfl) (by kernel_rfl) (by kernel_rfl)
      (by rw [MakeChecks.laidMetH_plain _ _ _ (by kernel_rfl)]; exact laidMet_laidAll _ (by kernel_rfl) (by kernel_rfl))) ?_
  intro W base args ds gs before hval0 hW hL hsh
  have hval : ∀ (j : Nat) t v, Tryd.f4.params[j]? = some t → args[j]? = some v → Value.okWide Tryd.prog W .any base t v := hval0
  have hW' := hW
  obtain ⟨p, q, hA0, hV, rfl, _, _⟩ := hW
  have hA : DataW.TrodAll enc Tryd.prog W 0 (fun _ => true) true Tryd.f4.params.toList args.toList ds p := hA0
  rw [Tryd.params4] at hA hval
  obtain ⟨v0, v1, v2, d0, d1, d2, p0, p1, p2, rfl, rfl, rfl, h0, h1, h2⟩ := trodAll_three hA
  obtain ⟨rfl, rfl⟩ := trodVars_none hV
  have h0k := h0
  obtain ⟨x, rfl, rfl, rfl, wx⟩ := open_int Tryd.underlying3 (hval 1 3 v1 rfl rfl) h1
  obtain ⟨y, rfl, rfl, rfl, wy⟩ := open_int Tryd.underlying3 (hval 2 3 v2 rfl rfl) h2
  obtain ⟨c0, c1, c2, y0, y1, y2, m, rfl, rfl, rfl, hy0, hy1, hy2⟩ := open_agg3 Tryd.underlying31 (by kernel_rfl) cList (hval 0 31 v0 rfl rfl) h0
  obtain ⟨e, e0, _, _⟩ := DataW.trod_int Tryd.underlying3 hy0
  obtain ⟨n, e1, _, _⟩ := DataW.trod_int Tryd.underlying3 hy1
  obtain ⟨a, cap, xs, rfl, hsl, hcap, hxl, hfl⟩ := entries_of hy2
  simp only [List.cons.injEq, and_true] at e0 e1
  subst e0 e1
  clear hA0 hval0
  simp only [List.append_nil] at hW'
  have hlt : ∀ z ∈ y0.2 ++ (y1.2 ++ y2.2), z.block < W.heap.size := fun z hz => by simpa using hW'.lt z (by simpa using hz)
  have hL' := hL
  rw [MakeChecks.laidMetH_plain _ _ _ (by kernel_rfl)] at hL'
  have hE : Env W := env_of hL' hsh
  have bx := int_bounds wx
  refine (listed_any e n a cap xs x y bx.1 bx.2 W hE hsl hxl hcap hfl).mono fun r W' ⟨hr, hb⟩ => ?_
  subst hr
  refine ⟨_, rfl, _, _, _, [], y0.2 ++ (y1.2 ++ y2.2), [], hW', trodAll_mk1 (shut_bool Tryd.underlying4 _), ?_, rfl, hb.frame _, fun h => by cases h⟩
  have t0 := Below.trod laidOut (by kernel_rfl) (of_decide_eq_true (by kernel_rfl)) h0k hb hlt
  have := trodAll_mk3 t0 (shut_int (enc := enc) (w := W') (base := 0) (spare := fun b => decide (b < W.heap.size)) (held := true) Tryd.underlying3 wx) (shut_int (enc := enc) (w := W') (base := 0) (spare := fun b => decide (b < W.heap.size)) (held := true) Tryd.underlying3 wy)
  simp only [List.append_nil] at this
  exact this

theorem listed_holds : Rows.ListedSaid :=
  OpenClaim.holds_of_wide 4 Tryd.f4 rfl rfl rfl rfl rfl rfl rfl ⟨rfl, rfl, rfl, rfl, rfl⟩ rfl rfl rfl rfl rfl (by kernel_rfl) Tryd.func4 (by kernel_rfl)
    (of_decide_eq_true (by kernel_rfl)) (by unfold Func.isWrapper; first | (rw [if_pos (by decide +kernel)]; kernel_rfl) | (rw [if_neg (by decide +kernel)]; exact ⟨rfl, rfl⟩))
    (fun os started H enc _ => listed_lifted os started H enc)

theorem listed_card : Rows.ListedCardSaid :=
  Claim7.holds_tied_plain_at .later [] [.data, .data, .data, .data, .sentinel, .sentinel, .pinned] true (true, "67544fa47537d22c4cec8fa171d1689ac09c9279cd7ac75fbfe5f85eb30eb67d") true
    listed_holds (fun _ h => by cases h) (by kernel_rfl) (fun _ h => by cases h) listed_row_tie rfl ⟨rfl, rfl⟩ (by kernel_rfl) rfl
    (fun f fn hf hfn => by
      obtain rfl : f = 4 := Option.some.inj ((show Tryd.prog.funcNamed "mailbag/mailbagkeep.Listed" = some 4 by kernel_rfl).symm.trans hf) |>.symm
      obtain rfl : fn = Tryd.f4 := (Option.some.inj (Tryd.func4.symm.trans hfn)).symm
      exact ⟨by kernel_rfl, fun j t ht => by
        rw [Tryd.params4] at ht
        have hm : t ∈ [31, 3, 3] := by simpa using Array.mem_of_getElem? ht
        have hall : ([31, 3, 3].all fun u => !Tryd.prog.wantsStandIn u) = true := by kernel_rfl
        exact (show Tryd.prog.wantsStandIn t = false by simpa using List.all_eq_true.1 hall t hm)⟩)
    (by kernel_rfl)

end Go.Proofs.YtldgiecjnmkajaaDoor
