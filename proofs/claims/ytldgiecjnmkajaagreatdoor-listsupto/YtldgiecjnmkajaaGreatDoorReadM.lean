/-
  OWN TEXT: a script, read off the memory.
  OWN TEXT: a script, read off the memory, whose values and letters are bounded together.
-/
import Derived.Test.YtldgiecjnmkajaaGreatDoorLaid
import Derived.Test.YtldgiecjnmkajaaGreatDoorPlayO
import Derived.ProofKit
import Derived.Lib.SmallJoins
import Derived.Deep.Slices
import Derived.Deep.Strs
import Derived.ChangeMaps5
namespace Go.Proofs.YtldgiecjnmkajaaGreatDoor
open Go.ChangeShapes Go.WideShapes Go.ChangeAt Go.RowKit Go.Joins Go.ChangeMaps

theorem cOp : Tryz.prog.cellsOf 92 = 5 := by kernel_rfl
theorem bOp : Tryz.prog.bytesOf 92 = 56 := by kernel_rfl
theorem cInt : Tryz.prog.cellsOf 3 = 1 := by kernel_rfl

theorem list5 {α : Type} {l : List α} (h : l.length = 5) : ∃ a b c d e, l = [a, b, c, d, e] := by
  match l, h with
  | [a, b, c, d, e], _ => exact ⟨a, b, c, d, e, rfl⟩

theorem choose_ops {p : Nat → OpT → Prop} : ∀ (n : Nat), (∀ i, i < n → ∃ e, p i e) → ∃ xs : List OpT, xs.length = n ∧ ∀ i e, xs[i]? = some e → p i e
  | 0, _ => ⟨[], rfl, fun i e he => by simp at he⟩
  | k + 1, hall => by
    obtain ⟨xs, h1, h2⟩ := choose_ops k (fun i hi => hall i (by omega))
    obtain ⟨e, he⟩ := hall k (by omega)
    refine ⟨xs ++ [e], by simp [h1], fun i e' hi => ?_⟩
    by_cases hik : i < xs.length
    · rw [List.getElem?_append_left hik] at hi
      exact h2 i e' hi
    · rw [List.getElem?_append_right (by omega)] at hi
      have : i - xs.length = 0 := by
        cases hq : i - xs.length with
        | zero => rfl
        | succ q => rw [hq] at hi; simp at hi
      rw [this] at hi
      simp only [List.getElem?_cons_zero, Option.some.injEq] at hi
      subst hi
      have : i = k := by omega
      subst this
      exact he

theorem mem_weightsAll {H : Type} {P : Program} {e : TypeId} {z : Nat} {d : DataW H} : ∀ {l : List (DataW H)}, d ∈ l → z ∈ d.weights P e → z ∈ DataW.weightsAll P e l
  | [], h, _ => by cases h
  | x :: r, h, hz => by
    rw [DataW.weightsAll, List.mem_append]
    rcases List.mem_cons.1 h with rfl | h
    · exact Or.inl hz
    · exact Or.inr (mem_weightsAll h hz)

section
variable {H : Type} {enc : TypeId × Value → H} {W : World} {base : Nat} {spare : Nat → Bool} {held : Bool}

/-- a step, read -/
theorem op_of {n : Nat} {cs : List Value} {x : DataW H × List MemPlace} (h : DataW.trod enc Tryz.prog W base spare held n 92 cs = some x) :
    ∃ o : OpT, cs = opCells o ∧ o.s.data.toList.length ∈ DataW.weights Tryz.prog 92 x.1 := by
  obtain ⟨ys, m, _, rfl, hl, hlen, hf⟩ := DataW.trod_struct Tryz.underlying92 h
  rw [cOp] at hl
  obtain ⟨c0, c1, c2, c3, c4, rfl⟩ := list5 hl
  obtain ⟨y0, y1, y2, y3, y4, rfl⟩ := list5 (show ys.length = 5 from hlen)
  have h0 : DataW.trod enc Tryz.prog W base spare held m 3 (([c0, c1, c2, c3, c4].drop 0).take (Tryz.prog.cellsOf 3)) = some y0 := hf 0 _ rfl
  have h1 : DataW.trod enc Tryz.prog W base spare held m 3 (([c0, c1, c2, c3, c4].drop 1).take (Tryz.prog.cellsOf 3)) = some y1 := hf 1 _ rfl
  have h2 : DataW.trod enc Tryz.prog W base spare held m 3 (([c0, c1, c2, c3, c4].drop 2).take (Tryz.prog.cellsOf 3)) = some y2 := hf 2 _ rfl
  have h3 : DataW.trod enc Tryz.prog W base spare held m 9 (([c0, c1, c2, c3, c4].drop 3).take (Tryz.prog.cellsOf 9)) = some y3 := hf 3 _ rfl
  have h4 : DataW.trod enc Tryz.prog W base spare held m 9 (([c0, c1, c2, c3, c4].drop 4).take (Tryz.prog.cellsOf 9)) = some y4 := hf 4 _ rfl
  rw [cInt] at h0 h1 h2
  rw [cStr] at h3 h4
  simp only [List.drop_zero, List.drop_succ_cons, List.take_succ_cons, List.take_zero] at h0 h1 h2 h3 h4
  obtain ⟨k, e0, _, _⟩ := DataW.trod_int Tryz.underlying3 h0
  obtain ⟨a, e1, _, _⟩ := DataW.trod_int Tryz.underlying3 h1
  obtain ⟨b, e2, _, _⟩ := DataW.trod_int Tryz.underlying3 h2
  obtain ⟨s, e3, es, _⟩ := DataW.trod_string Tryz.underlying9 h3
  obtain ⟨t, e4, _, _⟩ := DataW.trod_string Tryz.underlying9 h4
  simp only [List.cons.injEq, and_true] at e0 e1 e2 e3 e4
  refine ⟨⟨k, a, b, s, t⟩, by rw [e0, e1, e2, e3, e4]; rfl, ?_⟩
  rw [es]
  simp [DataW.weights, Tryz.underlying92, DataW.weightsEach]

/-- the steps of a slice, read -/
theorem ops_of {n : Nat} {v : Value} {x : DataW H × List MemPlace} (h : DataW.trod enc Tryz.prog W base spare held n 22 [v] = some x) (hwt : ∀ z ∈ DataW.weights Tryz.prog 22 x.1, z ≤ reachBytes) :
    ∃ (a : Option Addr) (cap : Nat) (xs : List OpT), v = .slice a xs.length cap ∧ OpsSl W a xs ∧ xs.length ≤ cap ∧ xs.length ≤ 2513169434895 ∧ ∀ o ∈ xs, o.s.size ≤ 281474976710656 := by
  rcases Deep.open_slice Tryz.underlying22 h with ⟨hc, _⟩ | ⟨a, len, cap, m, n', D, Pl, hc, _, hl, hm, hmm, hxx, hx⟩
  · simp only [List.cons.injEq, and_true] at hc
    exact ⟨none, 0, [], hc, Or.inl rfl, Nat.le_refl _, Nat.zero_le _, fun y hy => (List.not_mem_nil hy).elim⟩
  · simp only [List.cons.injEq, and_true] at hc
    have hmle : len ≤ m := by rw [hmm]; split <;> omega
    rw [hxx] at hwt
    simp only [DataW.weights, Tryz.underlying22, List.mem_cons, List.mem_append] at hwt
    have hlen : len * 56 ≤ reachBytes := by
      have h1 := hwt _ (Or.inl rfl)
      rw [bOp] at h1
      simp only [List.length_map, List.length_range] at h1
      have h2 : len * 56 ≤ (len + (m - len)) * 56 := Nat.mul_le_mul_right _ (by omega)
      omega
    have hall : ∀ i, i < len → ∃ o : OpT, (W.cell? (a.add (i * 5)) = some (.int .i64 o.kind) ∧ W.cell? ((a.add (i * 5)).add 1) = some (.int .i64 o.a) ∧ W.cell? ((a.add (i * 5)).add 2) = some (.int .i64 o.b) ∧ W.cell? ((a.add (i * 5)).add 3) = some (.string o.s) ∧ W.cell? ((a.add (i * 5)).add 4) = some (.string o.t)) ∧ o.s.size ≤ 281474976710656 := fun i hi => by
      obtain ⟨cs', h1, h2⟩ := hx i (by omega)
      obtain ⟨o, rfl, hf⟩ := op_of h2
      rw [cOp] at h1
      obtain ⟨_, _, hcell⟩ := World.cells?_some h1
      refine ⟨o, ⟨?_, ?_, ?_, ?_, ?_⟩, ?_⟩
      · have := hcell 0 (by simp); simpa [Addr.add, opCells] using this
      · simpa [opCells] using hcell 1 (by simp)
      · simpa [opCells] using hcell 2 (by simp)
      · simpa [opCells] using hcell 3 (by simp)
      · simpa [opCells] using hcell 4 (by simp)
      · have hz := hwt _ (Or.inr (Or.inl (mem_weightsAll (d := D i) (List.mem_map.2 ⟨i, List.mem_range.2 hi, rfl⟩) hf)))
        unfold reachBytes at hz
        rw [Lib.size_eq]
        omega
    obtain ⟨xs, hxl, hxs⟩ := choose_ops len hall
    refine ⟨some a, cap, xs, by rw [hxl]; exact hc, ?_, by omega, by unfold reachBytes at hlen; omega, fun y hy => ?_⟩
    · by_cases h0 : xs = []
      · exact Or.inl h0
      · right
        obtain ⟨b, off, spot⟩ := a
        obtain ⟨e0, he0⟩ : ∃ e, xs[0]? = some e := by
          cases xs with
          | nil => exact absurd rfl h0
          | cons e _ => exact ⟨e, rfl⟩
        have hspot : spot = none := by
          have := (hxs 0 e0 he0).1.1
          simpa [Addr.add] using World.cell?_spot this
        subst hspot
        have hb := Lib.lt_of_cell (hxs 0 e0 he0).1.1
        refine ⟨b, off, rfl, by simpa [Addr.add] using hb, fun i e he => ?_⟩
        obtain ⟨⟨g0, g1, g2, g3, g4⟩, _⟩ := hxs i e he
        rw [Lib.add_plain] at g0 g1 g2 g3 g4
        rw [Lib.add_plain] at g1 g2 g3 g4
        exact ⟨g0, g1, g2, g3, g4⟩
    · obtain ⟨i, hi⟩ := List.getElem?_of_mem hy
      exact (hxs i y hi).2

end

end Go.Proofs.YtldgiecjnmkajaaGreatDoor
namespace Go.Proofs.YtldgiecjnmkajaaGreatDoor
open Go.ChangeShapes Go.WideShapes Go.ChangeAt Go.RowKit Go.Joins Go.ChangeMaps

theorem bulk_pos {H : Type} (d : DataW H) : 1 ≤ Rows.uptoBulk d := by
  cases d <;> first | (simp only [Rows.uptoBulk]; omega) | (rename_i l; cases l <;> simp [Rows.uptoBulk])
theorem bulk_mem {H : Type} {d : DataW H} : ∀ {l : List (DataW H)}, d ∈ l → Rows.uptoBulk d ≤ Rows.uptoBulkAll l
  | x :: r, h => by
    simp only [Rows.uptoBulkAll]
    rcases List.mem_cons.1 h with rfl | h
    · omega
    · have := bulk_mem h; omega
theorem bulk_len {H : Type} : ∀ (l : List (DataW H)), l.length ≤ Rows.uptoBulkAll l
  | [] => Nat.zero_le _
  | x :: r => by
    have h1 := bulk_pos x
    have h2 := bulk_len r
    simp only [Rows.uptoBulkAll, List.length_cons]
    omega

section
variable {H : Type} {enc : TypeId × Value → H} {W : World} {base : Nat} {spare : Nat → Bool} {held : Bool}

theorem op_bulk {n : Nat} {cs : List Value} {x : DataW H × List MemPlace} (h : DataW.trod enc Tryz.prog W base spare held n 92 cs = some x) :
    ∃ o : OpT, cs = opCells o ∧ o.s.data.toList.length + 1 ≤ Rows.uptoBulk x.1 := by
  obtain ⟨ys, m, _, rfl, hl, hlen, hf⟩ := DataW.trod_struct Tryz.underlying92 h
  rw [cOp] at hl
  obtain ⟨c0, c1, c2, c3, c4, rfl⟩ := list5 hl
  obtain ⟨y0, y1, y2, y3, y4, rfl⟩ := list5 (show ys.length = 5 from hlen)
  have h0 : DataW.trod enc Tryz.prog W base spare held m 3 (([c0, c1, c2, c3, c4].drop 0).take (Tryz.prog.cellsOf 3)) = some y0 := hf 0 _ rfl
  have h1 : DataW.trod enc Tryz.prog W base spare held m 3 (([c0, c1, c2, c3, c4].drop 1).take (Tryz.prog.cellsOf 3)) = some y1 := hf 1 _ rfl
  have h2 : DataW.trod enc Tryz.prog W base spare held m 3 (([c0, c1, c2, c3, c4].drop 2).take (Tryz.prog.cellsOf 3)) = some y2 := hf 2 _ rfl
  have h3 : DataW.trod enc Tryz.prog W base spare held m 9 (([c0, c1, c2, c3, c4].drop 3).take (Tryz.prog.cellsOf 9)) = some y3 := hf 3 _ rfl
  have h4 : DataW.trod enc Tryz.prog W base spare held m 9 (([c0, c1, c2, c3, c4].drop 4).take (Tryz.prog.cellsOf 9)) = some y4 := hf 4 _ rfl
  rw [cInt] at h0 h1 h2
  rw [cStr] at h3 h4
  simp only [List.drop_zero, List.drop_succ_cons, List.take_succ_cons, List.take_zero] at h0 h1 h2 h3 h4
  obtain ⟨k, e0, _, _⟩ := DataW.trod_int Tryz.underlying3 h0
  obtain ⟨a, e1, _, _⟩ := DataW.trod_int Tryz.underlying3 h1
  obtain ⟨b, e2, _, _⟩ := DataW.trod_int Tryz.underlying3 h2
  obtain ⟨s, e3, es, _⟩ := DataW.trod_string Tryz.underlying9 h3
  obtain ⟨t, e4, _, _⟩ := DataW.trod_string Tryz.underlying9 h4
  simp only [List.cons.injEq, and_true] at e0 e1 e2 e3 e4
  refine ⟨⟨k, a, b, s, t⟩, by rw [e0, e1, e2, e3, e4]; rfl, ?_⟩
  have hm : y3.1 ∈ [y0.1, y1.1, y2.1, y3.1, y4.1] := by simp
  have e31 : y3.1 = .lit (.string s.data.toList) := by rw [es]
  have hb : Rows.uptoBulk (DataW.lit (H := H) (.string s.data.toList)) ≤ Rows.uptoBulkAll [y0.1, y1.1, y2.1, y3.1, y4.1] := by
    rw [← e31]
    exact bulk_mem hm
  show s.data.toList.length + 1 ≤ Rows.uptoBulk (DataW.agg [y0.1, y1.1, y2.1, y3.1, y4.1])
  generalize [y0.1, y1.1, y2.1, y3.1, y4.1] = zs at hb
  simp only [Rows.uptoBulk] at hb ⊢
  omega

/-- the steps of a slice, read -/
theorem ops_upto {n : Nat} {v : Value} {x : DataW H × List MemPlace} (h : DataW.trod enc Tryz.prog W base spare held n 22 [v] = some x) (hbk : Rows.uptoBulk x.1 ≤ 1048576) :
    ∃ (a : Option Addr) (cap : Nat) (xs : List OpT), v = .slice a xs.length cap ∧ OpsSl W a xs ∧ xs.length ≤ cap ∧ xs.length ≤ 1048576 ∧ ∀ o ∈ xs, o.s.size ≤ 1048576 := by
  rcases Deep.open_slice Tryz.underlying22 h with ⟨hc, _⟩ | ⟨a, len, cap, m, n', D, Pl, hc, _, hl, hm, hmm, hxx, hx⟩
  · simp only [List.cons.injEq, and_true] at hc
    exact ⟨none, 0, [], hc, Or.inl rfl, Nat.le_refl _, Nat.zero_le _, fun y hy => (List.not_mem_nil hy).elim⟩
  · simp only [List.cons.injEq, and_true] at hc
    have hmle : len ≤ m := by rw [hmm]; split <;> omega
    rw [hxx] at hbk
    simp only [Rows.uptoBulk] at hbk
    have hlen : len ≤ 1048576 := by
      have := bulk_len ((List.range len).map D)
      simp only [List.length_map, List.length_range] at this
      omega
    have hall : ∀ i, i < len → ∃ o : OpT, (W.cell? (a.add (i * 5)) = some (.int .i64 o.kind) ∧ W.cell? ((a.add (i * 5)).add 1) = some (.int .i64 o.a) ∧ W.cell? ((a.add (i * 5)).add 2) = some (.int .i64 o.b) ∧ W.cell? ((a.add (i * 5)).add 3) = some (.string o.s) ∧ W.cell? ((a.add (i * 5)).add 4) = some (.string o.t)) ∧ o.s.size ≤ 1048576 := fun i hi => by
      obtain ⟨cs', h1, h2⟩ := hx i (by omega)
      obtain ⟨o, rfl, hf⟩ := op_bulk h2
      rw [cOp] at h1
      obtain ⟨_, _, hcell⟩ := World.cells?_some h1
      refine ⟨o, ⟨?_, ?_, ?_, ?_, ?_⟩, ?_⟩
      · have := hcell 0 (by simp); simpa [Addr.add, opCells] using this
      · simpa [opCells] using hcell 1 (by simp)
      · simpa [opCells] using hcell 2 (by simp)
      · simpa [opCells] using hcell 3 (by simp)
      · simpa [opCells] using hcell 4 (by simp)
      · have hz := bulk_mem (d := D i) (l := (List.range len).map D) (List.mem_map.2 ⟨i, List.mem_range.2 hi, rfl⟩)
        rw [Lib.size_eq]
        have hf' : o.s.data.toList.length + 1 ≤ Rows.uptoBulk (D i) := hf
        omega
    obtain ⟨xs, hxl, hxs⟩ := choose_ops len hall
    refine ⟨some a, cap, xs, by rw [hxl]; exact hc, ?_, by omega, by omega, fun y hy => ?_⟩
    · by_cases h0 : xs = []
      · exact Or.inl h0
      · right
        obtain ⟨b, off, spot⟩ := a
        obtain ⟨e0, he0⟩ : ∃ e, xs[0]? = some e := by
          cases xs with
          | nil => exact absurd rfl h0
          | cons e _ => exact ⟨e, rfl⟩
        have hspot : spot = none := by
          have := (hxs 0 e0 he0).1.1
          simpa [Addr.add] using World.cell?_spot this
        subst hspot
        have hb := Lib.lt_of_cell (hxs 0 e0 he0).1.1
        refine ⟨b, off, rfl, by simpa [Addr.add] using hb, fun i e he => ?_⟩
        obtain ⟨⟨g0, g1, g2, g3, g4⟩, _⟩ := hxs i e he
        rw [Lib.add_plain] at g0 g1 g2 g3 g4
        rw [Lib.add_plain] at g1 g2 g3 g4
        exact ⟨g0, g1, g2, g3, g4⟩
    · obtain ⟨i, hi⟩ := List.getElem?_of_mem hy
      exact (hxs i y hi).2

end

end Go.Proofs.YtldgiecjnmkajaaGreatDoor
