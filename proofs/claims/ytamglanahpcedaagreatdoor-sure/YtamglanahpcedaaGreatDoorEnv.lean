/-
  OWN TEXT: what the library's package-level variables hold, carried from world to world; strconv.Itoa, strconv.Atoi and strings.Split over it.
-/
import Derived.Test.YtamglanahpcedaaGreatDoorChecked
import Derived.Test.YtamglanahpcedaaGreatDoorShelf
import Derived.Test.YtamglanahpcedaaGreatDoorListMath
import Derived.WalkKit
import Derived.WalkSmall
import Derived.Lib.AtoiErrMem
namespace Go.Proofs.YtamglanahpcedaaGreatDoor
open Go.RowKit

/-- what the library's variables hold -/
structure Env (w : World) : Prop where
  tab : Lib.TabIs Tryz.prog w "internal/strconv.uint64pow10" .u64 Lib.pow10Tab
  max : ∃ m, w.cell? ⟨3, 0, none⟩ = some (.int .i64 m)
  es : ∃ ev, w.cell? ⟨4, 0, none⟩ = some ev ∧ (ev = .nilIface ∨ ∃ te pe, ev = .iface te pe)
  er : ∃ ev, w.cell? ⟨5, 0, none⟩ = some ev ∧ (ev = .nilIface ∨ ∃ te pe, ev = .iface te pe)

theorem pow10_global : Tryz.prog.globalNamed "internal/strconv.uint64pow10" = some 0 := by kernel_rfl

theorem Env.tab_lt {w : World} (h : Env w) : 0 < w.heap.size := by
  have h0 := World.var?_cell pow10_global h.tab 0
  have h1 : (Lib.pow10Tab.map fun z => Value.int .u64 z).toArray[0]? = some (.int .u64 1) := by rfl
  rw [h1] at h0
  exact Lib.lt_of_cell h0

theorem Env.below {w w' : World} {B : Nat} (h : Env w) (hb : Below B w w') (hB : w.heap.size ≤ B) : Env w' := by
  have ht := h.tab_lt
  obtain ⟨m, hm⟩ := h.max
  obtain ⟨e1, he1, hv1⟩ := h.es
  obtain ⟨e2, he2, hv2⟩ := h.er
  have l1 := Lib.lt_of_cell hm
  have l2 := Lib.lt_of_cell he1
  have l3 := Lib.lt_of_cell he2
  exact ⟨var?_below hb pow10_global (by omega) h.tab, ⟨m, (hb.cell (by omega)).trans hm⟩, ⟨e1, (hb.cell (by omega)).trans he1, hv1⟩, ⟨e2, (hb.cell (by omega)).trans he2, hv2⟩⟩

theorem below_grow (w : World) (k : Nat) (os : Array Obj) : Below w.heap.size w (Go.Sort.grow (w.drewN k) os) := by
  refine ⟨rfl, rfl, rfl, by simp [Go.Sort.grow], fun j hj => ?_⟩
  simp [Go.Sort.grow, Array.getElem?_append_left hj]

/-- strconv.Itoa -/
theorem itoa_any (n : Int) (h0 : -9223372036854775808 ≤ n) (h1 : n ≤ 9223372036854775807) (w : World) (h : Env w) :
    Calls Tryz.prog 18 #[.int .i64 n] w fun e w' => e = .returned (.string ⟨(Lib.itoa n).toArray⟩) ∧ Below w.heap.size w w' :=
  (Tryz.strconv_Itoa n h0 h1 w h.tab).mono fun _ _ ⟨he, k, os, hw⟩ => ⟨he, by rw [hw]; exact below_grow w k os⟩

/-- an error that is not nil, in new memory -/
def IsErr (v : Value) : Prop := ∃ N, v = .iface 263 (.pointer (some ⟨N, 0, none⟩))

/-- strconv.Atoi: a number and no error, or an error -/
theorem atoi_ok (s : ByteArray) (hs : s.size ≤ 281474976710656) (v : Int) (hv : Lib.atoiAll s.data.toList = .ok v) (w : World) :
    Calls Tryz.prog 132 #[.string s] w fun e w' => e = .returned (.tuple #[.int .i64 v, .nilIface]) ∧ Below w.heap.size w w' :=
  (Tryz.strconv_Atoi_ok s (by omega) v hv w).mono fun _ w' ⟨he, hw⟩ => ⟨he, by
    rcases hw with rfl | ⟨t, rfl⟩
    · exact Below.refl _ _
    · exact Lib.bytesWorld_below _ _ _⟩

theorem atoi_bad (s : ByteArray) (hs : s.size ≤ 281474976710656) (hv : ∀ v, Lib.atoiAll s.data.toList ≠ .ok v) (w : World) (h : Env w) :
    Calls Tryz.prog 132 #[.string s] w fun e w' => (∃ x N, e = .returned (.tuple #[.int .i64 x, .iface 263 (.pointer (some ⟨N, 0, none⟩))])) ∧ Below w.heap.size w w' := by
  obtain ⟨e1, he1, hv1⟩ := h.es
  obtain ⟨e2, he2, hv2⟩ := h.er
  generalize hE : Lib.atoiAll s.data.toList = E at hv
  cases E
  · exact absurd rfl (hv _)
  · exact (Any.strconv_Atoi_syntax Tryz.laysC172 s hs hE e1 w he1 hv1).mono fun _ _ ⟨N, he, _, _, hb⟩ => ⟨⟨_, N, he⟩, hb⟩
  · exact (Any.strconv_Atoi_range Tryz.laysC172 s hs hE e2 w he2 hv2).mono fun _ _ ⟨N, he, _, _, hb⟩ => ⟨⟨_, N, he⟩, hb⟩

/-! ### strings.Split at one byte -/

theorem index_one (c : UInt8) : ∀ (l : List UInt8), Lib.index l [c] = Lib.indexByte l c
  | [] => rfl
  | b :: l => by
    unfold Lib.index Lib.indexByte
    rw [index_one c l]
    by_cases h : b = c
    · subst h; simp [List.isPrefixOf]
    · have : ¬ c = b := fun e => h e.symm
      simp [List.isPrefixOf, h, this]

theorem indexByte_spec (c : UInt8) : ∀ (l : List UInt8), (Lib.indexByte l c = -1 → ∀ b ∈ l, b ≠ c) ∧ (∀ i : Nat, Lib.indexByte l c = i → (∀ b ∈ l.take i, b ≠ c) ∧ l = l.take i ++ c :: l.drop (i + 1))
  | [] => ⟨fun _ b hb => (List.not_mem_nil hb).elim, fun i h => (by
      have e : Lib.indexByte [] c = -1 := rfl
      rw [e] at h; omega)⟩
  | b :: l => by
    obtain ⟨h1, h2⟩ := indexByte_spec c l
    have hge := Lib.indexByte_ge l c
    by_cases hb : b = c
    · subst hb
      have e : Lib.indexByte (b :: l) b = 0 := by unfold Lib.indexByte; simp
      rw [e]
      refine ⟨fun h => by omega, fun i hi => ?_⟩
      have : i = 0 := by omega
      subst this
      exact ⟨fun x hx => by simp at hx, by simp⟩
    · by_cases hm : Lib.indexByte l c = -1
      · have e : Lib.indexByte (b :: l) c = -1 := by unfold Lib.indexByte; simp [hb, hm]
        rw [e]
        refine ⟨fun _ x hx => ?_, fun i hi => by omega⟩
        rw [List.mem_cons] at hx
        rcases hx with rfl | hx
        · exact hb
        · exact h1 hm x hx
      · have e : Lib.indexByte (b :: l) c = Lib.indexByte l c + 1 := by
          rw [Lib.indexByte, if_neg (by simpa using hb), if_neg (by simpa using hm)]
        rw [e]
        refine ⟨fun h => by omega, fun i hi => ?_⟩
        obtain ⟨j, hj⟩ : ∃ j : Nat, Lib.indexByte l c = j := ⟨(Lib.indexByte l c).toNat, by omega⟩
        obtain ⟨g1, g2⟩ := h2 j hj
        have : i = j + 1 := by omega
        subst this
        refine ⟨fun x hx => ?_, ?_⟩
        · simp only [List.take_succ_cons, List.mem_cons] at hx
          rcases hx with rfl | hx
          · exact hb
          · exact g1 x hx
        · simp only [List.take_succ_cons, List.drop_succ_cons, List.cons_append]
          rw [← g2]

theorem splitK_one (c : UInt8) : ∀ (n : Nat) (l : List UInt8), l.length ≤ n → Lib.splitK [c] 0 (Lib.count l [c]) l = Mb.splitC c l := by
  intro n
  induction n with
  | zero =>
    intro l hl
    have : l = [] := List.eq_nil_of_length_eq_zero (by omega)
    subst this
    rw [Lib.count_one]; rfl
  | succ n ih =>
    intro l hl
    have hge := Lib.indexByte_ge l c
    obtain ⟨h1, h2⟩ := indexByte_spec c l
    by_cases hm : Lib.indexByte l c = -1
    · rw [Lib.count_miss (by rw [index_one]; exact hm), Mb.splitC_free c l (h1 hm)]; rfl
    · obtain ⟨i, hi⟩ : ∃ i : Nat, Lib.indexByte l c = i := ⟨(Lib.indexByte l c).toNat, by omega⟩
      obtain ⟨g1, g2⟩ := h2 i hi
      have hidx : Lib.index l [c] = i := by rw [index_one]; exact hi
      rw [Lib.count_hit (by simp) hidx, Nat.add_comm, Lib.splitK, hidx]
      have hne : ¬ ((i : Int) == -1) = true := by simp
      rw [if_neg hne]
      have hlen : (l.drop (i + 1)).length ≤ n := by
        rw [List.length_drop]; omega
      have e := ih (l.drop (i + 1)) hlen
      simp only [Int.toNat_natCast, Nat.add_zero, List.length_singleton]
      rw [e]
      conv => rhs; rw [g2, Mb.splitC_app c _ _ g1]

/-- the pieces as strings -/
theorem split_is (s : ByteArray) (c : UInt8) : (Lib.splitB ⟨#[c]⟩ 0 (Lib.countB s ⟨#[c]⟩) s) = (Mb.splitC c s.data.toList).map fun l => ⟨l.toArray⟩ := by
  have h := Lib.splitB_data ⟨#[c]⟩ 0 (Lib.countB s ⟨#[c]⟩) s
  have e : Lib.splitK [c] 0 (Lib.countB s ⟨#[c]⟩) s.data.toList = Mb.splitC c s.data.toList := splitK_one c _ _ (Nat.le_refl _)
  have h' : (Lib.splitB ⟨#[c]⟩ 0 (Lib.countB s ⟨#[c]⟩) s).map (·.data.toList) = Mb.splitC c s.data.toList := by rw [h]; exact e
  rw [← h', List.map_map]
  have : (fun l : List UInt8 => (⟨l.toArray⟩ : ByteArray)) ∘ (fun x : ByteArray => x.data.toList) = id := by
    funext x; cases x; rfl
  rw [this, List.map_id]

theorem splitC_length (s : ByteArray) (c : UInt8) : (Mb.splitC c s.data.toList).length = Lib.countB s ⟨#[c]⟩ + 1 := by
  have h := Lib.splitB_all ⟨#[c]⟩ (Nat.le_refl 1) 0 _ s rfl
  rw [split_is, List.length_map] at h
  exact h

/-- strings.Split at a separator of one byte -/
theorem split_any (s : ByteArray) (c : UInt8) (hs : s.size < 4294967281) (w : World) (h : Env w) :
    Calls Tryz.prog 172 #[.string s, .string ⟨#[c]⟩] w fun e w' =>
      e = .returned (.slice (some ⟨w.heap.size, 0, none⟩) (Mb.splitC c s.data.toList).length (Mb.splitC c s.data.toList).length) ∧ w' = w.alloc (.cells ((Mb.splitC c s.data.toList).map fun l => Value.string ⟨l.toArray⟩).toArray 9) := by
  obtain ⟨m, hm⟩ := h.max
  have c1 := Tryz.strings_Split s ⟨#[c]⟩ m w hs hm (Nat.le_refl 1)
  rw [split_is, ← splitC_length, List.map_map] at c1
  exact c1

/-! ### strings as lists of bytes -/

theorem bytes_ext {a b : ByteArray} (h : a.data.toList = b.data.toList) : a = b := by
  apply ByteArray.ext; apply Array.ext'; exact h
theorem bytes_is {a : ByteArray} {l : List UInt8} (h : a.data.toList = l) : a = ⟨l.toArray⟩ := bytes_ext h

/-- a string under a name, its bytes beside it -/
theorem named_bytes (l : List UInt8) : ∃ b : ByteArray, Hid (b = ⟨l.toArray⟩) ∧ Hid (b.data.toList = l) := ⟨⟨l.toArray⟩, rfl, rfl⟩

/-- one string behind another -/
theorem cat_run (P : Program) (a b : ByteArray) (h : a.data.toList.length + b.data.toList.length ≤ 9223372036854775807) :
    ∃ c : ByteArray, Hid (c.data.toList = a.data.toList ++ b.data.toList) ∧ ∀ W, (Op.stringOp .add a b).run P W = .ok (.string c) W :=
  ⟨a ++ b, by unfold Hid; simp, fun W => run_string_add_sum (w := W) a b (by rw [Lib.size_eq, Lib.size_eq]; exact h)⟩

end Go.Proofs.YtamglanahpcedaaGreatDoor
