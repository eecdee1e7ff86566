/-
  OWN TEXT: files in memory.
  OWN TEXT: files held against one another by their names.
-/
import Derived.Test.YtamglanahpcedaaGreatDoorDiskBC
import Derived.Test.YtamglanahpcedaaGreatDoorStepM
namespace Go.Proofs.YtamglanahpcedaaGreatDoor
open Go.RowKit Go.Lib

structure Mb.Fl where
  name : List UInt8
  data : List UInt8

def flCells (xs : List Mb.Fl) : List Value := xs.flatMap fun x => [.string ⟨x.name.toArray⟩, .string ⟨x.data.toArray⟩]
theorem flCells_snoc (xs : List Mb.Fl) (x : Mb.Fl) : flCells (xs ++ [x]) = flCells xs ++ [.string ⟨x.name.toArray⟩, .string ⟨x.data.toArray⟩] := by simp [flCells]
theorem flCells_len (xs : List Mb.Fl) : (flCells xs).length = xs.length * 2 := by
  induction xs with
  | nil => rfl
  | cons x r ih => simp only [flCells, List.flatMap_cons, List.length_append, List.length_cons, List.length_nil] at ih ⊢; omega
theorem flCells_get : ∀ (xs : List Mb.Fl) (k : Nat) (x : Mb.Fl), xs[k]? = some x → (flCells xs)[k * 2]? = some (.string ⟨x.name.toArray⟩) ∧ (flCells xs)[k * 2 + 1]? = some (.string ⟨x.data.toArray⟩)
  | [], k, x, h => by simp at h
  | y :: r, 0, x, h => by simp at h; subst h; simp [flCells]
  | y :: r, k + 1, x, h => by
    have := flCells_get r k x (by simpa using h)
    simp only [flCells] at this
    simp [flCells, this, Nat.add_mul]
theorem flCells_set : ∀ (xs : List Mb.Fl) (k : Nat) (x : Mb.Fl), k < xs.length → flCells (xs.set k x) = ((flCells xs).set (k * 2) (.string ⟨x.name.toArray⟩)).set (k * 2 + 1) (.string ⟨x.data.toArray⟩)
  | [], k, x, h => by simp at h
  | y :: r, 0, x, h => by simp [flCells]
  | y :: r, k + 1, x, h => by
    have := flCells_set r k x (by simpa using h)
    simp only [flCells] at this
    simp [flCells, this, Nat.add_mul]

/-- files read at an address -/
def FlsAt (w : World) (b off : Nat) (xs : List Mb.Fl) : Prop :=
  ∀ (i : Nat) (x : Mb.Fl), xs[i]? = some x → w.cell? ⟨b, off + i * 2, none⟩ = some (.string ⟨x.name.toArray⟩) ∧ w.cell? ⟨b, off + i * 2 + 1, none⟩ = some (.string ⟨x.data.toArray⟩)
theorem FlsAt.below {w w' : World} {B b off : Nat} {xs : List Mb.Fl} (h : FlsAt w b off xs) (hb : Below B w w') (hB : b < B) : FlsAt w' b off xs := by
  intro i x hx
  obtain ⟨c0, c1⟩ := h i x hx
  exact ⟨(hb.cell (p := ⟨b, off + i * 2, none⟩) hB).trans c0, (hb.cell (p := ⟨b, off + i * 2 + 1, none⟩) hB).trans c1⟩
theorem FlsAt.block {w w' : World} {b off : Nat} {xs : List Mb.Fl} (h : FlsAt w b off xs) (hb : w'.heap[b]? = w.heap[b]?) : FlsAt w' b off xs := by
  intro i x hx
  obtain ⟨c0, c1⟩ := h i x hx
  exact ⟨(World.cell?_of_block (a := ⟨b, off + i * 2, none⟩) hb).trans c0, (World.cell?_of_block (a := ⟨b, off + i * 2 + 1, none⟩) hb).trans c1⟩
def FlAt (w : World) (a : Option Addr) (xs : List Mb.Fl) : Prop := (xs = []) ∨ ∃ b off, a = some ⟨b, off, none⟩ ∧ b < w.heap.size ∧ FlsAt w b off xs
theorem FlAt.below {w w' : World} {a : Option Addr} {xs : List Mb.Fl} (h : FlAt w a xs) (hb : Below w.heap.size w w') : FlAt w' a xs := by
  rcases h with h | ⟨b, off, h1, h2, h3⟩
  · exact Or.inl h
  · exact Or.inr ⟨b, off, h1, Nat.lt_of_lt_of_le h2 hb.size, h3.below hb h2⟩

theorem Tryz.info_file : (Tryz.prog.info? 48).map (fun i => (i.zero, i.size, i.bytes)) = some (some (.agg #[.string ByteArray.empty, .string ByteArray.empty]), 2, 32) := by kernel_rfl
theorem elem_file : ElemOf Tryz.prog 25 48 2 32 := by
  obtain ⟨i, h1, h2, h3, h4⟩ := info_parts Tryz.info_file
  exact ⟨i, _, Tryz.underlying25, h1, h2, h3, h4, rfl⟩
/-- files in memory of their own -/
def OwnF (w : World) (B : Nat) (v : Value) (xs : List Mb.Fl) : Prop := w.ownsRow B 48 2 v xs.length (flCells xs)
theorem OwnF.below {w w' : World} {B : Nat} {v : Value} {xs : List Mb.Fl} (h : OwnF w B v xs) (hb : Below w.heap.size w w') : OwnF w' B v xs := owns_below h hb
theorem OwnF.base {w : World} {B B' : Nat} {v : Value} {xs : List Mb.Fl} (h : OwnF w B v xs) (hB : B' ≤ B) : OwnF w B' v xs := owns_base h hB
theorem OwnF.nil (w : World) (B : Nat) : OwnF w B (.slice none 0 0) [] := World.ownsRow_nil _ _ _ _
theorem OwnF.form {w : World} {B : Nat} {v : Value} {xs : List Mb.Fl} (h : OwnF w B v xs) : ∃ a cap, v = .slice a xs.length cap ∧ xs.length ≤ cap ∧ FlAt w a xs ∧ ∀ b off, a = some ⟨b, off, none⟩ → B ≤ b ∧ off = 0 := by
  rcases h.2 with ⟨h1, h2⟩ | ⟨g, c, cur, h1, h2, h3, h4, _⟩
  · have hx : xs = [] := List.eq_nil_of_length_eq_zero (by omega)
    subst hx
    exact ⟨none, 0, h1, Nat.le_refl _, Or.inl rfl, fun b off hb => by cases hb⟩
  · subst h1
    refine ⟨some ⟨g, 0, none⟩, c, rfl, by omega, Or.inr ⟨g, 0, rfl, (Array.getElem?_eq_some_iff.1 h3).1, ?_⟩, fun b off hb => by injection hb with hb; injection hb with hb hb2; exact ⟨by omega, hb2.symm⟩⟩
    intro i x hx
    rw [Nat.zero_add]
    exact ⟨own_cell h (flCells_get _ _ _ hx).1, own_cell h (flCells_get _ _ _ hx).2⟩
/-- a row that is not empty -/
theorem OwnF.some {w : World} {B : Nat} {v : Value} {xs : List Mb.Fl} (h : OwnF w B v xs) (hx : xs ≠ []) : ∃ g cap, v = .slice (some ⟨g, 0, none⟩) xs.length cap ∧ B ≤ g ∧ g < w.heap.size ∧ xs.length ≤ cap ∧ FlsAt w g 0 xs := by
  obtain ⟨a, cap, h1, h2, h3, h4⟩ := h.form
  rcases h3 with h3 | ⟨b, off, h5, h6, h7⟩
  · exact absurd h3 hx
  · obtain ⟨h8, h9⟩ := h4 b off h5
    subst h9 h5
    exact ⟨b, cap, h1, h8, h6, h2, h7⟩
/-- the last file of a row, written -/
theorem own_last {w : World} {B g gc k : Nat} {ys : List Mb.Fl} {u1 u2 : Value} {n d : ByteArray} (h : w.ownsRow B 48 2 (.slice (some ⟨g, 0, none⟩) (k + 1) gc) (k + 1) (flCells ys ++ [u1, u2])) (hk : ys.length = k) (x : Mb.Fl) (hn : n.data.toList = x.name) (hd : d.data.toList = x.data) :
    OwnF ((w.setCell ⟨g, k * 2, none⟩ (.string n)).setCell ⟨g, k * 2 + 1, none⟩ (.string d)) B (.slice (some ⟨g, 0, none⟩) (k + 1) gc) (ys ++ [x]) := by
  have h1 := own_set (own_set h (k * 2) (.string n)) (k * 2 + 1) (.string d)
  have e : ((flCells ys ++ [u1, u2]).set (k * 2) (.string n)).set (k * 2 + 1) (.string d) = flCells (ys ++ [x]) := by
    rw [flCells_snoc, List.set_append_right _ _ (by rw [flCells_len]; omega), List.set_append_right _ _ (by rw [flCells_len]; omega), flCells_len, hk]
    have e1 : k * 2 - k * 2 = 0 := by omega
    have e2 : k * 2 + 1 - k * 2 = 1 := by omega
    rw [e1, e2, bytes_is hn, bytes_is hd]
    rfl
  rw [e] at h1
  have hl : (ys ++ [x]).length = k + 1 := by simp [hk]
  unfold OwnF
  rw [hl]
  exact h1
theorem file_load {b o : Nat} {n d : ByteArray} {w : World} (c0 : w.cell? ⟨b, o, none⟩ = some (.string n)) (c1 : w.cell? ⟨b, o + 1, none⟩ = some (.string d)) :
    (Instr.loadAt 48 (.pointer (some ⟨b, o, none⟩))).run Tryz.prog w = .ok (.agg #[.string n, .string d]) w := by
  go_simp
theorem file_index {g off n cap k : Nat} {w : World} (hk : k < n) : (Instr.indexAt 25 (.slice (some ⟨g, off, none⟩) n cap) (.int .i64 (k : Int))).run Tryz.prog w = .ok (.pointer (some ⟨g, off + k * 2, none⟩)) w := by
  have h1 : ¬ (k : Int) < 0 := by omega
  have h2 : ((k : Int)).toNat = k := by omega
  go_simp
theorem file_build {n d : ByteArray} {w : World} :
    (Instr.buildSlice 25 1 #[(0, .agg #[.string n, .string d])]).run Tryz.prog w = .ok (.slice (some ⟨w.heap.size, 0, none⟩) 1 1) (w.alloc (.cells #[.string n, .string d] 48)) := by
  go_simp
theorem file_index0 {g n cap k : Nat} {w : World} (hk : k < n) : (Instr.indexAt 25 (.slice (some ⟨g, 0, none⟩) n cap) (.int .i64 (k : Int))).run Tryz.prog w = .ok (.pointer (some ⟨g, k * 2, none⟩)) w := by
  have := file_index (g := g) (off := 0) (cap := cap) (w := w) hk
  rwa [Nat.zero_add] at this
theorem file_tail (g : Nat) {n k : Nat} (cap : Nat) (hk : k ≤ n) : ∃ p : Addr, ∀ w, (Instr.sliceAt 25 (.slice (some ⟨g, 0, none⟩) n cap) (some (.int .i64 (k : Int))) none none).run Tryz.prog w = .ok (.slice (some p) (n - k) (cap - k)) w := by
  have h1 : ¬ (k : Int) < 0 := by omega
  have h2 : ((k : Int)).toNat = k := by omega
  refine ⟨if cap = k then ⟨g, 0, none⟩ else ⟨g, k * 2, none⟩, fun w => ?_⟩
  by_cases h3 : cap = k
  · rw [if_pos h3]; go_simp
  · rw [if_neg h3]; go_simp
theorem copy_none {x y : Operand} {p q : Addr} {c1 c2 n: Nat} {w : World} {ty : TypeId} (ρ : Operand → Value) (hx : ρ x = .slice (some p) 0 c1) (hy : ρ y = .slice (some q) n c2) :
  (do let d ← resolve ρ { callee := .builtin .copy, args := #[x, y], argTypes := #[25, 25] } ty; invoke d.target d.args : Sem Next).run Tryz.prog w = .ok (.value (.int .i64 0)) w := by
  have h : (Builtin.copy_ #[25, 25] ty #[.slice (some p) 0 c1, .slice (some q) n c2]).run Tryz.prog w = .ok (.int .i64 0) w := by
    obtain ⟨i, h1, _⟩ := info_parts Tryz.info_file
    simp [Builtin.copy_, run_underlying Tryz.underlying25, Builtin.lenOf, Builtin.firstCells, sizeOf, typeInfo, go_sem, h1]
  go_simp
theorem file_make {n d : ByteArray} {w : World} : (Instr.build 48 #[(0, .string n), (1, .string d)]).run Tryz.prog w = .ok (.agg #[.string n, .string d]) w := by
  go_simp
end Go.Proofs.YtamglanahpcedaaGreatDoor
namespace Go.Proofs.YtamglanahpcedaaGreatDoor
open Go.RowKit Go.Lib

/-- which comes first -/
def Mb.cmp (x y : List UInt8) : Int := if Op.bytesLess x y then -1 else if x == y then 0 else 1

theorem isNaN_str (x : ByteArray) (w : World) : Calls Tryz.prog 98 #[.string x] w fun e w' => e = .returned (.bool false) ∧ w' = w := by
  go_enter Tryz.func98, Tryz.ntmps98
  go_wp2
  go_ret
  exact ⟨rfl, rfl⟩
theorem compare_str (x y : ByteArray) (w : World) : Calls Tryz.prog 61 #[.string x, .string y] w fun e w' => e = .returned (.int .i64 (Mb.cmp x.data.toList y.data.toList)) ∧ w' = w := by
  unfold Mb.cmp
  rw [← ByteArray.toList_eq, ← ByteArray.toList_eq]
  by_cases h1 : Op.bytesLess x.toList y.toList = true
  · rw [if_pos h1]
    go_enter Tryz.func61, Tryz.ntmps61
    go_wp2_with (go_at_call 98; refine (isNaN_str _ _).mono ?_; rintro e w' ⟨rfl, rfl⟩)
    go_ret
    exact ⟨rfl, rfl⟩
  · rw [if_neg h1]
    have h1 : Op.bytesLess x.toList y.toList = false := by simpa using h1
    by_cases h2 : (x.toList == y.toList) = true
    · rw [if_pos h2]
      go_enter Tryz.func61, Tryz.ntmps61
      go_wp2_with (go_at_call 98; refine (isNaN_str _ _).mono ?_; rintro e w' ⟨rfl, rfl⟩)
      go_ret
      exact ⟨rfl, rfl⟩
    · rw [if_neg h2]
      have h2 : (x.toList == y.toList) = false := by simpa using h2
      go_enter Tryz.func61, Tryz.ntmps61
      go_wp2_with (go_at_call 98; refine (isNaN_str _ _).mono ?_; rintro e w' ⟨rfl, rfl⟩)
      go_ret
      exact ⟨rfl, rfl⟩
theorem byName_any (n1 d1 n2 d2 : ByteArray) (w : World) : Calls Tryz.prog 38 #[.agg #[.string n1, .string d1], .agg #[.string n2, .string d2]] w fun e w' => e = .returned (.int .i64 (Mb.cmp n1.data.toList n2.data.toList)) ∧ Below w.heap.size w w' := by
  have g := fun w => compare_str n1 n2 w
  generalize Mb.cmp n1.data.toList n2.data.toList = z at *
  go_enter Tryz.func38, Tryz.ntmps38
  go_wp2_with (go_at_call 61; refine (g _).mono ?_; rintro e w' ⟨rfl, rfl⟩)
  go_ret
  exact ⟨rfl, ((Below.refl _ _).alloc (Nat.le_refl _) _).alloc (by simp) _⟩
theorem Mb.cmp_neg (x y : List UInt8) : (Mb.cmp x y < 0) ↔ Op.bytesLess x y = true := by
  unfold Mb.cmp
  split
  · simp [*]
  · split <;> simp [*]
/-- x laid into a list, behind the last that it is not ahead of -/
structure Mb.Ins (ys : List Mb.Fl) (x : Mb.Fl) (j : Nat) : Prop where
  le : j ≤ ys.length
  gt : ∀ k y, j ≤ k → ys[k]? = some y → Op.bytesLess x.name y.name = true
  stop : j = 0 ∨ ∃ y, ys[j - 1]? = some y ∧ Op.bytesLess x.name y.name = false
/-- the files laid in order one behind the other -/
inductive Mb.Sorts : List Mb.Fl → List Mb.Fl → Prop
  | nil : Mb.Sorts [] []
  | snoc {xs ys : List Mb.Fl} {x : Mb.Fl} {j : Nat} (h : Mb.Sorts xs ys) (hi : Mb.Ins ys x j) : Mb.Sorts (xs ++ [x]) (ys.take j ++ x :: ys.drop j)
theorem Mb.Sorts.length {xs ys : List Mb.Fl} (h : Mb.Sorts xs ys) : ys.length = xs.length := by
  induction h with
  | nil => rfl
  | snoc h hi ih => have := hi.le; simp; omega
end Go.Proofs.YtamglanahpcedaaGreatDoor
