/-
  OWN TEXT: a step on what the caller has (owner), as long as there is no server.
-/
import Derived.Test.YtldgiecjnmkajaaGreatDoorPlayB
import Derived.Test.YtldgiecjnmkajaaGreatDoorPlayZ
import Derived.Deep.RegionHeld3
import Derived.Deep.AppendLies
import Derived.Deep.DrawnRows
namespace Go.Proofs.YtldgiecjnmkajaaGreatDoor
open Go.RowKit Go.Lib

/-- the cells of the World that the caller's own steps write -/
structure Own (w0 W : World) (v f : Value) : Prop where
  c2 : W.cell? ⟨w0.heap.size, 2, none⟩ = some v
  c3 : W.cell? ⟨w0.heap.size, 3, none⟩ = some f
  c4 : W.cell? ⟨w0.heap.size, 4, none⟩ = some (.slice none 0 0)
  there : ∀ o, o < 4 → ∃ x, W.cell? ⟨w0.heap.size, o, none⟩ = some x
  fr : ∀ o, W.frozen? ⟨w0.heap.size, o, none⟩ = false

theorem WI.own {w0 W : World} {H : Obj} {N : Nat} (h : WI w0 H N W) : ∃ v f, Own w0 W v f ∧ RowOk W (w0.heap.size + 2) 221 3 N v ∧ RowOk W (w0.heap.size + 2) 54 2 N f := by
  obtain ⟨e, n, v, f, h1, h2, h3⟩ := h.blk
  refine ⟨v, f, ⟨?_, ?_, ?_, ?_, ?_⟩, h2, h3⟩
  · simp [World.cell?, h1, worldCells]
  · simp [World.cell?, h1, worldCells]
  · simp [World.cell?, h1, worldCells]
  · intro o ho
    have : o = 0 ∨ o = 1 ∨ o = 2 ∨ o = 3 := by omega
    rcases this with rfl | rfl | rfl | rfl <;> simp [World.cell?, h1, worldCells]
  · intro o; simp [World.frozen?, h1]

/-- behind the box of the step -/
theorem WI.box {w0 W : World} {H : Obj} {N : Nat} (h : WI w0 H N W) (o : Obj) : WI w0 H N (W.alloc o) :=
  h.below ((Below.refl _ _).alloc (Nat.le_refl _) _)

set_option maxHeartbeats 4000000 in
set_option maxRecDepth 100000 in
theorem owner_none {w0 W : World} {H : Obj} {N : Nat} (h : WI w0 H N W) (k a b : Int) (s t : ByteArray) (hk : k < 1 ∨ k = 6) :
    Calls Tryz.prog 58 #[.pointer (some ⟨w0.heap.size, 0, none⟩), .agg #[.int .i64 k, .int .i64 a, .int .i64 b, .string s, .string t]] W fun e w' => e = .returned (.tuple #[]) ∧ WI w0 H N w' := by
  have HB := Lib.hid (h.box (boxOf k a b s t))
  obtain ⟨v, f, ho, -, -⟩ := h.own
  have c4 := ho.c4
  have hlt := Lib.lt_of_cell c4
  clear ho h
  rcases hk with hk | rfl
  all_goals go_enter Tryz.func58, Tryz.ntmps58
  all_goals go_wp2
  all_goals go_end0
  all_goals exact ⟨rfl, HB.out⟩

/-- the list's head is written -/
theorem WI.setHead {w0 W : World} {H : Obj} {N : Nat} (h : WI w0 H N W) (a b : Int) : WI w0 H N ((W.setCell ⟨w0.heap.size, 0, none⟩ (.int .i64 a)).setCell ⟨w0.heap.size, 1, none⟩ (.int .i64 b)) :=
  (h.set 0 (.int .i64 a) fun _ n v f => ⟨a, n, v, f, rfl, Or.inl rfl, Or.inl rfl⟩).set 1 (.int .i64 b) fun e _ v f => ⟨e, b, v, f, rfl, Or.inl rfl, Or.inl rfl⟩
theorem WI.setEntries {w0 W : World} {H : Obj} {N : Nat} (h : WI w0 H N W) (x : Value) (hx : RowOk W (w0.heap.size + 2) 221 3 N x) : WI w0 H N (W.setCell ⟨w0.heap.size, 2, none⟩ x) :=
  h.set 2 x fun e n _ f => ⟨e, n, x, f, rfl, Or.inr hx, Or.inl rfl⟩
theorem WI.setFiles {w0 W : World} {H : Obj} {N : Nat} (h : WI w0 H N W) (x : Value) (hx : RowOk W (w0.heap.size + 2) 54 2 N x) : WI w0 H N (W.setCell ⟨w0.heap.size, 3, none⟩ x) :=
  h.set 3 x fun e n v _ => ⟨e, n, v, x, rfl, Or.inl rfl, Or.inr hx⟩

set_option maxHeartbeats 4000000 in
set_option maxRecDepth 100000 in
theorem owner_head {w0 W : World} {H : Obj} {N : Nat} (h : WI w0 H N W) (a b : Int) (s t : ByteArray) :
    Calls Tryz.prog 58 #[.pointer (some ⟨w0.heap.size, 0, none⟩), .agg #[.int .i64 1, .int .i64 a, .int .i64 b, .string s, .string t]] W fun e w' => e = .returned (.tuple #[]) ∧ WI w0 H N w' := by
  have HB := Lib.hid ((h.setHead a b).box (boxOf 1 a b s t))
  obtain ⟨v, f, ho, -, -⟩ := h.own
  obtain ⟨x0, c0⟩ := ho.there 0 (by omega)
  obtain ⟨x1, c1⟩ := ho.there 1 (by omega)
  have f0 := ho.fr 0
  have f1 := ho.fr 1
  have hlt := Lib.lt_of_cell c0
  have hne : ¬ w0.heap.size = W.heap.size := by
    have : w0.heap.size < W.heap.size := hlt
    omega
  have hne2 : ¬ W.heap.size = w0.heap.size := fun e => hne e.symm
  clear ho h
  generalize w0.heap.size = K at c0 c1 f0 f1 hlt hne hne2 HB ⊢
  go_enter Tryz.func58, Tryz.ntmps58
  go_wp2
  go_end0
  exact ⟨rfl, HB.out⟩

set_option maxHeartbeats 4000000 in
set_option maxRecDepth 100000 in
theorem owner_bare {w0 W : World} {H : Obj} {N : Nat} (h : WI w0 H N W) (a b : Int) (s t : ByteArray) :
    Calls Tryz.prog 58 #[.pointer (some ⟨w0.heap.size, 0, none⟩), .agg #[.int .i64 3, .int .i64 a, .int .i64 b, .string s, .string t]] W fun e w' => e = .returned (.tuple #[]) ∧ WI w0 H N w' := by
  have HB := Lib.hid ((h.setEntries (.slice none 0 0) (RowOk.nil _ _ _ _ _)).box (boxOf 3 a b s t))
  obtain ⟨v, f, ho, -, -⟩ := h.own
  have c2 := ho.c2
  have f2 := ho.fr 2
  have hlt := Lib.lt_of_cell c2
  have hne : ¬ w0.heap.size = W.heap.size := by
    have : w0.heap.size < W.heap.size := hlt
    omega
  clear ho h
  generalize w0.heap.size = K at c2 f2 hlt hne HB ⊢
  go_enter Tryz.func58, Tryz.ntmps58
  go_wp2
  go_end0
  exact ⟨rfl, HB.out⟩

set_option maxHeartbeats 4000000 in
set_option maxRecDepth 100000 in
theorem owner_nofiles {w0 W : World} {H : Obj} {N : Nat} (h : WI w0 H N W) (a b : Int) (s t : ByteArray) :
    Calls Tryz.prog 58 #[.pointer (some ⟨w0.heap.size, 0, none⟩), .agg #[.int .i64 5, .int .i64 a, .int .i64 b, .string s, .string t]] W fun e w' => e = .returned (.tuple #[]) ∧ WI w0 H N w' := by
  have HB := Lib.hid ((h.setFiles (.slice none 0 0) (RowOk.nil _ _ _ _ _)).box (boxOf 5 a b s t))
  obtain ⟨v, f, ho, -, -⟩ := h.own
  have c3 := ho.c3
  have f3 := ho.fr 3
  have hlt := Lib.lt_of_cell c3
  have hne : ¬ w0.heap.size = W.heap.size := by
    have : w0.heap.size < W.heap.size := hlt
    omega
  clear ho h
  generalize w0.heap.size = K at c3 f3 hlt hne HB ⊢
  go_enter Tryz.func58, Tryz.ntmps58
  go_wp2
  go_end0
  exact ⟨rfl, HB.out⟩

end Go.Proofs.YtldgiecjnmkajaaGreatDoor
