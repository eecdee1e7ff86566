/-
  OWN TEXT: a step on what the caller has (owner), said of the World's own block and rows alone: the head, no entries, no files, nothing.
-/
import Derived.Test.YtldgiecjnmkajaaGreatDoorPlayZ
namespace Go.Proofs.YtldgiecjnmkajaaGreatDoor
open Go.RowKit Go.Lib

set_option maxHeartbeats 4000000 in
set_option maxRecDepth 100000 in
theorem ownerG_none {W : World} {K : Nat} (c4 : W.cell? ⟨K, 4, none⟩ = some (.slice none 0 0)) (k a b : Int) (s t : ByteArray) (hk : k < 1 ∨ k = 6) :
    Calls Tryz.prog 58 #[.pointer (some ⟨K, 0, none⟩), .agg #[.int .i64 k, .int .i64 a, .int .i64 b, .string s, .string t]] W fun e w' => e = .returned (.tuple #[]) ∧ w' = W.alloc (boxOf k a b s t) := by
  have hlt := Lib.lt_of_cell c4
  rcases hk with hk | rfl
  all_goals go_enter Tryz.func58, Tryz.ntmps58
  all_goals go_wp2
  all_goals go_end0
  all_goals exact ⟨rfl, rfl⟩

set_option maxHeartbeats 4000000 in
set_option maxRecDepth 100000 in
theorem ownerG_head {W : World} {K : Nat} {x0 x1 : Value} (c0 : W.cell? ⟨K, 0, none⟩ = some x0) (c1 : W.cell? ⟨K, 1, none⟩ = some x1) (f0 : W.frozen? ⟨K, 0, none⟩ = false) (f1 : W.frozen? ⟨K, 1, none⟩ = false) (a b : Int) (s t : ByteArray) :
    Calls Tryz.prog 58 #[.pointer (some ⟨K, 0, none⟩), .agg #[.int .i64 1, .int .i64 a, .int .i64 b, .string s, .string t]] W fun e w' => e = .returned (.tuple #[]) ∧ w' = ((W.setCell ⟨K, 0, none⟩ (.int .i64 a)).setCell ⟨K, 1, none⟩ (.int .i64 b)).alloc (boxOf 1 a b s t) := by
  have hlt := Lib.lt_of_cell c0
  have hne : ¬ K = W.heap.size := by
    have : K < W.heap.size := hlt
    omega
  have hne2 : ¬ W.heap.size = K := fun e => hne e.symm
  go_enter Tryz.func58, Tryz.ntmps58
  go_wp2
  go_end0
  exact ⟨rfl, rfl⟩

set_option maxHeartbeats 4000000 in
set_option maxRecDepth 100000 in
theorem ownerG_bare {W : World} {K : Nat} {v : Value} (c2 : W.cell? ⟨K, 2, none⟩ = some v) (f2 : W.frozen? ⟨K, 2, none⟩ = false) (a b : Int) (s t : ByteArray) :
    Calls Tryz.prog 58 #[.pointer (some ⟨K, 0, none⟩), .agg #[.int .i64 3, .int .i64 a, .int .i64 b, .string s, .string t]] W fun e w' => e = .returned (.tuple #[]) ∧ w' = (W.setCell ⟨K, 2, none⟩ (.slice none 0 0)).alloc (boxOf 3 a b s t) := by
  have hlt := Lib.lt_of_cell c2
  have hne : ¬ K = W.heap.size := by
    have : K < W.heap.size := hlt
    omega
  go_enter Tryz.func58, Tryz.ntmps58
  go_wp2
  go_end0
  exact ⟨rfl, rfl⟩

set_option maxHeartbeats 4000000 in
set_option maxRecDepth 100000 in
theorem ownerG_nofiles {W : World} {K : Nat} {v : Value} (c3 : W.cell? ⟨K, 3, none⟩ = some v) (f3 : W.frozen? ⟨K, 3, none⟩ = false) (a b : Int) (s t : ByteArray) :
    Calls Tryz.prog 58 #[.pointer (some ⟨K, 0, none⟩), .agg #[.int .i64 5, .int .i64 a, .int .i64 b, .string s, .string t]] W fun e w' => e = .returned (.tuple #[]) ∧ w' = (W.setCell ⟨K, 3, none⟩ (.slice none 0 0)).alloc (boxOf 5 a b s t) := by
  have hlt := Lib.lt_of_cell c3
  have hne : ¬ K = W.heap.size := by
    have : K < W.heap.size := hlt
    omega
  go_enter Tryz.func58, Tryz.ntmps58
  go_wp2
  go_end0
  exact ⟨rfl, rfl⟩

end Go.Proofs.YtldgiecjnmkajaaGreatDoor
