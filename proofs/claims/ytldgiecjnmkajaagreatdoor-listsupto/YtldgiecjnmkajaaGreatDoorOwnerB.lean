/-
  OWN TEXT: a step on what the caller has (owner): a file more, said of the World's own block and row alone.
-/
import Derived.Test.YtldgiecjnmkajaaGreatDoorPlayZ
namespace Go.Proofs.YtldgiecjnmkajaaGreatDoor
open Go.RowKit Go.Lib

attribute [local go_sem ↓] Go.wp_at_zero Go.wp_at_succ

set_option maxHeartbeats 16000000 in
set_option maxRecDepth 100000 in
theorem ownerG_file {W : World} {K B n : Nat} {v : Value} {xs : List Value} (hKB : K < B) (hsz : B ≤ W.heap.size) (c2 : W.cell? ⟨K, 3, none⟩ = some v) (f2 : W.frozen? ⟨K, 3, none⟩ = false) (hown : W.ownsRow B 54 2 v n xs) (hN : n ≤ 2814749767106) (a b : Int) (s t : ByteArray) :
    Calls Tryz.prog 58 #[.pointer (some ⟨K, 0, none⟩), .agg #[.int .i64 4, .int .i64 a, .int .i64 b, .string s, .string t]] W fun e w' => e = .returned (.tuple #[]) ∧ ∃ gg cap w1, w' = w1.setCell ⟨K, 3, none⟩ (.slice (some ⟨gg, 0, none⟩) (n + 1) cap) ∧ w1.ownsRow B 54 2 (.slice (some ⟨gg, 0, none⟩) (n + 1) cap) (n + 1) (xs ++ [.string s, .string t]) ∧ ((W.alloc (boxOf 4 a b s t)).alloc (.cells #[.string s, .string t] 54)).drew.grownBy w1 v.ownBlock ∧ (v.ownBlock = some gg ∨ gg = W.heap.size + 2) := by
  obtain ⟨i0, hi0, hz0, hz1, hz2⟩ := info_parts info_file
  have hvK : v.ownBlock ≠ some K := fun e => by have := (hown.lt _ e).1; omega
  have hvB : v.ownBlock ≠ some W.heap.size := fun e => by have := (hown.lt _ e).2; omega
  have hKW : K ≠ W.heap.size := by omega
  have b3 : (W.alloc (boxOf 4 a b s t)).cell? ⟨W.heap.size, 3, none⟩ = some (.string s) := by rw [boxOf, World.cell?_alloc_new]; rfl
  have b4 : (W.alloc (boxOf 4 a b s t)).cell? ⟨W.heap.size, 4, none⟩ = some (.string t) := by rw [boxOf, World.cell?_alloc_new]; rfl
  have hlt : K < W.heap.size := by omega
  have d2 : (W.alloc (boxOf 4 a b s t)).cell? ⟨K, 3, none⟩ = some v := by rw [World.cell?_alloc_past _ _ _ hlt]; exact c2
  have g2 : (W.alloc (boxOf 4 a b s t)).frozen? ⟨K, 3, none⟩ = false := by rw [World.frozen?_of_block (Go.heap_alloc_old W _ hlt)]; exact f2
  have hown1 := hown.alloc (boxOf 4 a b s t)
  have hs1 : (W.alloc (boxOf 4 a b s t)).heap.size = W.heap.size + 1 := by simp
  have hs2 : W.heap.size < (W.alloc (boxOf 4 a b s t)).heap.size := by omega
  have hs3 : B ≤ (W.alloc (boxOf 4 a b s t)).heap.size := by omega
  have hs4 : K < (W.alloc (boxOf 4 a b s t)).heap.size := by omega
  have hn1 : n + 1 ≤ maxLen := by unfold maxLen; omega
  have hby : (n + 1) * 32 ≤ 140737488355328 := by omega
  have hfa : ∀ o, ((W.alloc (boxOf 4 a b s t)).alloc o).drew.frozen? ⟨K, 3, none⟩ = false := fun o => (World.frozen?_of_block (Go.heap_alloc_old (W.alloc (boxOf 4 a b s t)) o hs4)).trans g2
  have hca : ∀ o, ((W.alloc (boxOf 4 a b s t)).alloc o).drew.cell? ⟨K, 3, none⟩ = some v := fun o => (World.cell?_of_block (Go.heap_alloc_old (W.alloc (boxOf 4 a b s t)) o hs4)).trans d2
  have HS1 := Lib.hid hs1
  clear c2 f2 hown hs1
  go_enter Tryz.func58, Tryz.ntmps58
  go_wp2_with fail
  change Code.wp _ _ _ _ (W.alloc (boxOf 4 a b s t))
  generalize hW1 : W.alloc (boxOf 4 a b s t) = W1 at *
  have HW1 := Lib.hid hW1
  clear hW1
  generalize hP : W.heap.size = P at *
  have HP := Lib.hid hP
  clear hP
  go_region_law
    ((refine step_append_lies _ (by rfl) _ _ _ (by rfl) B 54 i0 _ 2 32 Tryz.underlying28 hi0 hz0 hz1 hz2 rfl (by omega) v n xs (by rfl) ((hown1.alloc _).drew)
        ⟨W1.heap.size, 0, none⟩ 1 1 [.string s, .string t] (by rfl) (by rfl) (World.news_of_block (cs := #[.string s, .string t]) (t := 54) (fr := (0, 0)) (heap_alloc_new W1 _)) (by simp [Value.oneCell'])
        (by omega) hn1 hby (by simp; omega) (W1.heap.size + 1) (by simp) ?_; intro gg cap w1 hown2 hgrow hat hlt2; have hc1 := (hgrow.cell_far (a := ⟨K, 3, none⟩) (by simp; omega) (Ne.symm hvK)).trans (hca _); have hf1 := (hgrow.frozen_far (a := ⟨K, 3, none⟩) (by simp; omega) (Ne.symm hvK)).trans (hfa _)))
  all_goals go_wp2
  all_goals go_end0
  all_goals have e1 := HW1.out
  all_goals have e2 := HP.out
  all_goals rw [HS1.out] at hat
  all_goals subst e1
  all_goals subst e2
  all_goals exact ⟨rfl, gg, cap, w1, rfl, hown2, hgrow, hat⟩

end Go.Proofs.YtldgiecjnmkajaaGreatDoor
