/-
  OWN TEXT: lists.right whole; lists.Write.
-/
import Derived.Test.YtldgiecjnmkajaaDoorListWalkC
namespace Go.Proofs.YtldgiecjnmkajaaDoor
open Go.RowKit

set_option maxHeartbeats 400000 in
theorem right_no1 (e n : Int) (a : Option Addr) (len cap : Nat) (w : World) (h1 : (decide (1 ≤ e) && decide (e ≤ 99)) = false) :
    Calls Tryd.prog 22 #[.agg #[.int .i64 e, .int .i64 n, .slice a len cap]] w fun r w' => r = .returned (.bool false) ∧ Below w.heap.size w w' := by
  have g1 := within_is h1
  clear h1
  go_enter Tryd.func22, Tryd.ntmps22
  go_wp2_with fail
  refine (g1 _).mono ?_
  rintro e' w' ⟨rfl, rfl⟩
  clear g1
  go_wp2
  go_ret
  exact ⟨rfl, (Below.refl _ _).alloc (Nat.le_refl _) _⟩

set_option maxHeartbeats 400000 in
theorem right_no2 (e n : Int) (a : Option Addr) (len cap : Nat) (w : World) (h1 : (decide (1 ≤ e) && decide (e ≤ 99)) = true) (h2 : (decide (1 ≤ n) && decide (n ≤ 100)) = false) :
    Calls Tryd.prog 22 #[.agg #[.int .i64 e, .int .i64 n, .slice a len cap]] w fun r w' => r = .returned (.bool false) ∧ Below w.heap.size w w' := by
  have g1 := within_is h1
  have g2 := within_is h2
  clear h1 h2
  go_enter Tryd.func22, Tryd.ntmps22
  go_wp2_with fail
  refine (g1 _).mono ?_
  rintro e' w' ⟨rfl, rfl⟩
  go_wp2_with fail
  refine (g2 _).mono ?_
  rintro e' w' ⟨rfl, rfl⟩
  clear g1 g2
  go_wp2
  go_ret
  exact ⟨rfl, (Below.refl _ _).alloc (Nat.le_refl _) _⟩

set_option maxHeartbeats 400000 in
theorem right_no3 (e n : Int) (a : Option Addr) (len cap : Nat) (w : World) (h1 : (decide (1 ≤ e) && decide (e ≤ 99)) = true) (h2 : (decide (1 ≤ n) && decide (n ≤ 100)) = true) (h3 : ¬ len ≤ 8) :
    Calls Tryd.prog 22 #[.agg #[.int .i64 e, .int .i64 n, .slice a len cap]] w fun r w' => r = .returned (.bool false) ∧ Below w.heap.size w w' := by
  have g1 := within_is h1
  have g2 := within_is h2
  have h8 : decide ((8 : Int) < (len : Int)) = true := by simp; omega
  clear h1 h2
  go_enter Tryd.func22, Tryd.ntmps22
  go_wp2_with fail
  refine (g1 _).mono ?_
  rintro e' w' ⟨rfl, rfl⟩
  go_wp2_with fail
  refine (g2 _).mono ?_
  rintro e' w' ⟨rfl, rfl⟩
  clear g1 g2
  go_wp2
  go_ret
  exact ⟨rfl, (Below.refl _ _).alloc (Nat.le_refl _) _⟩

set_option maxHeartbeats 400000 in
theorem right_empty (e n : Int) (a : Option Addr) (cap : Nat) (w : World) (h1 : (decide (1 ≤ e) && decide (e ≤ 99)) = true) (h2 : (decide (1 ≤ n) && decide (n ≤ 100)) = true) :
    Calls Tryd.prog 22 #[.agg #[.int .i64 e, .int .i64 n, .slice a 0 cap]] w fun r w' => r = .returned (.bool true) ∧ Below w.heap.size w w' := by
  have g1 := within_is h1
  have g2 := within_is h2
  clear h1 h2
  go_enter Tryd.func22, Tryd.ntmps22
  go_wp2_with fail
  refine (g1 _).mono ?_
  rintro e' w' ⟨rfl, rfl⟩
  go_wp2_with fail
  refine (g2 _).mono ?_
  rintro e' w' ⟨rfl, rfl⟩
  clear g1 g2
  go_wp2
  go_loop [25] (fun i => i = .int .i64 0) (fun _ => 0)
  case atStart => rfl
  case round =>
    subst hrel
    go_wp2
    go_ret
    exact ⟨rfl, (Below.refl _ _).alloc (Nat.le_refl _) _⟩

theorem right_any (e n : Int) (a : Option Addr) (cap : Nat) (xs : List Mb.Ent) (w : World) (hs : SlAt w a xs) (hl : xs.length ≤ maxLen) (hcap : xs.length ≤ cap) (hf : ∀ x ∈ xs, x.flags.length ≤ maxLen) :
    Calls Tryd.prog 22 #[.agg #[.int .i64 e, .int .i64 n, .slice a xs.length cap]] w fun r w' => r = .returned (.bool (Mb.listOk e n xs)) ∧ Below w.heap.size w w' := by
  have hL : Mb.listOk e n xs = ((decide (1 ≤ e) && decide (e ≤ 99)) && (decide (1 ≤ n) && decide (n ≤ 100)) && decide (xs.length ≤ 8) && Mb.entsOk n [] 0 xs) := by
    unfold Mb.listOk; simp only [Bool.and_assoc]
  cases h1 : (decide (1 ≤ e) && decide (e ≤ 99)) with
  | false => rw [hL, h1]; exact right_no1 e n a _ cap w h1
  | true =>
    cases h2 : (decide (1 ≤ n) && decide (n ≤ 100)) with
    | false => rw [hL, h1, h2]; exact right_no2 e n a _ cap w h1 h2
    | true =>
      by_cases h3 : xs.length ≤ 8
      · have h3' : decide (xs.length ≤ 8) = true := by simpa using h3
        rw [hL, h1, h2, h3']
        simp only [Bool.and_self, Bool.true_and]
        rcases hs with rfl | ⟨b, off, rfl, hb, hc⟩
        · exact right_empty e n a cap w h1 h2
        · exact right_some e n b off cap xs w hb hc hl hcap hf h1 h2 h3
      · have h3' : decide (xs.length ≤ 8) = false := by simpa using h3
        rw [hL, h1, h2, h3']
        exact right_no3 e n a _ cap w h1 h2 h3

end Go.Proofs.YtldgiecjnmkajaaDoor
