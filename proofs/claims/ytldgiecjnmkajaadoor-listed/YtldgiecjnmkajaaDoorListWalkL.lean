/-
  OWN TEXT: mailbagkeep.lawful whole.
-/
import Derived.Test.YtldgiecjnmkajaaDoorListWalkK
namespace Go.Proofs.YtldgiecjnmkajaaDoor
open Go.RowKit

set_option maxHeartbeats 1000000 in
theorem lawful_no (e n : Int) (a : Option Addr) (len cap : Nat) (w : World) (h : e < 1 ∨ 99 < e ∨ n < 1 ∨ 100 < n ∨ 8 < len) :
    Calls Tryd.prog 11 #[.agg #[.int .i64 e, .int .i64 n, .slice a len cap]] w fun r w' => r = .returned (.bool false) ∧ Below w.heap.size w w' := by
  by_cases h1 : e < 1
  · go_enter Tryd.func11, Tryd.ntmps11
    go_wp2
    go_ret
    exact ⟨rfl, (Below.refl _ _).alloc (Nat.le_refl _) _⟩
  by_cases h2 : 99 < e
  · go_enter Tryd.func11, Tryd.ntmps11
    go_wp2
    go_ret
    exact ⟨rfl, (Below.refl _ _).alloc (Nat.le_refl _) _⟩
  by_cases h3 : n < 1
  · go_enter Tryd.func11, Tryd.ntmps11
    go_wp2
    go_ret
    exact ⟨rfl, (Below.refl _ _).alloc (Nat.le_refl _) _⟩
  by_cases h4 : 100 < n
  · go_enter Tryd.func11, Tryd.ntmps11
    go_wp2
    go_ret
    exact ⟨rfl, (Below.refl _ _).alloc (Nat.le_refl _) _⟩
  have h5 : (8 : Int) < (len : Int) := by omega
  clear h
  go_enter Tryd.func11, Tryd.ntmps11
  go_wp2
  go_ret
  exact ⟨rfl, (Below.refl _ _).alloc (Nat.le_refl _) _⟩

set_option maxHeartbeats 1000000 in
theorem lawful_empty (e n : Int) (a : Option Addr) (cap : Nat) (w : World) (h1 : 1 ≤ e) (h2 : e ≤ 99) (h3 : 1 ≤ n) (h4 : n ≤ 100) :
    Calls Tryd.prog 11 #[.agg #[.int .i64 e, .int .i64 n, .slice a 0 cap]] w fun r w' => r = .returned (.bool true) ∧ Below w.heap.size w w' := by
  have d1 : decide (e < 1) = false := by simp; omega
  have d2 : decide (99 < e) = false := by simp; omega
  have d3 : decide (n < 1) = false := by simp; omega
  have d4 : decide (100 < n) = false := by simp; omega
  clear h1 h2 h3 h4
  go_enter Tryd.func11, Tryd.ntmps11
  go_wp2_with fail
  go_loop [3] (fun i => i = .int .i64 0) (fun _ => 0)
  case atStart => rfl
  case round =>
    subst hrel
    go_wp2
    go_ret
    exact ⟨rfl, (Below.refl _ _).alloc (Nat.le_refl _) _⟩

theorem lawful_any (e n : Int) (a : Option Addr) (cap : Nat) (xs : List Mb.Ent) (w : World) (hs : SlAt w a xs) (hf : ∀ x ∈ xs, x.flags.length ≤ maxLen) :
    Calls Tryd.prog 11 #[.agg #[.int .i64 e, .int .i64 n, .slice a xs.length cap]] w fun r w' => r = .returned (.bool (Mb.listOk e n xs)) ∧ Below w.heap.size w w' := by
  have hL : Mb.listOk e n xs = (decide (1 ≤ e) && decide (e ≤ 99) && decide (1 ≤ n) && decide (n ≤ 100) && decide (xs.length ≤ 8) && Mb.entsOk n [] 0 xs) := rfl
  by_cases h : 1 ≤ e ∧ e ≤ 99 ∧ 1 ≤ n ∧ n ≤ 100 ∧ xs.length ≤ 8
  · obtain ⟨h1, h2, h3, h4, h5⟩ := h
    have e1 : decide (1 ≤ e) = true := by simpa using h1
    have e2 : decide (e ≤ 99) = true := by simpa using h2
    have e3 : decide (1 ≤ n) = true := by simpa using h3
    have e4 : decide (n ≤ 100) = true := by simpa using h4
    have e5 : decide (xs.length ≤ 8) = true := by simpa using h5
    rw [hL, e1, e2, e3, e4, e5]
    simp only [Bool.and_self, Bool.true_and]
    rcases hs with rfl | ⟨b, off, rfl, hb, hc⟩
    · exact lawful_empty e n a cap w h1 h2 h3 h4
    · exact lawful_some e n b off cap xs w hb hc hf h1 h2 h3 h4 h5
  · have hF : Mb.listOk e n xs = false := by
      cases hk : Mb.listOk e n xs with
      | false => rfl
      | true =>
        have := Mb.listOk_fine hk
        exact absurd ⟨this.e1, this.e2, this.n1, this.n2, this.len⟩ h
    rw [hF]
    exact lawful_no e n a _ cap w (by omega)

end Go.Proofs.YtldgiecjnmkajaaDoor
