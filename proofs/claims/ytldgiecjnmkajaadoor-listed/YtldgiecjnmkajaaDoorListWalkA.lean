/-
  OWN TEXT: what the small functions of packages lists, flags and of the law's own do.
-/
import Derived.Test.YtldgiecjnmkajaaDoorChecked
import Derived.Test.YtldgiecjnmkajaaDoorShelf
import Derived.Test.YtldgiecjnmkajaaDoorListMath
import Derived.WalkKit
import Derived.WalkSpells
import Derived.WalkLawsBesides
import Derived.BigQuiet
import Derived.Deep.QuietTactic
namespace Go.Proofs.YtldgiecjnmkajaaDoor
open Go.RowKit

/-- lists.within -/
theorem within_any (a b : Int) (w : World) :
    Calls Tryd.prog 33 #[.int .i64 a, .int .i64 b] w fun e w' => e = .returned (.bool (decide (1 ≤ a) && decide (a ≤ b))) ∧ w' = w := by
  by_cases h1 : 1 ≤ a
  · by_cases h2 : a ≤ b
    · go_enter Tryd.func33, Tryd.ntmps33
      go_wp2
      go_ret
      exact ⟨by simp [h1, h2], rfl⟩
    · have h3 : decide (a ≤ b) = false := by simpa using h2
      rw [h3, Bool.and_false]
      go_enter Tryd.func33, Tryd.ntmps33
      go_wp2
      go_ret
      exact ⟨rfl, rfl⟩
  · have h3 : decide (1 ≤ a) = false := by simpa using h1
    rw [h3, Bool.false_and]
    go_enter Tryd.func33, Tryd.ntmps33
    go_wp2
    go_ret
    exact ⟨rfl, rfl⟩

/-- flags.Tell -/
theorem tell_any (s : ByteArray) (w : World) :
    Calls Tryd.prog 24 #[.string s] w fun e w' => e = .returned (.string ⟨(Mb.tell s.data.toList).toArray⟩) ∧ w' = w := by
  by_cases h : s.data.toList = []
  · have hs : s = ⟨#[]⟩ := by
      apply ByteArray.ext; apply Array.ext'; simpa using h
    subst hs
    go_enter Tryd.func24, Tryd.ntmps24
    go_wp2
    go_ret
    exact ⟨rfl, rfl⟩
  · have h2 : Mb.tell s.data.toList = s.data.toList := by unfold Mb.tell; rw [if_neg h]
    rw [h2]
    have h3 : s.toList.isEmpty = false := by
      rw [ByteArray.toList_eq]; cases hl : s.data.toList with
      | nil => exact absurd hl h
      | cons _ _ => rfl
    go_enter Tryd.func24, Tryd.ntmps24
    go_wp2
    go_ret
    exact ⟨rfl, rfl⟩

/-- strings.Clone -/
theorem clone_any (s : ByteArray) (w : World) (hs : s.size ≤ 281474976710656) :
    Calls Tryd.prog 63 #[.string s] w fun e w' => e = .returned (.string s) ∧ Below w.heap.size w w' := by
  go_enter Tryd.func63, Tryd.ntmps63
  go_wp2_with (go_at_call 70; refine (Tryd.stringslite_Clone _ _ hs).mono ?_; rintro e w' ⟨rfl, hb⟩)
  go_ret
  exact ⟨rfl, hb⟩

/-- flags.Meant -/
theorem meant_any (s : ByteArray) (w : World) (hs : s.size ≤ 281474976710656) :
    Calls Tryd.prog 47 #[.string s] w fun e w' => e = .returned (.string ⟨(Mb.meant s.data.toList).toArray⟩) ∧ Below w.heap.size w w' := by
  by_cases h : s.data.toList = [45]
  · have hse : s = ⟨#[45]⟩ := by
      apply ByteArray.ext; apply Array.ext'; simpa using h
    subst hse
    go_enter Tryd.func47, Tryd.ntmps47
    go_wp2
    go_ret
    exact ⟨rfl, Below.refl _ _⟩
  · have h2 : Mb.meant s.data.toList = s.data.toList := by unfold Mb.meant; rw [if_neg h]
    rw [h2]
    have h3 : (s.toList == [45]) = false := by
      rw [ByteArray.toList_eq]; simpa using h
    clear h h2
    go_enter Tryd.func47, Tryd.ntmps47
    go_wp2_with (go_at_call 63; refine (clone_any _ _ hs).mono ?_; rintro e w' ⟨rfl, hb⟩)
    go_ret
    exact ⟨rfl, hb⟩

theorem take_snoc (s : ByteArray) (k : Nat) (h : k < s.size) : s.data.toList.take (k + 1) = s.data.toList.take k ++ [s[k]] := by
  rw [List.take_succ_eq_append_getElem (by simpa using h)]; rfl
theorem ret_int {k : IntKind} {a b : Int} (h : a = b) : Ending.returned (.int k a) = .returned (.int k b) := by rw [h]

/-- lists.sum -/
theorem sum_any (s : ByteArray) (w : World) (hs : s.size ≤ maxLen) :
    Calls Tryd.prog 25 #[.string s] w fun e w' => e = .returned (.int .i64 (Mb.sumOf s.data.toList)) ∧ w' = w := by
  unfold maxLen at hs
  go_enter Tryd.func25, Tryd.ntmps25
  go_wp2
  go_loop [3, 7] (fun n i => ∃ k : Nat, k ≤ s.size ∧ i = .int .i64 k ∧ n = .int .i64 (Mb.sumOf (s.data.toList.take k))) (fun _ i => s.size - (intOf i).toNat)
  case atStart => exact ⟨0, Nat.zero_le _, rfl, rfl⟩
  case round =>
    obtain ⟨k, hk, rfl, rfl⟩ := hrel
    have hd := Mb.sumOf_lt (s.data.toList.take k)
    by_cases hlt : k < s.size
    · have hsn := Mb.sumOf_snoc (s.data.toList.take k) s[k]
      have hts := take_snoc s k hlt
      have hb := s[k].toNat_lt
      have HS : Hid (Mb.sumOf (s.data.toList.take (k + 1)) = (Mb.sumOf (s.data.toList.take k) * 31 + s[k].toNat) % 99991) := by rw [hts]; exact hsn
      clear hsn hts
      go_wp2
      go_round
      case rel => exact ⟨k + 1, by omega, by go_num, by rw [HS.out]; go_num⟩
      case measure => simp [intOf]; omega
    · go_wp2
      go_ret
      exact ⟨ret_int (by rw [List.take_of_length_le (by simp; omega)]), rfl⟩

end Go.Proofs.YtldgiecjnmkajaaDoor
