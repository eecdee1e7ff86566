/-
  OWN TEXT: what the small functions of packages lists, flags and of the law's own do.
  OWN TEXT: flags.Right, lists.hasKey.
-/
import Derived.Test.YtamglanahpcedaaGreatDoorChecked
import Derived.Test.YtamglanahpcedaaGreatDoorShelf
import Derived.Test.YtamglanahpcedaaGreatDoorListMath
import Derived.WalkKit
import Derived.WalkSpells
import Derived.WalkLawsBesides
import Derived.BigQuiet
import Derived.Deep.QuietTactic
namespace Go.Proofs.YtamglanahpcedaaGreatDoor
open Go.RowKit

/-- lists.within -/
theorem within_any (a b : Int) (w : World) :
    Calls Tryz.prog 150 #[.int .i64 a, .int .i64 b] w fun e w' => e = .returned (.bool (decide (1 ≤ a) && decide (a ≤ b))) ∧ w' = w := by
  by_cases h1 : 1 ≤ a
  · by_cases h2 : a ≤ b
    · go_enter Tryz.func150, Tryz.ntmps150
      go_wp2
      go_ret
      exact ⟨by simp [h1, h2], rfl⟩
    · have h3 : decide (a ≤ b) = false := by simpa using h2
      rw [h3, Bool.and_false]
      go_enter Tryz.func150, Tryz.ntmps150
      go_wp2
      go_ret
      exact ⟨rfl, rfl⟩
  · have h3 : decide (1 ≤ a) = false := by simpa using h1
    rw [h3, Bool.false_and]
    go_enter Tryz.func150, Tryz.ntmps150
    go_wp2
    go_ret
    exact ⟨rfl, rfl⟩

/-- flags.Tell -/
theorem tell_any (s : ByteArray) (w : World) :
    Calls Tryz.prog 116 #[.string s] w fun e w' => e = .returned (.string ⟨(Mb.tell s.data.toList).toArray⟩) ∧ w' = w := by
  by_cases h : s.data.toList = []
  · have hs : s = ⟨#[]⟩ := by
      apply ByteArray.ext; apply Array.ext'; simpa using h
    subst hs
    go_enter Tryz.func116, Tryz.ntmps116
    go_wp2
    go_ret
    exact ⟨rfl, rfl⟩
  · have h2 : Mb.tell s.data.toList = s.data.toList := by unfold Mb.tell; rw [if_neg h]
    rw [h2]
    have h3 : s.toList.isEmpty = false := by
      rw [ByteArray.toList_eq]; cases hl : s.data.toList with
      | nil => exact absurd hl h
      | cons _ _ => rfl
    go_enter Tryz.func116, Tryz.ntmps116
    go_wp2
    go_ret
    exact ⟨rfl, rfl⟩

/-- strings.Clone -/
theorem clone_any (s : ByteArray) (w : World) (hs : s.size ≤ 281474976710656) :
    Calls Tryz.prog 32 #[.string s] w fun e w' => e = .returned (.string s) ∧ Below w.heap.size w w' := by
  go_enter Tryz.func32, Tryz.ntmps32
  go_wp2_with (go_at_call 57; refine (Tryz.stringslite_Clone _ _ hs).mono ?_; rintro e w' ⟨rfl, hb⟩)
  go_ret
  exact ⟨rfl, hb⟩

/-- flags.Meant -/
theorem meant_any (s : ByteArray) (w : World) (hs : s.size ≤ 281474976710656) :
    Calls Tryz.prog 192 #[.string s] w fun e w' => e = .returned (.string ⟨(Mb.meant s.data.toList).toArray⟩) ∧ Below w.heap.size w w' := by
  by_cases h : s.data.toList = [45]
  · have hse : s = ⟨#[45]⟩ := by
      apply ByteArray.ext; apply Array.ext'; simpa using h
    subst hse
    go_enter Tryz.func192, Tryz.ntmps192
    go_wp2
    go_ret
    exact ⟨rfl, Below.refl _ _⟩
  · have h2 : Mb.meant s.data.toList = s.data.toList := by unfold Mb.meant; rw [if_neg h]
    rw [h2]
    have h3 : (s.toList == [45]) = false := by
      rw [ByteArray.toList_eq]; simpa using h
    clear h h2
    go_enter Tryz.func192, Tryz.ntmps192
    go_wp2_with (go_at_call 32; refine (clone_any _ _ hs).mono ?_; rintro e w' ⟨rfl, hb⟩)
    go_ret
    exact ⟨rfl, hb⟩

theorem take_snoc (s : ByteArray) (k : Nat) (h : k < s.size) : s.data.toList.take (k + 1) = s.data.toList.take k ++ [s[k]] := by
  rw [List.take_succ_eq_append_getElem (by simpa using h)]; rfl
theorem ret_int {k : IntKind} {a b : Int} (h : a = b) : Ending.returned (.int k a) = .returned (.int k b) := by rw [h]

/-- lists.sum -/
theorem sum_any (s : ByteArray) (w : World) (hs : s.size ≤ maxLen) :
    Calls Tryz.prog 117 #[.string s] w fun e w' => e = .returned (.int .i64 (Mb.sumOf s.data.toList)) ∧ w' = w := by
  unfold maxLen at hs
  go_enter Tryz.func117, Tryz.ntmps117
  go_wp2
  go_loop [3, 7] (fun n i => ∃ k : Nat, k ≤ s.size ∧ i = .int .i64 k ∧ n = .int .i64 (Mb.sumOf (s.data.toList.take k))) (fun _ i => s.size - (intOf i).toNat)
  case atStart => exact ⟨0, Nat.zero_le _, rfl, rfl⟩
  case round =>
    obtain ⟨k, hk, rfl, rfl⟩ := hrel
    have hd := Mb.sumOf_lt (s.data.toList.take k)
    by_cases hlt : k < s.size
    · have hsn := Mb.sumOf_snoc (s.data.toList.take k) s[k]
      have hts := take_snoc s k hlt
      have hb := s[k].toNat_lt
      have HS : Hid (Mb.sumOf (s.data.toList.take (k + 1)) = (Mb.sumOf (s.data.toList.take k) * 31 + s[k].toNat) % 99991) := by rw [hts]; exact hsn
      clear hsn hts
      go_wp2
      go_round
      case rel => exact ⟨k + 1, by omega, by go_num, by rw [HS.out]; go_num⟩
      case measure => simp [intOf]; omega
    · go_wp2
      go_ret
      exact ⟨ret_int (by rw [List.take_of_length_le (by simp; omega)]), rfl⟩

end Go.Proofs.YtamglanahpcedaaGreatDoor
namespace Go.Proofs.YtamglanahpcedaaGreatDoor
open Go.RowKit

def adfs : List UInt8 := [97, 100, 102, 115]

theorem idx_adfs (c : UInt8) : ∀ m : Nat, m ≤ 4 → Lib.indexByte (adfs.drop m) c = if (m : Int) ≤ Mb.rankOf c then Mb.rankOf c - m else -1 := by
  intro m hm
  have hm' : m = 0 ∨ m = 1 ∨ m = 2 ∨ m = 3 ∨ m = 4 := by omega
  by_cases h1 : c = 97
  · subst h1; rcases hm' with rfl | rfl | rfl | rfl | rfl <;> decide
  · by_cases h2 : c = 100
    · subst h2; rcases hm' with rfl | rfl | rfl | rfl | rfl <;> decide
    · by_cases h3 : c = 102
      · subst h3; rcases hm' with rfl | rfl | rfl | rfl | rfl <;> decide
      · by_cases h4 : c = 115
        · subst h4; rcases hm' with rfl | rfl | rfl | rfl | rfl <;> decide
        · have hr : Mb.rankOf c = -1 := by unfold Mb.rankOf; rw [if_neg h1, if_neg h2, if_neg h3, if_neg h4]
          rw [hr, if_neg (by omega)]
          have g1 : ¬ (97 : UInt8) = c := fun e => h1 e.symm
          have g2 : ¬ (100 : UInt8) = c := fun e => h2 e.symm
          have g3 : ¬ (102 : UInt8) = c := fun e => h3 e.symm
          have g4 : ¬ (115 : UInt8) = c := fun e => h4 e.symm
          rcases hm' with rfl | rfl | rfl | rfl | rfl <;> simp [adfs, Lib.indexByte, g1, g2, g3, g4]

theorem byte_back (c : UInt8) : ((c.toNat : Int)).toNat.toUInt8 = c := by
  rw [Int.toNat_natCast]; exact UInt8.toNat_inj.1 (by simp)

theorem drop_cons (s : ByteArray) (k : Nat) (h : k < s.size) : s.data.toList.drop k = s[k] :: s.data.toList.drop (k + 1) := by
  rw [List.drop_eq_getElem_cons (by simpa using h)]; rfl

theorem ret_bool {a b : Bool} (h : a = b) : Ending.returned (.bool a) = .returned (.bool b) := by rw [h]

/-- flags.Right -/
theorem fright_any (s : ByteArray) (w : World) (hs : s.size ≤ maxLen) :
    Calls Tryz.prog 130 #[.string s] w fun e w' => e = .returned (.bool (Mb.flagsOk s.data.toList)) ∧ w' = w := by
  unfold maxLen at hs
  go_enter Tryz.func130, Tryz.ntmps130
  go_wp2
  go_loop [3, 8] (fun t i => ∃ (k m : Nat) (r : ByteArray), k ≤ s.size ∧ m ≤ 4 ∧ i = .int .i64 k ∧ t = .string r ∧ r.data.toList = adfs.drop m ∧ Hid (Mb.flagsOk s.data.toList = Mb.flagsFrom ((m : Int) - 1) (s.data.toList.drop k))) (fun _ i => s.size - (intOf i).toNat)
  case atStart => exact ⟨0, 0, ⟨#[97, 100, 102, 115]⟩, Nat.zero_le _, by omega, rfl, rfl, rfl, rfl⟩
  case round =>
    obtain ⟨k, m, r, hk, hm, rfl, rfl, hr, HF⟩ := hrel
    have Hr : Hid (r.data.toList = adfs.drop m) := hr
    have hrl : r.size = 4 - m := by rw [Lib.size_eq, hr]; simp [adfs]
    have hrs : r.size ≤ 4 := by omega
    have Hrl : Hid (r.size = 4 - m) := hrl
    by_cases hlt : k < s.size
    · have c1 := Tryz.strings_IndexByte r (s[k].toNat : Int) w
      rw [byte_back, hr, idx_adfs s[k] m hm] at c1
      have hdr := drop_cons s k hlt
      by_cases hp : (m : Int) ≤ Mb.rankOf s[k]
      · rw [if_pos hp] at c1
        obtain ⟨q, hq⟩ : ∃ q : Nat, Mb.rankOf s[k] - m = q := ⟨(Mb.rankOf s[k] - m).toNat, by omega⟩
        rw [hq] at c1
        have hr3 := Mb.rankOf_le s[k]
        have hq4 : q < r.size := by omega
        have HF2 : Hid (Mb.flagsOk s.data.toList = Mb.flagsFrom (((m + q + 1 : Nat) : Int) - 1) (s.data.toList.drop (k + 1))) := by
          unfold Hid
          rw [HF.out, hdr, Mb.flagsFrom]
          have : (((m + q + 1 : Nat) : Int) - 1) = Mb.rankOf s[k] := by omega
          rw [this]
          have h2 : decide ((m : Int) - 1 < Mb.rankOf s[k]) = true := by rw [decide_eq_true_eq]; omega
          rw [h2, Bool.true_and]
        have hr2 : Hid ((r.extract (q + 1) r.size).data.toList = adfs.drop (m + q + 1)) := by
          unfold Hid
          rw [Lib.extract_to_end, hr, List.drop_drop, Nat.add_assoc]
        have hm2 : m + q + 1 ≤ 4 := by omega
        clear hdr hr hrl HF hp hq hr3
        go_wp2_with (go_at_call 156; refine c1.mono ?_; rintro e w' ⟨rfl, rfl⟩)
        go_round
        case rel => exact ⟨k + 1, m + q + 1, _, by omega, hm2, by go_num, rfl, hr2.out, HF2⟩
        case measure => simp [intOf]; omega
      · rw [if_neg hp] at c1
        have HF2 : Hid (Mb.flagsOk s.data.toList = false) := by
          unfold Hid
          rw [HF.out, hdr, Mb.flagsFrom]
          have h2 : decide ((m : Int) - 1 < Mb.rankOf s[k]) = false := by rw [decide_eq_false_iff_not]; omega
          rw [h2, Bool.false_and]
        clear hdr hr hrl HF hp
        go_wp2_with (go_at_call 156; refine c1.mono ?_; rintro e w' ⟨rfl, rfl⟩)
        go_ret
        exact ⟨ret_bool HF2.out.symm, rfl⟩
    · have HF2 : Hid (Mb.flagsOk s.data.toList = true) := by
        unfold Hid
        rw [HF.out, List.drop_of_length_le (by simp; omega)]; rfl
      clear hr hrl
      go_wp2
      go_ret
      exact ⟨ret_bool HF2.out.symm, rfl⟩

end Go.Proofs.YtamglanahpcedaaGreatDoor
