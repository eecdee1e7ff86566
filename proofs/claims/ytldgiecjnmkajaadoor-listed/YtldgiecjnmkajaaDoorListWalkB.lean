/-
  OWN TEXT: flags.Right, lists.hasKey.
-/
import Derived.Test.YtldgiecjnmkajaaDoorListWalkA
namespace Go.Proofs.YtldgiecjnmkajaaDoor
open Go.RowKit

def adfs : List UInt8 := [97, 100, 102, 115]

theorem idx_adfs (c : UInt8) : ∀ m : Nat, m ≤ 4 → Lib.indexByte (adfs.drop m) c = if (m : Int) ≤ Mb.rankOf c then Mb.rankOf c - m else -1 := by
  intro m hm
  have hm' : m = 0 ∨ m = 1 ∨ m = 2 ∨ m = 3 ∨ m = 4 := by omega
  by_cases h1 : c = 97
  · subst h1; rcases hm' with rfl | rfl | rfl | rfl | rfl <;> decide
  · by_cases h2 : c = 100
    · subst h2; rcases hm' with rfl | rfl | rfl | rfl | rfl <;> decide
    · by_cases h3 : c = 102
      · subst h3; rcases hm' with rfl | rfl | rfl | rfl | rfl <;> decide
      · by_cases h4 : c = 115
        · subst h4; rcases hm' with rfl | rfl | rfl | rfl | rfl <;> decide
        · have hr : Mb.rankOf c = -1 := by unfold Mb.rankOf; rw [if_neg h1, if_neg h2, if_neg h3, if_neg h4]
          rw [hr, if_neg (by omega)]
          have g1 : ¬ (97 : UInt8) = c := fun e => h1 e.symm
          have g2 : ¬ (100 : UInt8) = c := fun e => h2 e.symm
          have g3 : ¬ (102 : UInt8) = c := fun e => h3 e.symm
          have g4 : ¬ (115 : UInt8) = c := fun e => h4 e.symm
          rcases hm' with rfl | rfl | rfl | rfl | rfl <;> simp [adfs, Lib.indexByte, g1, g2, g3, g4]

theorem byte_back (c : UInt8) : ((c.toNat : Int)).toNat.toUInt8 = c := by
  rw [Int.toNat_natCast]; exact UInt8.toNat_inj.1 (by simp)

theorem drop_cons (s : ByteArray) (k : Nat) (h : k < s.size) : s.data.toList.drop k = s[k] :: s.data.toList.drop (k + 1) := by
  rw [List.drop_eq_getElem_cons (by simpa using h)]; rfl

theorem ret_bool {a b : Bool} (h : a = b) : Ending.returned (.bool a) = .returned (.bool b) := by rw [h]

/-- flags.Right -/
theorem fright_any (s : ByteArray) (w : World) (hs : s.size ≤ maxLen) :
    Calls Tryd.prog 35 #[.string s] w fun e w' => e = .returned (.bool (Mb.flagsOk s.data.toList)) ∧ w' = w := by
  unfold maxLen at hs
  go_enter Tryd.func35, Tryd.ntmps35
  go_wp2
  go_loop [3, 8] (fun t i => ∃ (k m : Nat) (r : ByteArray), k ≤ s.size ∧ m ≤ 4 ∧ i = .int .i64 k ∧ t = .string r ∧ r.data.toList = adfs.drop m ∧ Hid (Mb.flagsOk s.data.toList = Mb.flagsFrom ((m : Int) - 1) (s.data.toList.drop k))) (fun _ i => s.size - (intOf i).toNat)
  case atStart => exact ⟨0, 0, ⟨#[97, 100, 102, 115]⟩, Nat.zero_le _, by omega, rfl, rfl, rfl, rfl⟩
  case round =>
    obtain ⟨k, m, r, hk, hm, rfl, rfl, hr, HF⟩ := hrel
    have Hr : Hid (r.data.toList = adfs.drop m) := hr
    have hrl : r.size = 4 - m := by rw [Lib.size_eq, hr]; simp [adfs]
    have hrs : r.size ≤ 4 := by omega
    have Hrl : Hid (r.size = 4 - m) := hrl
    by_cases hlt : k < s.size
    · have c1 := Tryd.strings_IndexByte r (s[k].toNat : Int) w
      rw [byte_back, hr, idx_adfs s[k] m hm] at c1
      have hdr := drop_cons s k hlt
      by_cases hp : (m : Int) ≤ Mb.rankOf s[k]
      · rw [if_pos hp] at c1
        obtain ⟨q, hq⟩ : ∃ q : Nat, Mb.rankOf s[k] - m = q := ⟨(Mb.rankOf s[k] - m).toNat, by omega⟩
        rw [hq] at c1
        have hr3 := Mb.rankOf_le s[k]
        have hq4 : q < r.size := by omega
        have HF2 : Hid (Mb.flagsOk s.data.toList = Mb.flagsFrom (((m + q + 1 : Nat) : Int) - 1) (s.data.toList.drop (k + 1))) := by
          unfold Hid
          rw [HF.out, hdr, Mb.flagsFrom]
          have : (((m + q + 1 : Nat) : Int) - 1) = Mb.rankOf s[k] := by omega
          rw [this]
          have h2 : decide ((m : Int) - 1 < Mb.rankOf s[k]) = true := by rw [decide_eq_true_eq]; omega
          rw [h2, Bool.true_and]
        have hr2 : Hid ((r.extract (q + 1) r.size).data.toList = adfs.drop (m + q + 1)) := by
          unfold Hid
          rw [Lib.extract_to_end, hr, List.drop_drop, Nat.add_assoc]
        have hm2 : m + q + 1 ≤ 4 := by omega
        clear hdr hr hrl HF hp hq hr3
        go_wp2_with (go_at_call 44; refine c1.mono ?_; rintro e w' ⟨rfl, rfl⟩)
        go_round
        case rel => exact ⟨k + 1, m + q + 1, _, by omega, hm2, by go_num, rfl, hr2.out, HF2⟩
        case measure => simp [intOf]; omega
      · rw [if_neg hp] at c1
        have HF2 : Hid (Mb.flagsOk s.data.toList = false) := by
          unfold Hid
          rw [HF.out, hdr, Mb.flagsFrom]
          have h2 : decide ((m : Int) - 1 < Mb.rankOf s[k]) = false := by rw [decide_eq_false_iff_not]; omega
          rw [h2, Bool.false_and]
        clear hdr hr hrl HF hp
        go_wp2_with (go_at_call 44; refine c1.mono ?_; rintro e w' ⟨rfl, rfl⟩)
        go_ret
        exact ⟨ret_bool HF2.out.symm, rfl⟩
    · have HF2 : Hid (Mb.flagsOk s.data.toList = true) := by
        unfold Hid
        rw [HF.out, List.drop_of_length_le (by simp; omega)]; rfl
      clear hr hrl
      go_wp2
      go_ret
      exact ⟨ret_bool HF2.out.symm, rfl⟩

end Go.Proofs.YtldgiecjnmkajaaDoor
