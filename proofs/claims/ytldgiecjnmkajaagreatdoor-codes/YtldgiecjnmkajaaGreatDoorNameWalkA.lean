/-
  OWN TEXT: strconv.ParseInt at base 16 and 32 bits.
-/
import Derived.Test.YtldgiecjnmkajaaGreatDoorChecked
import Derived.Test.YtldgiecjnmkajaaGreatDoorShelf
import Derived.Test.YtldgiecjnmkajaaGreatDoorEnv
import Derived.Test.YtldgiecjnmkajaaGreatDoorNameMath
import Derived.Lib.Strings
import Derived.Lib.Walk
import Derived.Lib.ConvBytes
import Derived.Lib.AtoiAllMem
import Derived.Lib.Hide
import Derived.Lib.IfaceNeq
import Derived.Laws.Strings3
import Derived.Laws.Closers25
import Derived.Laws.Closers25b
import Derived.WalkKit
import Derived.BigCall
import Derived.BigGuard
namespace Go.Proofs.YtldgiecjnmkajaaGreatDoor
open Go.RowKit

theorem lower_key : ∀ c : Fin 256, bits .or .u8 (c.val : Int) 32 = if c.val / 32 % 2 = 1 then (c.val : Int) else c.val + 32 := by decide +kernel

theorem lower_is (c : UInt8) : bits .or .u8 (c.toNat : Int) 32 = if c.toNat / 32 % 2 = 1 then (c.toNat : Int) else c.toNat + 32 := lower_key ⟨c.toNat, c.toNat_lt⟩

theorem pu16_none (acc : Nat) (c : UInt8) (r : List UInt8) (h : Mb.dig16 c = none) : Mb.pu16 acc (c :: r) = none := by simp [Mb.pu16, h]
theorem pu16_big (acc d : Nat) (c : UInt8) (r : List UInt8) (h : Mb.dig16 c = some d) (hb : 4294967295 < acc * 16 + d) : Mb.pu16 acc (c :: r) = none := by simp [Mb.pu16, h, hb]
theorem pu16_go (acc d : Nat) (c : UInt8) (r : List UInt8) (h : Mb.dig16 c = some d) (hb : acc * 16 + d ≤ 4294967295) : Mb.pu16 acc (c :: r) = Mb.pu16 (acc * 16 + d) r := by
  have : ¬ 4294967295 < acc * 16 + d := by omega
  simp [Mb.pu16, h, this]

/-- what a digit's sign is -/
theorem dig_cases (c : UInt8) : (48 ≤ c.toNat ∧ c.toNat ≤ 57 ∧ Mb.dig16 c = some (c.toNat - 48)) ∨
    (∃ x : Int, bits .or .u8 (c.toNat : Int) 32 = x ∧ 97 ≤ x ∧ x ≤ 102 ∧ Mb.dig16 c = some (x - 87).toNat ∧ (c.toNat < 48 ∨ 57 < c.toNat) ∧ c.toNat ≠ 95) ∨
    (∃ x : Int, bits .or .u8 (c.toNat : Int) 32 = x ∧ (x < 97 ∨ 102 < x) ∧ 0 ≤ x ∧ x < 256 ∧ Mb.dig16 c = none ∧ (c.toNat < 48 ∨ 57 < c.toNat)) := by
  have hl := lower_is c
  have h256 := c.toNat_lt
  by_cases h1 : 48 ≤ c.toNat ∧ c.toNat ≤ 57
  · exact Or.inl ⟨h1.1, h1.2, by unfold Mb.dig16; rw [if_pos h1]⟩
  · right
    by_cases h2 : 97 ≤ c.toNat ∧ c.toNat ≤ 102
    · left
      rw [if_pos (by omega)] at hl
      exact ⟨_, hl, by omega, by omega, by unfold Mb.dig16; rw [if_neg h1, if_pos h2]; congr 1; omega, by omega, by omega⟩
    · by_cases h3 : 65 ≤ c.toNat ∧ c.toNat ≤ 70
      · left
        rw [if_neg (by omega)] at hl
        exact ⟨_, hl, by omega, by omega, by unfold Mb.dig16; rw [if_neg h1, if_neg h2, if_pos h3]; congr 1; omega, by omega, by omega⟩
      · right
        have hd : Mb.dig16 c = none := by unfold Mb.dig16; rw [if_neg h1, if_neg h2, if_neg h3]
        split at hl
        · exact ⟨_, hl, by omega, by omega, by omega, hd, by omega⟩
        · exact ⟨_, hl, by omega, by omega, by omega, hd, by omega⟩

/-- what internal/strconv.ParseUint(.., 16, 32) gives -/
def PuOut (l : List UInt8) (v : Value) : Prop :=
  (∃ u : Nat, u ≤ 4294967295 ∧ Mb.pu16 0 l = some u ∧ v = .tuple #[.int .u64 u, .nilIface]) ∨
  (Mb.pu16 0 l = none ∧ (v = .tuple #[.int .u64 0, .iface 486 (.int .i64 2)] ∨ v = .tuple #[.int .u64 4294967295, .iface 486 (.int .i64 1)]))

set_option maxHeartbeats 32000000 in
set_option maxRecDepth 100000 in
theorem parseUint_any (t : ByteArray) (hne : t.size ≠ 0) (hmax : t.size ≤ 9223372036854775806) (w : World) :
    Calls Tryz.prog 418 #[.string t, .int .i64 16, .int .i64 32] w fun e w' => (∃ v, e = .returned v ∧ PuOut t.data.toList v) ∧ w' = Lib.bytesWorld w 5 t := by
  have hemp : t.toList.isEmpty = false := by
    rw [← decide_eq_emptyBytes]
    exact decide_eq_false (fun h => hne (by rw [h]; rfl))
  have hcv := Lib.run_convert_string_bytes (P := Tryz.prog) w 9 181 5 t (u := .string) Tryz.underlying9 Tryz.underlying181 Tryz.underlying5
  have hB : ∀ j, j < t.size → (Lib.bytesWorld w 5 t).cell? ⟨w.heap.size, j, none⟩ = some (.int .u8 (t.data.toList.getD j 0).toNat) := fun j hj => Lib.bytesWorld_cell w 5 t j hj
  obtain ⟨W1, hW1⟩ : ∃ W1, W1 = Lib.bytesWorld w 5 t := ⟨_, rfl⟩
  rw [← hW1] at hcv hB ⊢
  clear hW1
  obtain ⟨bs, hL⟩ : ∃ bs, bs = t.data.toList := ⟨_, rfl⟩
  have hLn : bs.length = t.size := by rw [hL, Lib.size_eq]
  rw [← hL] at hB ⊢
  clear hL
  have hmv : IntKind.u64.wrap (IntKind.u64.wrap 4294967296 - 1) = 4294967295 := by
    rw [IntKind.wrap_u64, IntKind.wrap_u64]
    decide
  go_enter Tryz.func418, Tryz.ntmps418
  go_wp2
  go_loop [12, 13, 101] (fun vu vn vi => ∃ (k acc : Nat) (a : Int), vu = .bool false ∧ vn = .int .u64 a ∧ vi = .int .i64 k ∧ k ≤ t.size ∧ Hid (a = (acc : Int) ∧ acc ≤ 4294967295 ∧ Mb.pu16 0 bs = Mb.pu16 acc (bs.drop k)))
    (fun _ _ vi => t.size - (intOf vi).toNat)
  case atStart => exact ⟨0, 0, 0, rfl, rfl, rfl, by omega, rfl, by omega, rfl⟩
  case round =>
    obtain ⟨k, acc, a, rfl, rfl, rfl, hk, hh⟩ := hrel
    obtain ⟨ha, hacc, hdec⟩ := hh.out
    clear hh
    have a0 : 0 ≤ a := by omega
    have a1 : a ≤ 4294967295 := by omega
    by_cases hkn : k < t.size
    · have hc := hB k hkn
      have hdrop : bs.drop k = bs[k]'(by omega) :: bs.drop (k + 1) := List.drop_eq_getElem_cons (by omega)
      have hget : bs.getD k 0 = bs[k]'(by omega) := by simp [List.getD, List.getElem?_eq_getElem (show k < bs.length by omega)]
      rw [hdrop] at hdec
      rw [hget] at hc
      generalize bs[k]'(by omega) = c at hc hdec
      have hc256 : c.toNat < 256 := c.toNat_lt
      clear hB hdrop hget
      rcases dig_cases c with ⟨hd0, hd1, hdg⟩ | ⟨x, hx, hx0, hx1, hdg, hno, h95⟩ | ⟨x, hx, hxo, hx0, hx1, hdg, hno⟩
      · by_cases hov : 4294967295 < acc * 16 + (c.toNat - 48)
        · have HN : Hid (Mb.pu16 0 bs = none) := Lib.hid (hdec.trans (pu16_big _ _ _ _ hdg hov))
          have iov : 4294967295 < a * 16 + ((c.toNat : Int) - 48) := by omega
          clear hacc hov hdec hdg ha
          go_wp2
          go_ret2
          exact ⟨⟨_, rfl, Or.inr ⟨HN.out, Or.inr rfl⟩⟩, rfl⟩
        · have HN : Hid (a * 16 + ((c.toNat : Int) - 48) = ((acc * 16 + (c.toNat - 48) : Nat) : Int) ∧ acc * 16 + (c.toNat - 48) ≤ 4294967295 ∧ Mb.pu16 0 bs = Mb.pu16 (acc * 16 + (c.toNat - 48)) (bs.drop (k + 1))) := Lib.hid ⟨by omega, by omega, hdec.trans (pu16_go _ _ _ _ hdg (by omega))⟩
          have iov : a * 16 + ((c.toNat : Int) - 48) ≤ 4294967295 := by omega
          clear hacc hov hdec hdg ha
          go_wp2
          refine ⟨⟨k + 1, acc * 16 + (c.toNat - 48), a * 16 + ((c.toNat : Int) - 48), rfl, (by first | rfl | (congr 1; omega)), (by first | rfl | (congr 1; omega)), by omega, HN⟩, by simp [intOf]; omega⟩
      · have hlow : ∀ W, Calls Tryz.prog 441 #[.int .u8 c.toNat] W fun e w' => e = .returned (.int .u8 x) ∧ w' = W := fun W => by rw [← hx]; exact Tryz.internal_strconv_lower _ W
        by_cases hov : 4294967295 < acc * 16 + (x - 87).toNat
        · have HN : Hid (Mb.pu16 0 bs = none) := Lib.hid (hdec.trans (pu16_big _ _ _ _ hdg hov))
          have iov : 4294967295 < a * 16 + (x - 87) := by omega
          clear hacc hov hdec hdg ha hx
          rcases hno with hno | hno
          all_goals go_wp2_with (go_at_call 441; refine (hlow _).mono ?_; rintro e w' ⟨rfl, rfl⟩)
          all_goals go_ret2
          all_goals exact ⟨⟨_, rfl, Or.inr ⟨HN.out, Or.inr rfl⟩⟩, rfl⟩
        · have HN : Hid (a * 16 + (x - 87) = ((acc * 16 + (x - 87).toNat : Nat) : Int) ∧ acc * 16 + (x - 87).toNat ≤ 4294967295 ∧ Mb.pu16 0 bs = Mb.pu16 (acc * 16 + (x - 87).toNat) (bs.drop (k + 1))) := Lib.hid ⟨by omega, by omega, hdec.trans (pu16_go _ _ _ _ hdg (by omega))⟩
          have iov : a * 16 + (x - 87) ≤ 4294967295 := by omega
          clear hacc hov hdec hdg ha hx
          rcases hno with hno | hno
          all_goals go_wp2_with (go_at_call 441; refine (hlow _).mono ?_; rintro e w' ⟨rfl, rfl⟩)
          all_goals refine ⟨⟨k + 1, acc * 16 + (x - 87).toNat, a * 16 + (x - 87), rfl, (by first | rfl | (congr 1; omega)), (by first | rfl | (congr 1; omega)), by omega, HN⟩, by simp [intOf]; omega⟩
      · have hlow : ∀ W, Calls Tryz.prog 441 #[.int .u8 c.toNat] W fun e w' => e = .returned (.int .u8 x) ∧ w' = W := fun W => by rw [← hx]; exact Tryz.internal_strconv_lower _ W
        have HN : Hid (Mb.pu16 0 bs = none) := Lib.hid (hdec.trans (pu16_none _ _ _ hdg))
        have hg : ∀ i : Int, i = (c.toNat : Int) → ∀ W, Calls Tryz.prog 441 #[.int .u8 i] W fun e w' => e = .returned (.int .u8 x) ∧ w' = W := fun i hi W => by rw [hi]; exact hlow W
        clear hacc hdec hdg ha hx
        rcases hno with hno | hno <;> rcases hxo with hxo | hxo
        all_goals go_wp2_with (go_at_call 441; refine (hg _ (by omega) _).mono ?_; rintro e w' ⟨rfl, rfl⟩)
        all_goals go_ret2
        all_goals exact ⟨⟨_, rfl, Or.inr ⟨HN.out, Or.inl rfl⟩⟩, rfl⟩
    · have hkk : k = t.size := by omega
      subst hkk
      have hF : Mb.pu16 acc (bs.drop t.size) = some acc := by rw [List.drop_eq_nil_of_le (by omega)]; rfl
      rw [hF] at hdec
      have HN : Hid (Mb.pu16 0 bs = some acc) := Lib.hid hdec
      subst ha
      clear hF a0 a1 hdec
      go_wp2
      go_ret2
      exact ⟨⟨_, rfl, Or.inl ⟨acc, hacc, HN.out, rfl⟩⟩, rfl⟩

end Go.Proofs.YtldgiecjnmkajaaGreatDoor
