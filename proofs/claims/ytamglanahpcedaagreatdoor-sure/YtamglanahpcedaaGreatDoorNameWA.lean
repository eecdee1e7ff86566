/-
  OWN TEXT: strconv.ParseInt at base 16 and 32 bits.
  OWN TEXT: strconv.ParseInt at base 16 and 32 bits: the sign, and the error in new memory.
-/
import Derived.Test.YtamglanahpcedaaGreatDoorChecked
import Derived.Test.YtamglanahpcedaaGreatDoorShelf
import Derived.Test.YtamglanahpcedaaGreatDoorEnv
import Derived.Test.YtamglanahpcedaaGreatDoorNameMath
import Derived.Lib.Strings
import Derived.Lib.Walk
import Derived.Lib.ConvBytes
import Derived.Lib.AtoiAllMem
import Derived.Lib.Hide
import Derived.Lib.IfaceNeq
import Derived.Laws.Strings3
import Derived.Laws.Closers25
import Derived.Laws.Closers25b
import Derived.WalkKit
import Derived.BigCall
import Derived.BigGuard
namespace Go.Proofs.YtamglanahpcedaaGreatDoor
open Go.RowKit

theorem lower_key : ∀ c : Fin 256, bits .or .u8 (c.val : Int) 32 = if c.val / 32 % 2 = 1 then (c.val : Int) else c.val + 32 := by decide +kernel

theorem lower_is (c : UInt8) : bits .or .u8 (c.toNat : Int) 32 = if c.toNat / 32 % 2 = 1 then (c.toNat : Int) else c.toNat + 32 := lower_key ⟨c.toNat, c.toNat_lt⟩

theorem pu16_none (acc : Nat) (c : UInt8) (r : List UInt8) (h : Mb.dig16 c = none) : Mb.pu16 acc (c :: r) = none := by simp [Mb.pu16, h]
theorem pu16_big (acc d : Nat) (c : UInt8) (r : List UInt8) (h : Mb.dig16 c = some d) (hb : 4294967295 < acc * 16 + d) : Mb.pu16 acc (c :: r) = none := by simp [Mb.pu16, h, hb]
theorem pu16_go (acc d : Nat) (c : UInt8) (r : List UInt8) (h : Mb.dig16 c = some d) (hb : acc * 16 + d ≤ 4294967295) : Mb.pu16 acc (c :: r) = Mb.pu16 (acc * 16 + d) r := by
  have : ¬ 4294967295 < acc * 16 + d := by omega
  simp [Mb.pu16, h, this]

/-- what a digit's sign is -/
theorem dig_cases (c : UInt8) : (48 ≤ c.toNat ∧ c.toNat ≤ 57 ∧ Mb.dig16 c = some (c.toNat - 48)) ∨
    (∃ x : Int, bits .or .u8 (c.toNat : Int) 32 = x ∧ 97 ≤ x ∧ x ≤ 102 ∧ Mb.dig16 c = some (x - 87).toNat ∧ (c.toNat < 48 ∨ 57 < c.toNat) ∧ c.toNat ≠ 95) ∨
    (∃ x : Int, bits .or .u8 (c.toNat : Int) 32 = x ∧ (x < 97 ∨ 102 < x) ∧ 0 ≤ x ∧ x < 256 ∧ Mb.dig16 c = none ∧ (c.toNat < 48 ∨ 57 < c.toNat)) := by
  have hl := lower_is c
  have h256 := c.toNat_lt
  by_cases h1 : 48 ≤ c.toNat ∧ c.toNat ≤ 57
  · exact Or.inl ⟨h1.1, h1.2, by unfold Mb.dig16; rw [if_pos h1]⟩
  · right
    by_cases h2 : 97 ≤ c.toNat ∧ c.toNat ≤ 102
    · left
      rw [if_pos (by omega)] at hl
      exact ⟨_, hl, by omega, by omega, by unfold Mb.dig16; rw [if_neg h1, if_pos h2]; congr 1; omega, by omega, by omega⟩
    · by_cases h3 : 65 ≤ c.toNat ∧ c.toNat ≤ 70
      · left
        rw [if_neg (by omega)] at hl
        exact ⟨_, hl, by omega, by omega, by unfold Mb.dig16; rw [if_neg h1, if_neg h2, if_pos h3]; congr 1; omega, by omega, by omega⟩
      · right
        have hd : Mb.dig16 c = none := by unfold Mb.dig16; rw [if_neg h1, if_neg h2, if_neg h3]
        split at hl
        · exact ⟨_, hl, by omega, by omega, by omega, hd, by omega⟩
        · exact ⟨_, hl, by omega, by omega, by omega, hd, by omega⟩

/-- what internal/strconv.ParseUint(.., 16, 32) gives -/
def PuOut (l : List UInt8) (v : Value) : Prop :=
  (∃ u : Nat, u ≤ 4294967295 ∧ Mb.pu16 0 l = some u ∧ v = .tuple #[.int .u64 u, .nilIface]) ∨
  (Mb.pu16 0 l = none ∧ (v = .tuple #[.int .u64 0, .iface 262 (.int .i64 2)] ∨ v = .tuple #[.int .u64 4294967295, .iface 262 (.int .i64 1)]))

set_option maxHeartbeats 32000000 in
set_option maxRecDepth 100000 in
theorem parseUint_any (t : ByteArray) (hne : t.size ≠ 0) (hmax : t.size ≤ 9223372036854775806) (w : World) :
    Calls Tryz.prog 201 #[.string t, .int .i64 16, .int .i64 32] w fun e w' => (∃ v, e = .returned v ∧ PuOut t.data.toList v) ∧ w' = Lib.bytesWorld w 5 t := by
  have hemp : t.toList.isEmpty = false := by
    rw [← decide_eq_emptyBytes]
    exact decide_eq_false (fun h => hne (by rw [h]; rfl))
  have hcv := Lib.run_convert_string_bytes (P := Tryz.prog) w 9 103 5 t (u := .string) Tryz.underlying9 Tryz.underlying103 Tryz.underlying5
  have hB : ∀ j, j < t.size → (Lib.bytesWorld w 5 t).cell? ⟨w.heap.size, j, none⟩ = some (.int .u8 (t.data.toList.getD j 0).toNat) := fun j hj => Lib.bytesWorld_cell w 5 t j hj
  obtain ⟨W1, hW1⟩ : ∃ W1, W1 = Lib.bytesWorld w 5 t := ⟨_, rfl⟩
  rw [← hW1] at hcv hB ⊢
  clear hW1
  obtain ⟨bs, hL⟩ : ∃ bs, bs = t.data.toList := ⟨_, rfl⟩
  have hLn : bs.length = t.size := by rw [hL, Lib.size_eq]
  rw [← hL] at hB ⊢
  clear hL
  have hmv : IntKind.u64.wrap (IntKind.u64.wrap 4294967296 - 1) = 4294967295 := by
    rw [IntKind.wrap_u64, IntKind.wrap_u64]
    decide
  go_enter Tryz.func201, Tryz.ntmps201
  go_wp2
  go_loop [12, 13, 101] (fun vu vn vi => ∃ (k acc : Nat) (a : Int), vu = .bool false ∧ vn = .int .u64 a ∧ vi = .int .i64 k ∧ k ≤ t.size ∧ Hid (a = (acc : Int) ∧ acc ≤ 4294967295 ∧ Mb.pu16 0 bs = Mb.pu16 acc (bs.drop k)))
    (fun _ _ vi => t.size - (intOf vi).toNat)
  case atStart => exact ⟨0, 0, 0, rfl, rfl, rfl, by omega, rfl, by omega, rfl⟩
  case round =>
    obtain ⟨k, acc, a, rfl, rfl, rfl, hk, hh⟩ := hrel
    obtain ⟨ha, hacc, hdec⟩ := hh.out
    clear hh
    have a0 : 0 ≤ a := by omega
    have a1 : a ≤ 4294967295 := by omega
    by_cases hkn : k < t.size
    · have hc := hB k hkn
      have hdrop : bs.drop k = bs[k]'(by omega) :: bs.drop (k + 1) := List.drop_eq_getElem_cons (by omega)
      have hget : bs.getD k 0 = bs[k]'(by omega) := by simp [List.getD, List.getElem?_eq_getElem (show k < bs.length by omega)]
      rw [hdrop] at hdec
      rw [hget] at hc
      generalize bs[k]'(by omega) = c at hc hdec
      have hc256 : c.toNat < 256 := c.toNat_lt
      clear hB hdrop hget
      rcases dig_cases c with ⟨hd0, hd1, hdg⟩ | ⟨x, hx, hx0, hx1, hdg, hno, h95⟩ | ⟨x, hx, hxo, hx0, hx1, hdg, hno⟩
      · by_cases hov : 4294967295 < acc * 16 + (c.toNat - 48)
        · have HN : Hid (Mb.pu16 0 bs = none) := Lib.hid (hdec.trans (pu16_big _ _ _ _ hdg hov))
          have iov : 4294967295 < a * 16 + ((c.toNat : Int) - 48) := by omega
          clear hacc hov hdec hdg ha
          go_wp2
          go_ret2
          exact ⟨⟨_, rfl, Or.inr ⟨HN.out, Or.inr rfl⟩⟩, rfl⟩
        · have HN : Hid (a * 16 + ((c.toNat : Int) - 48) = ((acc * 16 + (c.toNat - 48) : Nat) : Int) ∧ acc * 16 + (c.toNat - 48) ≤ 4294967295 ∧ Mb.pu16 0 bs = Mb.pu16 (acc * 16 + (c.toNat - 48)) (bs.drop (k + 1))) := Lib.hid ⟨by omega, by omega, hdec.trans (pu16_go _ _ _ _ hdg (by omega))⟩
          have iov : a * 16 + ((c.toNat : Int) - 48) ≤ 4294967295 := by omega
          clear hacc hov hdec hdg ha
          go_wp2
          refine ⟨⟨k + 1, acc * 16 + (c.toNat - 48), a * 16 + ((c.toNat : Int) - 48), rfl, (by first | rfl | (congr 1; omega)), (by first | rfl | (congr 1; omega)), by omega, HN⟩, by simp [intOf]; omega⟩
      · have hlow : ∀ W, Calls Tryz.prog 209 #[.int .u8 c.toNat] W fun e w' => e = .returned (.int .u8 x) ∧ w' = W := fun W => by rw [← hx]; exact Tryz.internal_strconv_lower _ W
        by_cases hov : 4294967295 < acc * 16 + (x - 87).toNat
        · have HN : Hid (Mb.pu16 0 bs = none) := Lib.hid (hdec.trans (pu16_big _ _ _ _ hdg hov))
          have iov : 4294967295 < a * 16 + (x - 87) := by omega
          clear hacc hov hdec hdg ha hx
          rcases hno with hno | hno
          all_goals go_wp2_with (go_at_call 209; refine (hlow _).mono ?_; rintro e w' ⟨rfl, rfl⟩)
          all_goals go_ret2
          all_goals exact ⟨⟨_, rfl, Or.inr ⟨HN.out, Or.inr rfl⟩⟩, rfl⟩
        · have HN : Hid (a * 16 + (x - 87) = ((acc * 16 + (x - 87).toNat : Nat) : Int) ∧ acc * 16 + (x - 87).toNat ≤ 4294967295 ∧ Mb.pu16 0 bs = Mb.pu16 (acc * 16 + (x - 87).toNat) (bs.drop (k + 1))) := Lib.hid ⟨by omega, by omega, hdec.trans (pu16_go _ _ _ _ hdg (by omega))⟩
          have iov : a * 16 + (x - 87) ≤ 4294967295 := by omega
          clear hacc hov hdec hdg ha hx
          rcases hno with hno | hno
          all_goals go_wp2_with (go_at_call 209; refine (hlow _).mono ?_; rintro e w' ⟨rfl, rfl⟩)
          all_goals refine ⟨⟨k + 1, acc * 16 + (x - 87).toNat, a * 16 + (x - 87), rfl, (by first | rfl | (congr 1; omega)), (by first | rfl | (congr 1; omega)), by omega, HN⟩, by simp [intOf]; omega⟩
      · have hlow : ∀ W, Calls Tryz.prog 209 #[.int .u8 c.toNat] W fun e w' => e = .returned (.int .u8 x) ∧ w' = W := fun W => by rw [← hx]; exact Tryz.internal_strconv_lower _ W
        have HN : Hid (Mb.pu16 0 bs = none) := Lib.hid (hdec.trans (pu16_none _ _ _ hdg))
        have hg : ∀ i : Int, i = (c.toNat : Int) → ∀ W, Calls Tryz.prog 209 #[.int .u8 i] W fun e w' => e = .returned (.int .u8 x) ∧ w' = W := fun i hi W => by rw [hi]; exact hlow W
        clear hacc hdec hdg ha hx
        rcases hno with hno | hno <;> rcases hxo with hxo | hxo
        all_goals go_wp2_with (go_at_call 209; refine (hg _ (by omega) _).mono ?_; rintro e w' ⟨rfl, rfl⟩)
        all_goals go_ret2
        all_goals exact ⟨⟨_, rfl, Or.inr ⟨HN.out, Or.inl rfl⟩⟩, rfl⟩
    · have hkk : k = t.size := by omega
      subst hkk
      have hF : Mb.pu16 acc (bs.drop t.size) = some acc := by rw [List.drop_eq_nil_of_le (by omega)]; rfl
      rw [hF] at hdec
      have HN : Hid (Mb.pu16 0 bs = some acc) := Lib.hid hdec
      subst ha
      clear hF a0 a1 hdec
      go_wp2
      go_ret2
      exact ⟨⟨_, rfl, Or.inl ⟨acc, hacc, HN.out, rfl⟩⟩, rfl⟩

end Go.Proofs.YtamglanahpcedaaGreatDoor
namespace Go.Proofs.YtamglanahpcedaaGreatDoor
open Go.RowKit

theorem wrap_small {a : Int} (h0 : 0 ≤ a) (h1 : a ≤ 2147483648) : wrap64 (-wrap64 a) = -a := by
  unfold wrap64
  omega

/-- what ParseUint gives at any text -/
def PuO (l : List UInt8) (v : Value) : Prop :=
  (∃ u : Nat, u ≤ 4294967295 ∧ l ≠ [] ∧ Mb.pu16 0 l = some u ∧ v = .tuple #[.int .u64 u, .nilIface]) ∨
  ((l = [] ∨ Mb.pu16 0 l = none) ∧ (v = .tuple #[.int .u64 0, .iface 262 (.int .i64 2)] ∨ v = .tuple #[.int .u64 4294967295, .iface 262 (.int .i64 1)]))

set_option maxHeartbeats 4000000 in
set_option maxRecDepth 100000 in
theorem parseUint_nil (w : World) :
    Calls Tryz.prog 201 #[.string ⟨#[]⟩, .int .i64 16, .int .i64 32] w fun e w' => e = .returned (.tuple #[.int .u64 0, .iface 262 (.int .i64 2)]) ∧ w' = w := by
  go_enter Tryz.func201, Tryz.ntmps201
  go_wp2
  go_ret2
  exact ⟨rfl, rfl⟩

theorem parseUint_all (t : ByteArray) (hmax : t.size ≤ 9223372036854775806) (w : World) :
    Calls Tryz.prog 201 #[.string t, .int .i64 16, .int .i64 32] w fun e w' => (∃ v, e = .returned v ∧ PuO t.data.toList v) ∧ Below w.heap.size w w' := by
  by_cases hne : t.size = 0
  · have h0 : t.data.toList = [] := List.eq_nil_of_length_eq_zero (by rw [← Lib.size_eq]; exact hne)
    have hs : t = ⟨#[]⟩ := by
      apply ByteArray.ext; apply Array.ext'; simpa using h0
    subst hs
    exact (parseUint_nil w).mono fun e w' ⟨he, hw⟩ => ⟨⟨_, he, Or.inr ⟨Or.inl rfl, Or.inl rfl⟩⟩, by rw [hw]; exact Below.refl _ _⟩
  · refine (parseUint_any t hne hmax w).mono fun e w' ⟨⟨v, he, hv⟩, hw⟩ => ⟨⟨v, he, ?_⟩, by rw [hw]; exact Lib.bytesWorld_below _ _ _⟩
    rcases hv with ⟨u, h1, h2, h3⟩ | ⟨h1, h2⟩
    · refine Or.inl ⟨u, h1, ?_, h2, h3⟩
      intro h
      apply hne
      rw [Lib.size_eq, h]; rfl
    · exact Or.inr ⟨Or.inr h1, h2⟩

/-- what ParseInt gives at any text -/
def PiO (l : List UInt8) (v : Value) : Prop :=
  (∃ i : Int, -2147483648 ≤ i ∧ i ≤ 2147483647 ∧ Mb.pi16 l = some i ∧ v = .tuple #[.int .i64 i, .nilIface]) ∨
  (∃ i k : Int, Mb.pi16 l = none ∧ (k = 1 ∨ k = 2) ∧ v = .tuple #[.int .i64 i, .iface 262 (.int .i64 k)])

set_option maxHeartbeats 4000000 in
set_option maxRecDepth 100000 in
theorem parseInt_nil (w : World) :
    Calls Tryz.prog 182 #[.string ⟨#[]⟩, .int .i64 16, .int .i64 32] w fun e w' => e = .returned (.tuple #[.int .i64 0, .iface 262 (.int .i64 2)]) ∧ w' = w := by
  go_enter Tryz.func182, Tryz.ntmps182
  go_wp2
  go_ret2
  exact ⟨rfl, rfl⟩

theorem pi_pos {c : UInt8} {r l : List UInt8} {o : Option Int} (h45 : c ≠ 45) (hl : (if c = 43 then r else c :: r) = l) (h : (if l = [] then none else match Mb.pu16 0 l with
    | none => none
    | some u => if 2147483648 ≤ u then none else some (u : Int)) = o) : Mb.pi16 (c :: r) = o := by
  subst hl
  rw [← h]
  unfold Mb.pi16
  simp only
  rw [if_neg h45]
  by_cases h43 : c = 43
  · rw [if_pos h43, if_pos h43]
    by_cases hr : r = []
    · rw [if_pos hr, if_pos hr]
    · rw [if_neg hr, if_neg hr]
      cases Mb.pu16 0 r <;> rfl
  · rw [if_neg h43, if_neg h43, if_neg (by simp)]
    cases Mb.pu16 0 (c :: r) <;> rfl
theorem pi_neg {r : List UInt8} {o : Option Int} (h : (if r = [] then none else match Mb.pu16 0 r with
    | none => none
    | some u => if 2147483648 < u then none else some (-(u : Int))) = o) : Mb.pi16 (45 :: r) = o := by
  rw [← h]; unfold Mb.pi16
  simp only [if_true]
  by_cases hr : r = []
  · rw [if_pos hr, if_pos hr]
  · rw [if_neg hr, if_neg hr]
    cases Mb.pu16 0 r <;> rfl

theorem pos_none {l : List UInt8} (h : l = [] ∨ Mb.pu16 0 l = none) : (if l = [] then none else match Mb.pu16 0 l with
    | none => none
    | some u => if 2147483648 ≤ u then none else some (u : Int)) = none := by
  rcases h with h | h
  · rw [if_pos h]
  · rw [h]; split <;> rfl
theorem pos_some {l : List UInt8} {u : Nat} (hl : l ≠ []) (h : Mb.pu16 0 l = some u) : (if l = [] then none else match Mb.pu16 0 l with
    | none => none
    | some u => if 2147483648 ≤ u then none else some (u : Int)) = if 2147483648 ≤ u then none else some (u : Int) := by
  rw [if_neg hl, h]
theorem neg_none {l : List UInt8} (h : l = [] ∨ Mb.pu16 0 l = none) : (if l = [] then none else match Mb.pu16 0 l with
    | none => none
    | some u => if 2147483648 < u then none else some (-(u : Int))) = none := by
  rcases h with h | h
  · rw [if_pos h]
  · rw [h]; split <;> rfl
theorem neg_some {l : List UInt8} {u : Nat} (hl : l ≠ []) (h : Mb.pu16 0 l = some u) : (if l = [] then none else match Mb.pu16 0 l with
    | none => none
    | some u => if 2147483648 < u then none else some (-(u : Int))) = if 2147483648 < u then none else some (-(u : Int)) := by
  rw [if_neg hl, h]

set_option maxHeartbeats 32000000 in
set_option maxRecDepth 100000 in
theorem parseInt_inner (s : ByteArray) (hmax : s.size ≤ 9223372036854775806) (w : World) :
    Calls Tryz.prog 182 #[.string s, .int .i64 16, .int .i64 32] w fun e w' => (∃ v, e = .returned v ∧ PiO s.data.toList v) ∧ Below w.heap.size w w' := by
  by_cases hne : s.size = 0
  · have h0 : s.data.toList = [] := List.eq_nil_of_length_eq_zero (by rw [← Lib.size_eq]; exact hne)
    have hs : s = ⟨#[]⟩ := by
      apply ByteArray.ext; apply Array.ext'; simpa using h0
    subst hs
    exact (parseInt_nil w).mono fun e w' ⟨he, hw⟩ => ⟨⟨_, he, Or.inr ⟨_, _, rfl, Or.inr rfl, rfl⟩⟩, by rw [hw]; exact Below.refl _ _⟩
  have hemp : s.toList.isEmpty = false := by
    rw [← decide_eq_emptyBytes]
    exact decide_eq_false (fun h => hne (by rw [h]; rfl))
  have hpos : 0 < s.size := by omega
  obtain ⟨c0, r, hL⟩ : ∃ c0 r, s.data.toList = c0 :: r := by
    cases h : s.data.toList with
    | nil => exact absurd (by rw [Lib.size_eq, h]; rfl) hne
    | cons c0 r => exact ⟨c0, r, rfl⟩
  have hsz : s.size = r.length + 1 := by rw [Lib.size_eq, hL]; rfl
  have hs0 : s[0]'hpos = c0 := by have := Lib.getD_at s 0 hpos; rw [hL] at this; exact this
  have hcc : (Tryz.prog.info? 262).map (·.comparable) = some true := by kernel_rfl
  have hq2 : ∀ W, (binOp .neq 222 (.iface 262 (.int .i64 2)) (.iface 262 (.int .i64 1))).run Tryz.prog W = .ok (.bool true) W := fun W => Lib.run_neq_iface_int W 2 1 Tryz.underlying222 hcc Tryz.underlying262
  have hq1 : ∀ W, (binOp .neq 222 (.iface 262 (.int .i64 1)) (.iface 262 (.int .i64 1))).run Tryz.prog W = .ok (.bool false) W := fun W => Lib.run_neq_iface_int W 1 1 Tryz.underlying222 hcc Tryz.underlying262
  have hmin : wrap64 (-wrap64 2147483648) = -2147483648 := by
    unfold wrap64
    omega
  rw [hL]
  by_cases h43 : c0 = 43
  · subst h43
    have hsl : ∀ W, (Instr.slice 9 (.string s) (some (.int .i64 1)) none none).run Tryz.prog W = .ok (.string (s.extract 1 s.size)) W := fun W => by
      rw [run_slice_string_from_if W 9 s .i64 _ Tryz.underlying9, if_pos ⟨by omega, by omega⟩]
      rfl
    have htl : (s.extract 1 s.size).data.toList = r := by
      rw [Lib.extract_data, hL, List.drop_succ_cons, List.drop_zero, List.take_of_length_le (by omega)]
    have hts : (s.extract 1 s.size).size = s.size - 1 := by rw [Lib.size_eq, htl]; omega
    generalize s.extract 1 s.size = t at hsl htl hts
    have hU := parseUint_all t (by omega) w
    rw [htl] at hU
    have hpi : ∀ o, _ = o → Mb.pi16 (43 :: r) = o := fun o => pi_pos (c := 43) (l := r) (by decide) (if_pos rfl)
    clear hL htl hts
    go_enter Tryz.func182, Tryz.ntmps182
    go_wp2_with (go_at_call 201; refine hU.mono ?_)
    rintro e w1 ⟨⟨v, rfl, hv⟩, hb⟩
    rcases hv with ⟨u, hu, hne, hp, rfl⟩ | ⟨hp, rfl | rfl⟩
    · by_cases hout : 2147483648 ≤ u
      · have HN := Lib.hid (hpi _ (pos_some hne hp))
        rw [if_pos hout] at HN
        obtain ⟨a, ha⟩ : ∃ a : Int, a = (u : Int) := ⟨_, rfl⟩
        rw [← ha]
        have a0 : 0 ≤ a := by omega
        have a1 : 2147483648 ≤ a := by omega
        have a2 : a ≤ 4294967295 := by omega
        clear hp hpi hout hu ha
        go_wp2
        go_ret2
        exact ⟨⟨_, rfl, Or.inr ⟨_, _, HN.out, Or.inl rfl, rfl⟩⟩, hb⟩
      · have HN := Lib.hid (hpi _ (pos_some hne hp))
        rw [if_neg hout] at HN
        obtain ⟨a, ha⟩ : ∃ a : Int, a = (u : Int) := ⟨_, rfl⟩
        rw [← ha] at HN ⊢
        have a0 : 0 ≤ a := by omega
        have a1 : a < 2147483648 := by omega
        have hwn := wrap_small a0 (by omega)
        clear hp hpi hout hu ha
        go_wp2
        go_ret2
        refine ⟨⟨_, rfl, Or.inl ⟨_, ?_, ?_, HN.out, ?_⟩⟩, hb⟩
        · omega
        · omega
        · first | rfl | (simp only [hwn]; rfl)
    · have HN := Lib.hid (hpi _ (pos_none hp))
      clear hp hpi
      go_wp2
      go_ret2
      exact ⟨⟨_, rfl, Or.inr ⟨_, _, HN.out, Or.inr rfl, rfl⟩⟩, hb⟩
    · have HN := Lib.hid (hpi _ (pos_none hp))
      clear hp hpi
      go_wp2
      go_ret2
      exact ⟨⟨_, rfl, Or.inr ⟨_, _, HN.out, Or.inl rfl, rfl⟩⟩, hb⟩
  by_cases h45 : c0 = 45
  · subst h45
    have hsl : ∀ W, (Instr.slice 9 (.string s) (some (.int .i64 1)) none none).run Tryz.prog W = .ok (.string (s.extract 1 s.size)) W := fun W => by
      rw [run_slice_string_from_if W 9 s .i64 _ Tryz.underlying9, if_pos ⟨by omega, by omega⟩]
      rfl
    have htl : (s.extract 1 s.size).data.toList = r := by
      rw [Lib.extract_data, hL, List.drop_succ_cons, List.drop_zero, List.take_of_length_le (by omega)]
    have hts : (s.extract 1 s.size).size = s.size - 1 := by rw [Lib.size_eq, htl]; omega
    generalize s.extract 1 s.size = t at hsl htl hts
    have hU := parseUint_all t (by omega) w
    rw [htl] at hU
    have hpi : ∀ o, _ = o → Mb.pi16 (45 :: r) = o := fun o => pi_neg (r := r)
    clear hL htl hts
    go_enter Tryz.func182, Tryz.ntmps182
    go_wp2_with (go_at_call 201; refine hU.mono ?_)
    rintro e w1 ⟨⟨v, rfl, hv⟩, hb⟩
    rcases hv with ⟨u, hu, hne, hp, rfl⟩ | ⟨hp, rfl | rfl⟩
    · by_cases hout : 2147483648 < u
      · have HN := Lib.hid (hpi _ (neg_some hne hp))
        rw [if_pos hout] at HN
        obtain ⟨a, ha⟩ : ∃ a : Int, a = (u : Int) := ⟨_, rfl⟩
        rw [← ha]
        have a0 : 0 ≤ a := by omega
        have a1 : 2147483648 < a := by omega
        have a2 : a ≤ 4294967295 := by omega
        clear hp hpi hout hu ha
        go_wp2
        go_ret2
        exact ⟨⟨_, rfl, Or.inr ⟨_, _, HN.out, Or.inl rfl, rfl⟩⟩, hb⟩
      · have HN := Lib.hid (hpi _ (neg_some hne hp))
        rw [if_neg hout] at HN
        obtain ⟨a, ha⟩ : ∃ a : Int, a = (u : Int) := ⟨_, rfl⟩
        rw [← ha] at HN ⊢
        have a0 : 0 ≤ a := by omega
        have a1 : a ≤ 2147483648 := by omega
        have hwn := wrap_small a0 (by omega)
        clear hp hpi hout hu ha
        go_wp2
        go_ret2
        refine ⟨⟨_, rfl, Or.inl ⟨_, ?_, ?_, HN.out, ?_⟩⟩, hb⟩
        · omega
        · omega
        · first | rfl | (simp only [hwn]; rfl)
    · have HN := Lib.hid (hpi _ (neg_none hp))
      clear hp hpi
      go_wp2
      go_ret2
      exact ⟨⟨_, rfl, Or.inr ⟨_, _, HN.out, Or.inr rfl, rfl⟩⟩, hb⟩
    · have HN := Lib.hid (hpi _ (neg_none hp))
      clear hp hpi
      go_wp2
      go_ret2
      exact ⟨⟨_, rfl, Or.inr ⟨_, _, HN.out, Or.inl rfl, rfl⟩⟩, hb⟩
  · skip
    have n43 : c0.toNat ≠ 43 := fun h => h43 (UInt8.toNat_inj.1 h)
    have n45 : c0.toNat ≠ 45 := fun h => h45 (UInt8.toNat_inj.1 h)
    have i43 : ¬ (c0.toNat : Int) = 43 := by omega
    have i45 : ¬ (c0.toNat : Int) = 45 := by omega
    have hU := parseUint_all s hmax w
    rw [hL] at hU
    have hpi : ∀ o, _ = o → Mb.pi16 (c0 :: r) = o := fun o => pi_pos (c := c0) (l := c0 :: r) h45 (if_neg h43)
    generalize c0 :: r = l at hU hpi ⊢
    clear hL
    go_enter Tryz.func182, Tryz.ntmps182
    go_wp2_with (go_at_call 201; refine hU.mono ?_)
    rintro e w1 ⟨⟨v, rfl, hv⟩, hb⟩
    rcases hv with ⟨u, hu, hne, hp, rfl⟩ | ⟨hp, rfl | rfl⟩
    · by_cases hout : 2147483648 ≤ u
      · have HN := Lib.hid (hpi _ (pos_some hne hp))
        rw [if_pos hout] at HN
        obtain ⟨a, ha⟩ : ∃ a : Int, a = (u : Int) := ⟨_, rfl⟩
        rw [← ha]
        have a0 : 0 ≤ a := by omega
        have a1 : 2147483648 ≤ a := by omega
        have a2 : a ≤ 4294967295 := by omega
        clear hp hpi hout hu ha
        go_wp2
        go_ret2
        exact ⟨⟨_, rfl, Or.inr ⟨_, _, HN.out, Or.inl rfl, rfl⟩⟩, hb⟩
      · have HN := Lib.hid (hpi _ (pos_some hne hp))
        rw [if_neg hout] at HN
        obtain ⟨a, ha⟩ : ∃ a : Int, a = (u : Int) := ⟨_, rfl⟩
        rw [← ha] at HN ⊢
        have a0 : 0 ≤ a := by omega
        have a1 : a < 2147483648 := by omega
        have hwn := wrap_small a0 (by omega)
        clear hp hpi hout hu ha
        go_wp2
        go_ret2
        refine ⟨⟨_, rfl, Or.inl ⟨_, ?_, ?_, HN.out, ?_⟩⟩, hb⟩
        · omega
        · omega
        · first | rfl | (simp only [hwn]; rfl)
    · have HN := Lib.hid (hpi _ (pos_none hp))
      clear hp hpi
      go_wp2
      go_ret2
      exact ⟨⟨_, rfl, Or.inr ⟨_, _, HN.out, Or.inr rfl, rfl⟩⟩, hb⟩
    · have HN := Lib.hid (hpi _ (pos_none hp))
      clear hp hpi
      go_wp2
      go_ret2
      exact ⟨⟨_, rfl, Or.inr ⟨_, _, HN.out, Or.inl rfl, rfl⟩⟩, hb⟩

/-- strconv.ParseInt(s, 16, 32): the number, or an error that is not nil -/
def PO (l : List UInt8) (v : Value) : Prop :=
  (∃ i : Int, -2147483648 ≤ i ∧ i ≤ 2147483647 ∧ Mb.pi16 l = some i ∧ v = .tuple #[.int .i64 i, .nilIface]) ∨
  (∃ (i : Int) (N : Nat), Mb.pi16 l = none ∧ v = .tuple #[.int .i64 i, .iface 263 (.pointer (some ⟨N, 0, none⟩))])

set_option maxHeartbeats 4000000 in
set_option maxRecDepth 100000 in
theorem parseInt_any (s : ByteArray) (hs : s.size ≤ 281474976710656) (w : World) (hE : Env w) :
    Calls Tryz.prog 175 #[.string s, .int .i64 16, .int .i64 32] w fun e w' => (∃ v, e = .returned v ∧ PO s.data.toList v) ∧ Below w.heap.size w w' := by
  have hI := parseInt_inner s (by omega) w
  go_enter Tryz.func175, Tryz.ntmps175
  go_wp2_with (go_at_call 182; refine hI.mono ?_)
  rintro e w1 ⟨⟨v, rfl, hv⟩, hb⟩
  have hE1 := hE.below hb (Nat.le_refl _)
  rcases hv with ⟨i, h0, h1, hp, rfl⟩ | ⟨i, k, hp, hk, rfl⟩
  · have HN := Lib.hid hp
    clear hp
    go_wp2
    go_ret2
    exact ⟨⟨_, rfl, Or.inl ⟨i, h0, h1, HN.out, rfl⟩⟩, hb⟩
  · have HN := Lib.hid hp
    clear hp
    rcases hk with rfl | rfl
    · obtain ⟨e2, he2, hv2⟩ := hE1.er
      go_wp2_with (go_at_call 159; refine (Tryz.strconv_toError_range _ _ _ _ e2 _ hs he2 hv2).mono ?_)
      rintro e w2 ⟨N, rfl, h1, h2, h3⟩
      go_wp2
      go_ret2
      exact ⟨⟨_, rfl, Or.inr ⟨_, N, HN.out, rfl⟩⟩, hb.trans (h3.mono hb.size)⟩
    · obtain ⟨e1, he1, hv1⟩ := hE1.es
      go_wp2_with (go_at_call 159; refine (Tryz.strconv_toError_syntax _ _ _ _ e1 _ hs he1 hv1).mono ?_)
      rintro e w2 ⟨N, rfl, h1, h2, h3⟩
      go_wp2
      go_ret2
      exact ⟨⟨_, rfl, Or.inr ⟨_, N, HN.out, rfl⟩⟩, hb.trans (h3.mono hb.size)⟩

end Go.Proofs.YtamglanahpcedaaGreatDoor
