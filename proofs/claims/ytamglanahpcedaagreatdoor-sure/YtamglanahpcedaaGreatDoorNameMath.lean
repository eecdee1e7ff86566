/-
  OWN TEXT (plain mathematics, nothing of the program): runes of a text, codes of names, and that names and codes belong to one another.
-/
import Derived.Test.YtamglanahpcedaaGreatDoorListMath
import Derived.Lib.RuneBytes
import Derived.Lib.Strings
import GoSem.Core.Utf8
namespace Go.Proofs.YtamglanahpcedaaGreatDoor
namespace Mb
open Go.Lib

/-! ### runes -/

def bat (l : List UInt8) (k : Nat) : Nat := (l.getD k 0).toNat
def contB (l : List UInt8) (k : Nat) : Bool := decide (k < l.length) && (bat l k / 64 == 2)
def runeOkB (c : Nat) : Bool := decide (c < 55296) || (decide (57343 < c) && decide (c ≤ 1114111))

/-- the first rune of a text that is not empty, and how many bytes it has; what is no rune: 65533, one byte -/
def dec (l : List UInt8) : Nat × Nat :=
  if bat l 0 < 128 then (bat l 0, 1)
  else if bat l 0 / 32 == 6 && contB l 1 then
    if 128 ≤ bat l 0 % 32 * 64 + bat l 1 % 64 then (bat l 0 % 32 * 64 + bat l 1 % 64, 2) else (65533, 1)
  else if bat l 0 / 16 == 14 && contB l 1 && contB l 2 then
    if (decide (2048 ≤ bat l 0 % 16 * 4096 + bat l 1 % 64 * 64 + bat l 2 % 64) && runeOkB (bat l 0 % 16 * 4096 + bat l 1 % 64 * 64 + bat l 2 % 64)) = true then (bat l 0 % 16 * 4096 + bat l 1 % 64 * 64 + bat l 2 % 64, 3) else (65533, 1)
  else if bat l 0 / 8 == 30 && contB l 1 && contB l 2 && contB l 3 then
    if (decide (65536 ≤ bat l 0 % 8 * 262144 + bat l 1 % 64 * 4096 + bat l 2 % 64 * 64 + bat l 3 % 64) && runeOkB (bat l 0 % 8 * 262144 + bat l 1 % 64 * 4096 + bat l 2 % 64 * 64 + bat l 3 % 64)) = true then (bat l 0 % 8 * 262144 + bat l 1 % 64 * 4096 + bat l 2 % 64 * 64 + bat l 3 % 64, 4) else (65533, 1)
  else (65533, 1)

theorem bat_drop (s : ByteArray) (i k : Nat) : (s.get! (i + k)).toNat = bat (s.data.toList.drop i) k := by
  unfold bat
  congr 1
  rw [List.getD_eq_getElem?_getD, List.getElem?_drop]
  show s.data[i + k]! = _
  rw [getElem!_def]
  cases h : s.data[i + k]? with
  | none => simp [h]; rfl
  | some b => simp [h]

theorem contB_drop (s : ByteArray) (i k : Nat) : (decide (i + k < s.size) && (bat (s.data.toList.drop i) k / 64 == 2)) = contB (s.data.toList.drop i) k := by
  unfold contB
  congr 1
  rw [List.length_drop, ← Lib.size_eq]
  simp only [decide_eq_decide]
  omega

theorem valid_eq (c : Nat) : Utf8.valid c = runeOkB c := by
  unfold Utf8.valid runeOkB
  rw [Bool.eq_iff_iff]
  simp
  try omega

theorem decode_is (s : ByteArray) (i : Nat) : Utf8.decode s i = dec (s.data.toList.drop i) := by
  unfold Utf8.decode dec
  simp only [bat_drop, contB_drop, valid_eq, ge_iff_le]
  rfl

theorem bat_lt (l : List UInt8) (k : Nat) : bat l k < 256 := (l.getD k 0).toNat_lt

theorem dec_width (l : List UInt8) : 1 ≤ (dec l).2 := by
  unfold dec
  split
  · exact Nat.le_refl _
  · split
    · split <;> simp
    · split
      · split <;> simp
      · split
        · split <;> simp
        · simp

theorem dec_width_le (l : List UInt8) (h : l ≠ []) : (dec l).2 ≤ l.length := by
  have h0 : 1 ≤ l.length := by
    cases l with
    | nil => exact absurd rfl h
    | cons _ _ => simp
  unfold dec
  split
  · exact h0
  · split
    · rename_i hc
      simp only [contB, Bool.and_eq_true, decide_eq_true_eq] at hc
      split
      · simp only; omega
      · exact h0
    · split
      · rename_i hc
        simp only [contB, Bool.and_eq_true, decide_eq_true_eq] at hc
        split
        · simp only; omega
        · exact h0
      · split
        · rename_i hc
          simp only [contB, Bool.and_eq_true, decide_eq_true_eq] at hc
          split
          · simp only; omega
          · exact h0
        · exact h0

theorem two_of {l : List UInt8} (h : 1 < l.length) : ∃ a b t, l = a :: b :: t := by
  match l, h with
  | a :: b :: t, _ => exact ⟨a, b, t, rfl⟩
theorem three_of {l : List UInt8} (h : 2 < l.length) : ∃ a b c t, l = a :: b :: c :: t := by
  match l, h with
  | a :: b :: c :: t, _ => exact ⟨a, b, c, t, rfl⟩
theorem four_of {l : List UInt8} (h : 3 < l.length) : ∃ a b c d t, l = a :: b :: c :: d :: t := by
  match l, h with
  | a :: b :: c :: d :: t, _ => exact ⟨a, b, c, d, t, rfl⟩

theorem byte_is {x : Int} {a : UInt8} (h : x = (a.toNat : Int)) : x.toNat.toUInt8 = a := by
  subst h
  rw [Int.toNat_natCast]
  exact UInt8.toNat_inj.1 (by simp)

/-- a rune's bytes are the bytes that it was read from, but for 65533 -/
theorem enc_dec (l : List UInt8) (h : l ≠ []) (hr : (dec l).1 ≠ 65533) : encodeRune ((dec l).1 : Int) = l.take (dec l).2 ∧ (dec l).1 ≤ 1114111 := by
  unfold dec at hr ⊢
  split at hr
  · rename_i hc
    rw [if_pos hc]
    cases l with
    | nil => exact absurd rfl h
    | cons a t =>
      have e : bat (a :: t) 0 = a.toNat := rfl
      rw [e] at hc ⊢
      refine ⟨?_, by simp only; omega⟩
      unfold encodeRune
      rw [encodeRuneZ_one (by omega) (by omega)]
      simp only [List.map_cons, List.map_nil, List.take_succ_cons, List.take_zero]
      rw [byte_is rfl]
  · rename_i hc1
    rw [if_neg hc1]
    split at hr
    · rename_i hc
      rw [if_pos hc]
      simp only [contB, Bool.and_eq_true, decide_eq_true_eq, beq_iff_eq] at hc
      obtain ⟨a, b, t, rfl⟩ := two_of hc.2.1
      · have e0 : bat (a :: b :: t) 0 = a.toNat := rfl
        have e1 : bat (a :: b :: t) 1 = b.toNat := rfl
        have hb := b.toNat_lt
        rw [e0, e1] at hc hr ⊢
        split at hr
        · rename_i hv
          rw [if_pos hv]
          refine ⟨?_, by simp only; omega⟩
          unfold encodeRune
          rw [encodeRuneZ_two (by simp only; omega) (by simp only; omega)]
          simp only [List.map_cons, List.map_nil, List.take_succ_cons, List.take_zero]
          rw [byte_is (a := a) (by omega), byte_is (a := b) (by omega)]
        · exact absurd rfl hr
    · rename_i hc2
      rw [if_neg hc2]
      split at hr
      · rename_i hc
        rw [if_pos hc]
        simp only [contB, Bool.and_eq_true, decide_eq_true_eq, beq_iff_eq] at hc
        obtain ⟨a, b, c, t, rfl⟩ := three_of hc.2.1
        · have e0 : bat (a :: b :: c :: t) 0 = a.toNat := rfl
          have e1 : bat (a :: b :: c :: t) 1 = b.toNat := rfl
          have e2 : bat (a :: b :: c :: t) 2 = c.toNat := rfl
          have hb := b.toNat_lt
          have hcc := c.toNat_lt
          rw [e0, e1, e2] at hc hr ⊢
          split at hr
          · rename_i hv
            rw [if_pos hv]
            simp only [runeOkB, Bool.and_eq_true, Bool.or_eq_true, decide_eq_true_eq] at hv
            refine ⟨?_, by simp only; omega⟩
            unfold encodeRune
            rw [encodeRuneZ_three (by simp only; omega)]
            simp only [List.map_cons, List.map_nil, List.take_succ_cons, List.take_zero]
            rw [byte_is (a := a) (by omega), byte_is (a := b) (by omega), byte_is (a := c) (by omega)]
          · exact absurd rfl hr
      · rename_i hc3
        rw [if_neg hc3]
        split at hr
        · rename_i hc
          rw [if_pos hc]
          simp only [contB, Bool.and_eq_true, decide_eq_true_eq, beq_iff_eq] at hc
          obtain ⟨a, b, c, d, t, rfl⟩ := four_of hc.2.1
          · have e0 : bat (a :: b :: c :: d :: t) 0 = a.toNat := rfl
            have e1 : bat (a :: b :: c :: d :: t) 1 = b.toNat := rfl
            have e2 : bat (a :: b :: c :: d :: t) 2 = c.toNat := rfl
            have e3 : bat (a :: b :: c :: d :: t) 3 = d.toNat := rfl
            have hb := b.toNat_lt
            have hcc := c.toNat_lt
            have hdd := d.toNat_lt
            rw [e0, e1, e2, e3] at hc hr ⊢
            split at hr
            · rename_i hv
              rw [if_pos hv]
              simp only [runeOkB, Bool.and_eq_true, Bool.or_eq_true, decide_eq_true_eq] at hv
              refine ⟨?_, by simp only; omega⟩
              unfold encodeRune
              rw [encodeRuneZ_four (by simp only; omega) (by simp only; omega)]
              simp only [List.map_cons, List.map_nil, List.take_succ_cons, List.take_zero]
              rw [byte_is (a := a) (by omega), byte_is (a := b) (by omega), byte_is (a := c) (by omega), byte_is (a := d) (by omega)]
            · exact absurd rfl hr
        · exact absurd rfl hr

/-- the runes of a text (with fuel: its length is enough) -/
def runesF : Nat → List UInt8 → List Nat
  | 0, _ => []
  | f + 1, l => if l = [] then [] else (dec l).1 :: runesF f (l.drop (dec l).2)
def runes (l : List UInt8) : List Nat := runesF l.length l

theorem runesF_fuel : ∀ (f : Nat) (l : List UInt8), l.length ≤ f → runesF f l = runes l
  | 0, l, h => by
    have : l = [] := List.eq_nil_of_length_eq_zero (by omega)
    subst this; rfl
  | f + 1, l, h => by
    by_cases hl : l = []
    · subst hl; rfl
    · have hw := dec_width l
      obtain ⟨k, hk⟩ : ∃ k, l.length = k + 1 := ⟨l.length - 1, by
        cases l with
        | nil => exact absurd rfl hl
        | cons _ _ => simp⟩
      unfold runes
      rw [hk, runesF, runesF, if_neg hl, if_neg hl]
      congr 1
      rw [runesF_fuel f _ (by rw [List.length_drop]; omega), runesF_fuel k _ (by rw [List.length_drop]; omega)]

theorem runes_nil : runes [] = [] := rfl
theorem runes_step (l : List UInt8) (h : l ≠ []) : runes l = (dec l).1 :: runes (l.drop (dec l).2) := by
  have hw := dec_width l
  obtain ⟨k, hk⟩ : ∃ k, l.length = k + 1 := ⟨l.length - 1, by
    cases l with
    | nil => exact absurd rfl h
    | cons _ _ => simp⟩
  conv => lhs; unfold runes
  rw [hk, runesF, if_neg h, runesF_fuel k _ (by rw [List.length_drop]; omega)]

def fineRune (r : Nat) : Bool := decide (33 ≤ r) && !(r == 127) && !(r == 65533)
def nameOk (l : List UInt8) : Bool := decide (0 < (runes l).length) && decide ((runes l).length ≤ 8) && (runes l).all fineRune

/-- a text whose runes are fine is their bytes -/
theorem utf8_of_runes (l : List UInt8) : (runes l).all fineRune = true → (runes l).flatMap (fun r : Nat => encodeRune (r : Int)) = l := by
  have key : ∀ (n : Nat) (l : List UInt8), l.length ≤ n → (runes l).all fineRune = true → (runes l).flatMap (fun r : Nat => encodeRune (r : Int)) = l := by
    intro n
    induction n with
    | zero =>
      intro l hl _
      have : l = [] := List.eq_nil_of_length_eq_zero (by omega)
      subst this; rfl
    | succ n ih =>
      intro l hl h
      by_cases hn : l = []
      · subst hn; rfl
      · rw [runes_step l hn] at h ⊢
        simp only [List.all_cons, Bool.and_eq_true] at h
        have hne : (dec l).1 ≠ 65533 := by
          intro e
          have := h.1
          rw [e] at this
          simp [fineRune] at this
        have hw := dec_width l
        have hi := ih (l.drop (dec l).2) (by rw [List.length_drop]; omega) h.2
        rw [List.flatMap_cons, hi, (enc_dec l hn hne).1, List.take_append_drop]
  exact key l.length l (Nat.le_refl _)

theorem rune_le (l : List UInt8) : ∀ r ∈ runes l, r ≤ 1114111 := by
  have key : ∀ (n : Nat) (l : List UInt8), l.length ≤ n → ∀ r ∈ runes l, r ≤ 1114111 := by
    intro n
    induction n with
    | zero =>
      intro l hl r hr
      have : l = [] := List.eq_nil_of_length_eq_zero (by omega)
      subst this; cases hr
    | succ n ih =>
      intro l hl r hr
      by_cases hn : l = []
      · subst hn; cases hr
      · rw [runes_step l hn, List.mem_cons] at hr
        have hw := dec_width l
        rcases hr with rfl | hr
        · by_cases he : (dec l).1 = 65533
          · rw [he]; omega
          · exact (enc_dec l hn he).2
        · exact ih _ (by rw [List.length_drop]; omega) r hr
  exact key l.length l (Nat.le_refl _)

/-- what begins with a byte that is no rune's second is read as by itself -/
theorem runes_behind (c : UInt8) (t : List UInt8) (hc : c.toNat / 64 ≠ 2) : ∀ (n : Nat) (a : List UInt8), a.length ≤ n → ∃ pre, runes (a ++ c :: t) = pre ++ runes (c :: t) := by
  intro n
  induction n with
  | zero =>
    intro a ha
    have : a = [] := List.eq_nil_of_length_eq_zero (by omega)
    subst this; exact ⟨[], rfl⟩
  | succ n ih =>
    intro a ha
    by_cases hn : a = []
    · subst hn; exact ⟨[], rfl⟩
    · have hw := dec_width (a ++ c :: t)
      have h1 : 1 ≤ a.length := by
        cases a with
        | nil => exact absurd rfl hn
        | cons _ _ => simp
      have hk : bat (a ++ c :: t) a.length = c.toNat := by
        unfold bat
        rw [List.getD_eq_getElem?_getD, List.getElem?_append_right (Nat.le_refl _)]
        simp
      have hno : contB (a ++ c :: t) a.length = false := by
        unfold contB
        rw [hk]
        simp [hc]
      have hle : (dec (a ++ c :: t)).2 ≤ a.length := by
        have hcases : a.length = 1 ∨ a.length = 2 ∨ a.length = 3 ∨ 4 ≤ a.length := by omega
        unfold dec
        split
        · exact h1
        · split
          · rename_i hc2
            split
            · rcases hcases with e | e | e | e
              · rw [e] at hno; simp [hno] at hc2
              all_goals (simp only; omega)
            · exact h1
          · split
            · rename_i hc2
              split
              · rcases hcases with e | e | e | e
                · rw [e] at hno; simp [hno] at hc2
                · rw [e] at hno; simp [hno] at hc2
                all_goals (simp only; omega)
              · exact h1
            · split
              · rename_i hc2
                split
                · rcases hcases with e | e | e | e
                  · rw [e] at hno; simp [hno] at hc2
                  · rw [e] at hno; simp [hno] at hc2
                  · rw [e] at hno; simp [hno] at hc2
                  · simp only; omega
                · exact h1
              · exact h1
      rw [runes_step _ (by simp), List.drop_append_of_le_length hle]
      obtain ⟨pre, hp⟩ := ih (a.drop (dec (a ++ c :: t)).2) (by rw [List.length_drop]; omega)
      exact ⟨_ :: pre, by rw [hp]; rfl⟩

/-! ### numbers in hexadecimal -/

def hexByte (d : Nat) : UInt8 := UInt8.ofNat (if d < 10 then 48 + d else 87 + d)
def hexF : Nat → Nat → List UInt8
  | 0, _ => []
  | f + 1, u => if u < 16 then [hexByte u] else hexF f (u / 16) ++ [hexByte (u % 16)]
/-- a number in hexadecimal (of at most 16 digits) -/
def hexL (u : Nat) : List UInt8 := hexF 16 u

/-- what a digit says -/
def dig16 (c : UInt8) : Option Nat :=
  if 48 ≤ c.toNat ∧ c.toNat ≤ 57 then some (c.toNat - 48)
  else if 97 ≤ c.toNat ∧ c.toNat ≤ 102 then some (c.toNat - 87)
  else if 65 ≤ c.toNat ∧ c.toNat ≤ 70 then some (c.toNat - 55) else none
/-- digits behind those that say acc; none: an error -/
def pu16 (acc : Nat) : List UInt8 → Option Nat
  | [] => some acc
  | c :: r => match dig16 c with
    | none => none
    | some d => if 4294967295 < acc * 16 + d then none else pu16 (acc * 16 + d) r
/-- strconv.ParseInt(s, 16, 32); none: an error -/
def pi16 (l : List UInt8) : Option Int :=
  match l with
  | [] => none
  | c :: r =>
    if c = 45 then (if r = [] then none else match pu16 0 r with
      | none => none
      | some u => if 2147483648 < u then none else some (-(u : Int)))
    else match (if c = 43 then (if r = [] then none else pu16 0 r) else pu16 0 (c :: r)) with
      | none => none
      | some u => if 2147483648 ≤ u then none else some (u : Int)

theorem hexByte_dig (d : Nat) (h : d < 16) : dig16 (hexByte d) = some d ∧ (hexByte d).toNat ≠ 61 ∧ hexByte d ≠ 45 ∧ hexByte d ≠ 43 ∧ ((48 ≤ (hexByte d).toNat ∧ (hexByte d).toNat ≤ 57) ∨ (97 ≤ (hexByte d).toNat ∧ (hexByte d).toNat ≤ 122)) := by
  have hall : ∀ d : Fin 16, dig16 (hexByte d.val) = some d.val ∧ (hexByte d.val).toNat ≠ 61 ∧ hexByte d.val ≠ 45 ∧ hexByte d.val ≠ 43 ∧ ((48 ≤ (hexByte d.val).toNat ∧ (hexByte d.val).toNat ≤ 57) ∨ (97 ≤ (hexByte d.val).toNat ∧ (hexByte d.val).toNat ≤ 122)) := by decide
  exact hall ⟨d, h⟩

theorem pu16_snoc (d : Nat) (hd : d < 16) : ∀ (l : List UInt8) (acc v : Nat), pu16 acc l = some v → v * 16 + d ≤ 4294967295 → pu16 acc (l ++ [hexByte d]) = some (v * 16 + d)
  | [], acc, v, h, hv => by
    simp only [pu16, Option.some.injEq] at h
    subst h
    simp only [List.nil_append, pu16, (hexByte_dig d hd).1]
    rw [if_neg (by omega)]
  | c :: r, acc, v, h, hv => by
    simp only [pu16] at h
    simp only [List.cons_append, pu16]
    split at h
    · cases h
    · rename_i e he
      split at h
      · cases h
      · rename_i hle
        rw [if_neg hle]
        exact pu16_snoc d hd r _ v h hv

theorem pu16_hexF : ∀ (f u : Nat), u < 16 ^ f → u ≤ 4294967295 → 1 ≤ f → pu16 0 (hexF f u) = some u
  | 0, u, _, _, h => by omega
  | f + 1, u, hu, hv, _ => by
    rw [hexF]
    split
    · rename_i h16
      have := pu16_snoc u h16 [] 0 0 rfl (by omega)
      simpa using this
    · rename_i h16
      have hf : 1 ≤ f := by
        cases f with
        | zero => simp at hu; omega
        | succ f => omega
      have h1 := pu16_hexF f (u / 16) (by rw [Nat.pow_succ] at hu; omega) (by omega) hf
      have := pu16_snoc (u % 16) (by omega) (hexF f (u / 16)) 0 (u / 16) h1 (by omega)
      rw [this]; congr 1; omega

theorem hexF_bytes : ∀ (f u : Nat), ∀ c ∈ hexF f u, ∃ d, d < 16 ∧ c = hexByte d
  | 0, _, c, hc => by cases hc
  | f + 1, u, c, hc => by
    rw [hexF] at hc
    split at hc
    · rename_i h; rw [List.mem_singleton] at hc; exact ⟨u, h, hc⟩
    · rw [List.mem_append, List.mem_singleton] at hc
      rcases hc with hc | hc
      · exact hexF_bytes f _ c hc
      · exact ⟨u % 16, by omega, hc⟩
theorem hexL_ne (u : Nat) : hexL u ≠ [] := by
  unfold hexL
  rw [hexF]
  split <;> simp

theorem pi16_hex (u : Nat) (h : u < 2147483648) : pi16 (hexL u) = some (u : Int) := by
  have hp := pu16_hexF 16 u (by omega) (by omega) (by omega)
  have hb := hexF_bytes 16 u
  have hne := hexL_ne u
  unfold hexL at *
  cases hl : hexF 16 u with
  | nil => exact absurd hl hne
  | cons c r =>
    rw [hl] at hp hb
    obtain ⟨d, hd, rfl⟩ := hb c (by simp)
    have hx := hexByte_dig d hd
    unfold pi16
    simp only
    rw [if_neg hx.2.2.1, if_neg hx.2.2.2.1, hp]
    simp only
    rw [if_neg (by omega)]

/-! ### codes -/

def plainRune (r : Nat) : Bool := (decide (97 ≤ r) && decide (r ≤ 122)) || (decide (48 ≤ r) && decide (r ≤ 57))
def codeOf (r : Nat) : List UInt8 := if plainRune r = true then [UInt8.ofNat r] else 61 :: (hexL r ++ [61])
def encL (l : List UInt8) : List UInt8 := (runes l).flatMap codeOf

/-- spelling the pieces of a code between its marks; none: an error -/
def spellP : Bool → List (List UInt8) → Option (List UInt8)
  | _, [] => some []
  | false, p :: ps => (spellP true ps).map (p ++ ·)
  | true, p :: ps => match pi16 p with
    | none => none
    | some r => (spellP false ps).map (encodeRune r ++ ·)
def spellL (code : List UInt8) : Option (List UInt8) := spellP false (splitC 61 code)
def decL (code : List UInt8) : Option (List UInt8) :=
  if 64 < code.length then none else
  match spellL code with
  | none => none
  | some n => if nameOk n = true ∧ encL n = code then some n else none

theorem codeOf_plain {r : Nat} (h : plainRune r = true) : codeOf r = [UInt8.ofNat r] := by unfold codeOf; rw [if_pos h]
theorem codeOf_hex {r : Nat} (h : ¬ plainRune r = true) : codeOf r = 61 :: (hexL r ++ [61]) := by unfold codeOf; rw [if_neg h]

theorem spell_codes : ∀ (rs : List Nat), (∀ r ∈ rs, r ≤ 1114111) → spellP false (splitC 61 (rs.flatMap codeOf)) = some (rs.flatMap (fun r : Nat => encodeRune (r : Int)))
  | [], _ => rfl
  | r :: rs, h => by
    have ih := spell_codes rs (fun x hx => h x (by simp [hx]))
    have hr := h r (by simp)
    rw [List.flatMap_cons, List.flatMap_cons]
    by_cases hp : plainRune r = true
    · rw [codeOf_plain hp]
      simp only [plainRune, Bool.or_eq_true, Bool.and_eq_true, decide_eq_true_eq] at hp
      have hne : ¬ UInt8.ofNat r = 61 := by
        intro e
        have := congrArg UInt8.toNat e
        rw [UInt8.toNat_ofNat'] at this
        simp at this
        omega
      have he : encodeRune (r : Int) = [UInt8.ofNat r] := by
        unfold encodeRune
        rw [encodeRuneZ_one (by omega) (by omega)]
        simp only [List.map_cons, List.map_nil, Int.toNat_natCast]
      rw [List.singleton_append, splitC, if_neg hne, he]
      cases hs : splitC 61 (rs.flatMap codeOf) with
      | nil => exact absurd hs (splitC_ne _ _)
      | cons p ps =>
        rw [hs] at ih
        simp only [spellP] at ih ⊢
        cases ho : spellP true ps with
        | none => rw [ho] at ih; simp at ih
        | some q =>
          rw [ho] at ih
          simp only [Option.map_some, Option.some.injEq] at ih ⊢
          rw [List.cons_append, ih]; rfl
    · rw [codeOf_hex hp]
      have hfree : ∀ b ∈ hexL r, b ≠ 61 := fun b hb => by
        obtain ⟨d, hd, rfl⟩ := hexF_bytes 16 r b hb
        intro e
        have := (hexByte_dig d hd).2.1
        rw [e] at this
        simp at this
      rw [List.cons_append, List.append_assoc, List.singleton_append]
      rw [splitC, if_pos rfl, splitC_app 61 _ _ hfree]
      simp only [spellP]
      rw [pi16_hex r (by omega)]
      simp only
      have ih' : spellP false (splitC 61 (rs.flatMap codeOf)) = some (rs.flatMap (fun r : Nat => encodeRune (r : Int))) := ih
      rw [ih']
      simp

theorem spell_enc (l : List UInt8) (h : nameOk l = true) : spellL (encL l) = some l := by
  unfold spellL encL
  rw [spell_codes _ (rune_le l)]
  simp only [nameOk, Bool.and_eq_true] at h
  rw [utf8_of_runes l h.2]

theorem code_len (r : Nat) (h : r ≤ 1114111) : (codeOf r).length ≤ 8 := by
  unfold codeOf
  split
  · simp
  · have key : ∀ (k f u : Nat), u < 16 ^ (k + 1) → (hexF f u).length ≤ k + 1 := by
      intro k
      induction k with
      | zero =>
        intro f u hu
        cases f with
        | zero => simp [hexF]
        | succ f => rw [hexF, if_pos (by simpa using hu)]; simp
      | succ k ih =>
        intro f u hu
        cases f with
        | zero => simp [hexF]
        | succ f =>
          rw [hexF]
          split
          · simp
          · have := ih f (u / 16) (by rw [Nat.pow_succ] at hu; omega)
            simp only [List.length_append, List.length_cons, List.length_nil]; omega
    have := key 5 16 r (by omega)
    simp only [List.length_cons, List.length_append, List.length_nil, hexL]
    omega

theorem enc_len (l : List UInt8) (h : nameOk l = true) : (encL l).length ≤ 64 := by
  simp only [nameOk, Bool.and_eq_true, decide_eq_true_eq] at h
  have hr := rune_le l
  unfold encL
  have key : ∀ (rs : List Nat), (∀ r ∈ rs, r ≤ 1114111) → (rs.flatMap codeOf).length ≤ 8 * rs.length := by
    intro rs
    induction rs with
    | nil => intro _; simp
    | cons r rs ih =>
      intro hh
      have a := code_len r (hh r (by simp))
      have b := ih (fun x hx => hh x (by simp [hx]))
      rw [List.flatMap_cons, List.length_append, List.length_cons]
      omega
  have := key (runes l) hr
  omega

theorem dec_enc (l : List UInt8) (h : nameOk l = true) : decL (encL l) = some l := by
  unfold decL
  rw [if_neg (by have := enc_len l h; omega), spell_enc l h]
  simp [h]

theorem dec_some {c n : List UInt8} (h : decL c = some n) : nameOk n = true ∧ encL n = c := by
  unfold decL at h
  split at h
  · cases h
  · split at h
    · cases h
    · split at h
      · rename_i hc; cases h; exact hc
      · cases h

theorem enc_inj {a b : List UInt8} (ha : nameOk a = true) (hb : nameOk b = true) (h : encL a = encL b) : a = b := by
  have h1 := dec_enc a ha
  rw [h, dec_enc b hb] at h1
  injection h1 with h1; exact h1.symm

/-- a text with a piece in it that begins with a byte that is no rune's second, and whose first rune may not stand in a name, is none -/
theorem bad_name (a : List UInt8) (c : UInt8) (t : List UInt8) (hc : c.toNat / 64 ≠ 2) (hr : fineRune (dec (c :: t)).1 = false) : nameOk (a ++ c :: t) = false := by
  obtain ⟨pre, hp⟩ := runes_behind c t hc a.length a (Nat.le_refl _)
  unfold nameOk
  rw [hp, runes_step (c :: t) (by simp), List.all_append, List.all_cons, hr]
  simp

end Mb
end Go.Proofs.YtamglanahpcedaaGreatDoor
