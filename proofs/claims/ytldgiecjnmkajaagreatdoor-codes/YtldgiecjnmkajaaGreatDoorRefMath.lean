/-
  OWN TEXT (plain mathematics, nothing of the program): the document's answer to names and codes, read byte by byte, and that it is the same.
-/
import Derived.Test.YtldgiecjnmkajaaGreatDoorNameMath
namespace Go.Proofs.YtldgiecjnmkajaaGreatDoor
namespace Mb
open Go.Lib

theorem dec_ok (l : List UInt8) : runeOkB (dec l).1 = true := by
  have h3 : runeOkB 65533 = true := by decide
  unfold dec
  split
  · rename_i h; simp only [runeOkB, Bool.or_eq_true, Bool.and_eq_true, decide_eq_true_eq]; omega
  · split
    · split
      · have h0 := bat_lt l 0
        simp only [runeOkB, Bool.or_eq_true, Bool.and_eq_true, decide_eq_true_eq]; omega
      · exact h3
    · split
      · split
        · rename_i h; simp only [Bool.and_eq_true] at h; exact h.2
        · exact h3
      · split
        · split
          · rename_i h; simp only [Bool.and_eq_true] at h; exact h.2
          · exact h3
        · exact h3

theorem rune_ok (l : List UInt8) : ∀ r ∈ runes l, runeOkB r = true := by
  have key : ∀ (n : Nat) (l : List UInt8), l.length ≤ n → ∀ r ∈ runes l, runeOkB r = true := by
    intro n
    induction n with
    | zero =>
      intro l hl r hr
      have : l = [] := List.eq_nil_of_length_eq_zero (by omega)
      subst this; cases hr
    | succ n ih =>
      intro l hl r hr
      by_cases hn : l = []
      · subst hn; cases hr
      · rw [runes_step l hn, List.mem_cons] at hr
        rcases hr with rfl | hr
        · exact dec_ok l
        · have hw := dec_width l
          exact ih (l.drop (dec l).2) (by rw [List.length_drop]; omega) r hr
  exact key l.length l (Nat.le_refl _)

/-! ### the reader of codes -/

def hexVal (c : UInt8) : Option Nat :=
  if 48 ≤ c.toNat ∧ c.toNat ≤ 57 then some (c.toNat - 48)
  else if 97 ≤ c.toNat ∧ c.toNat ≤ 102 then some (c.toNat - 87) else none

/-- what a code spells, read from left to right: outside of marks (none), or inside, with the number so far -/
def sp2 : Option Nat → List UInt8 → Option (List UInt8)
  | none, [] => some []
  | none, c :: t => if c = 61 then sp2 (some 0) t else (sp2 none t).map (c :: ·)
  | some _, [] => none
  | some r, c :: t =>
    if c = 61 then (if runeOkB r = true then (sp2 none t).map (encodeRune (r : Int) ++ ·) else none)
    else match hexVal c with
      | none => none
      | some d => if 1114111 < r then none else sp2 (some (r * 16 + d)) t

theorem sp2_nil : sp2 none [] = some [] := rfl
theorem sp2_plain (c : UInt8) (t : List UInt8) (h : c ≠ 61) : sp2 none (c :: t) = (sp2 none t).map (c :: ·) := by rw [sp2, if_neg h]
theorem sp2_mark (t : List UInt8) : sp2 none (61 :: t) = sp2 (some 0) t := by rw [sp2, if_pos rfl]
theorem sp2_end (r : Nat) : sp2 (some r) [] = none := rfl
theorem sp2_close (r : Nat) (t : List UInt8) (h : runeOkB r = true) : sp2 (some r) (61 :: t) = (sp2 none t).map (encodeRune (r : Int) ++ ·) := by rw [sp2, if_pos rfl, if_pos h]
theorem sp2_closeBad (r : Nat) (t : List UInt8) (h : ¬ runeOkB r = true) : sp2 (some r) (61 :: t) = none := by rw [sp2, if_pos rfl, if_neg h]
theorem sp2_noDigit (r : Nat) (c : UInt8) (t : List UInt8) (hc : c ≠ 61) (h : hexVal c = none) : sp2 (some r) (c :: t) = none := by rw [sp2, if_neg hc, h]
theorem sp2_great (r : Nat) (c : UInt8) (t : List UInt8) (hc : c ≠ 61) (hr : 1114111 < r) : sp2 (some r) (c :: t) = none := by
  rw [sp2, if_neg hc]
  cases hexVal c with
  | none => rfl
  | some d => simp only; rw [if_pos hr]
theorem sp2_digit (r d : Nat) (c : UInt8) (t : List UInt8) (hc : c ≠ 61) (h : hexVal c = some d) (hr : ¬ 1114111 < r) : sp2 (some r) (c :: t) = sp2 (some (r * 16 + d)) t := by
  rw [sp2, if_neg hc, h]; simp only; rw [if_neg hr]

theorem hexByte_val (d : Nat) (h : d < 16) : hexVal (hexByte d) = some d ∧ hexByte d ≠ 61 := by
  have hall : ∀ d : Fin 16, hexVal (hexByte d.val) = some d.val ∧ hexByte d.val ≠ 61 := by decide
  exact hall ⟨d, h⟩

theorem sp2_hexF : ∀ (f u : Nat) (t : List UInt8), u < 16 ^ f → u ≤ 1114111 → 1 ≤ f → sp2 (some 0) (hexF f u ++ t) = sp2 (some u) t
  | 0, u, _, _, _, h => by omega
  | f + 1, u, t, hu, hv, _ => by
    rw [hexF]
    split
    · rename_i h16
      have hx := hexByte_val u h16
      rw [List.cons_append, List.nil_append, sp2_digit 0 u _ _ hx.2 hx.1 (by omega)]
      simp
    · rename_i h16
      have hf : 1 ≤ f := by
        cases f with
        | zero => simp at hu; omega
        | succ f => omega
      have hx := hexByte_val (u % 16) (by omega)
      rw [List.append_assoc, sp2_hexF f (u / 16) _ (by rw [Nat.pow_succ] at hu; omega) (by omega) hf, List.cons_append, List.nil_append, sp2_digit _ _ _ _ hx.2 hx.1 (by omega)]
      congr 2
      omega

theorem ok_le {r : Nat} (h : runeOkB r = true) : r ≤ 1114111 := by
  simp only [runeOkB, Bool.or_eq_true, Bool.and_eq_true, decide_eq_true_eq] at h
  omega

theorem sp2_codes : ∀ (rs : List Nat), (∀ r ∈ rs, runeOkB r = true) → sp2 none (rs.flatMap codeOf) = some (rs.flatMap (fun r : Nat => encodeRune (r : Int)))
  | [], _ => rfl
  | r :: rs, h => by
    have ih := sp2_codes rs (fun x hx => h x (by simp [hx]))
    have hr := h r (by simp)
    rw [List.flatMap_cons, List.flatMap_cons]
    by_cases hp : plainRune r = true
    · rw [codeOf_plain hp]
      simp only [plainRune, Bool.or_eq_true, Bool.and_eq_true, decide_eq_true_eq] at hp
      have hne : UInt8.ofNat r ≠ 61 := by
        intro e
        have := congrArg UInt8.toNat e
        simp at this
        omega
      rw [List.cons_append, List.nil_append, sp2_plain _ _ hne, ih, Option.map_some]
      congr 1
      unfold encodeRune
      rw [encodeRuneZ_one (by omega) (by omega)]
      simp
    · rw [codeOf_hex hp, List.cons_append, sp2_mark, List.append_assoc]
      unfold hexL
      rw [sp2_hexF 16 r _ (by have := ok_le hr; omega) (ok_le hr) (by omega), List.cons_append, List.nil_append, sp2_close r _ hr, ih, Option.map_some]

theorem sp2_enc (l : List UInt8) (h : nameOk l = true) : sp2 none (encL l) = some l := by
  unfold encL
  rw [sp2_codes _ (rune_ok l)]
  congr 1
  refine utf8_of_runes l ?_
  simp only [nameOk, Bool.and_eq_true] at h
  exact h.2

theorem decL_sp_none {c : List UInt8} (h : sp2 none c = none) : decL c = none := by
  cases hd : decL c with
  | none => rfl
  | some n =>
    obtain ⟨h1, h2⟩ := dec_some hd
    have := sp2_enc n h1
    rw [h2, h] at this
    cases this
theorem decL_sp_bad {c n : List UInt8} (h : sp2 none c = some n) (hn : ¬ (nameOk n = true ∧ encL n = c)) : decL c = none := by
  cases hd : decL c with
  | none => rfl
  | some m =>
    obtain ⟨h1, h2⟩ := dec_some hd
    have := sp2_enc m h1
    rw [h2, h] at this
    cases this
    exact absurd ⟨h1, h2⟩ hn
theorem decL_sp_ok {c n : List UInt8} (h1 : nameOk n = true) (h2 : encL n = c) : decL c = some n := by
  rw [← h2]; exact dec_enc n h1

/-- where the reader's outer loop stands -/
def SpAt (l acc r : List UInt8) : Prop := sp2 none l = (sp2 none r).map (acc ++ ·)
theorem SpAt.start (l : List UInt8) : SpAt l [] l := by
  unfold SpAt
  cases sp2 none l <;> simp
theorem SpAt.plain {l acc : List UInt8} {c : UInt8} {t : List UInt8} (h : SpAt l acc (c :: t)) (hc : c ≠ 61) : SpAt l (acc ++ [c]) t := by
  unfold SpAt at h ⊢
  rw [h, sp2_plain c t hc]
  cases sp2 none t <;> simp
theorem SpAt.last {l acc : List UInt8} (h : SpAt l acc []) : sp2 none l = some acc := by
  unfold SpAt at h
  rw [h, sp2_nil]
  simp
/-- where its inner loop stands -/
def SiAt (l acc : List UInt8) (r : Nat) (t : List UInt8) : Prop := sp2 none l = (sp2 (some r) t).map (acc ++ ·)
theorem SpAt.mark {l acc t : List UInt8} (h : SpAt l acc (61 :: t)) : SiAt l acc 0 t := by
  unfold SpAt at h
  unfold SiAt
  rw [h, sp2_mark]
theorem SiAt.digit {l acc : List UInt8} {r : Nat} {c : UInt8} {t : List UInt8} (h : SiAt l acc r (c :: t)) (hc : c ≠ 61) {d : Nat} (hd : hexVal c = some d) (hr : ¬ 1114111 < r) : SiAt l acc (r * 16 + d) t := by
  unfold SiAt at h ⊢
  rw [h, sp2_digit r d c t hc hd hr]
theorem SiAt.close {l acc : List UInt8} {r : Nat} {t : List UInt8} (h : SiAt l acc r (61 :: t)) (hr : runeOkB r = true) : SpAt l (acc ++ encodeRune (r : Int)) t := by
  unfold SiAt at h
  unfold SpAt
  rw [h, sp2_close r t hr]
  cases sp2 none t <;> simp
theorem SiAt.bad {l acc : List UInt8} {r : Nat} {t : List UInt8} (h : SiAt l acc r t) (hn : sp2 (some r) t = none) : decL l = none := by
  unfold SiAt at h
  rw [hn] at h
  exact decL_sp_none h
theorem SiAt.badEnd {l acc : List UInt8} {r : Nat} (h : SiAt l acc r []) : decL l = none := h.bad (sp2_end r)
theorem SiAt.badDigit {l acc : List UInt8} {r : Nat} {c : UInt8} {t : List UInt8} (h : SiAt l acc r (c :: t)) (hc : c ≠ 61) (hd : hexVal c = none) : decL l = none := h.bad (sp2_noDigit r c t hc hd)
theorem SiAt.badGreat {l acc : List UInt8} {r : Nat} {c : UInt8} {t : List UInt8} (h : SiAt l acc r (c :: t)) (hc : c ≠ 61) (hr : 1114111 < r) : decL l = none := h.bad (sp2_great r c t hc hr)
theorem SiAt.badClose {l acc : List UInt8} {r : Nat} {t : List UInt8} (h : SiAt l acc r (61 :: t)) (hr : ¬ runeOkB r = true) : decL l = none := h.bad (sp2_closeBad r t hr)

/-! ### the maker of codes -/

/-- where its loop stands: how many runes are behind, the code so far, the text that is still to come -/
def RefAt (l : List UInt8) (n : Nat) (code r : List UInt8) : Prop :=
  ∃ pre, runes l = pre ++ runes r ∧ pre.length = n ∧ pre.all fineRune = true ∧ code = pre.flatMap codeOf
theorem RefAt.start (l : List UInt8) : RefAt l 0 [] l := ⟨[], rfl, rfl, rfl, rfl⟩
theorem RefAt.go {l code r : List UInt8} {n : Nat} (h : RefAt l n code r) (hr : r ≠ []) (hf : fineRune (dec r).1 = true) : RefAt l (n + 1) (code ++ codeOf (dec r).1) (r.drop (dec r).2) := by
  obtain ⟨pre, h1, h2, h3, h4⟩ := h
  refine ⟨pre ++ [(dec r).1], ?_, by simp [h2], by simp [h3, hf], by rw [h4]; simp⟩
  rw [h1, runes_step r hr]
  simp
theorem RefAt.bad {l code r : List UInt8} {n : Nat} (h : RefAt l n code r) (hr : r ≠ []) (hf : fineRune (dec r).1 = false) : nameOk l = false := by
  obtain ⟨pre, h1, h2, h3, h4⟩ := h
  unfold nameOk
  rw [h1, runes_step r hr]
  simp [hf]
theorem RefAt.last {l code : List UInt8} {n : Nat} (h : RefAt l n code []) : nameOk l = (decide (0 < n) && decide (n ≤ 8)) ∧ encL l = code := by
  obtain ⟨pre, h1, h2, h3, h4⟩ := h
  have e : runes l = pre := by rw [h1]; simp [runes_nil]
  unfold nameOk encL
  rw [e, h2, h3, h4]
  simp
theorem RefAt.len {l code r : List UInt8} {n : Nat} (h : RefAt l n code r) : code.length ≤ 8 * n := by
  obtain ⟨pre, h1, h2, h3, h4⟩ := h
  have hall : ∀ x ∈ pre, x ≤ 1114111 := fun x hx => rune_le l x (by rw [h1]; simp [hx])
  rw [h4, ← h2]
  clear h1 h2 h3 h4
  induction pre with
  | nil => simp
  | cons a t ih =>
    have ha := code_len a (hall a (by simp))
    have hi := ih (fun x hx => hall x (by simp [hx]))
    rw [List.flatMap_cons, List.length_append, List.length_cons]
    omega

/-! ### one rune, by its bytes -/

/-- the number behind k bytes more -/
def racc (c0 : Nat) (l : List UInt8) : Nat → Nat
  | 0 => c0
  | k + 1 => racc c0 l k * 64 + bat l (k + 1) % 64

def leastOf (n : Nat) : Nat := if n = 2 then 128 else if n = 3 then 2048 else if n = 4 then 65536 else 0

/-- a first byte that says how many there are, and what it brings itself -/
def Lead (c n c0 : Nat) : Prop := (n = 2 ∧ 192 ≤ c ∧ c < 224 ∧ c0 = c - 192) ∨ (n = 3 ∧ 224 ≤ c ∧ c < 240 ∧ c0 = c - 224) ∨ (n = 4 ∧ 240 ≤ c ∧ c < 248 ∧ c0 = c - 240)

theorem contB_of {l : List UInt8} {k : Nat} (h1 : k < l.length) (h2 : 128 ≤ bat l k) (h3 : bat l k ≤ 191) : contB l k = true := by
  simp only [contB, Bool.and_eq_true, decide_eq_true_eq, beq_iff_eq]
  omega
theorem contB_no {l : List UInt8} {k : Nat} (h : bat l k < 128 ∨ 191 < bat l k) : contB l k = false := by
  rw [Bool.eq_false_iff]
  simp only [contB, ne_eq, Bool.and_eq_true, decide_eq_true_eq, beq_iff_eq]
  have := bat_lt l k
  omega
theorem contB_short {l : List UInt8} {k : Nat} (h : l.length ≤ k) : contB l k = false := by
  rw [Bool.eq_false_iff]
  simp only [contB, ne_eq, Bool.and_eq_true, decide_eq_true_eq, beq_iff_eq]
  omega

theorem dec_ascii {l : List UInt8} (h : bat l 0 < 128) : dec l = (bat l 0, 1) := by unfold dec; rw [if_pos h]

/-- a first byte that is none -/
theorem dec_nolead {l : List UInt8} (h1 : 128 ≤ bat l 0) (h2 : bat l 0 < 192 ∨ 248 ≤ bat l 0) : dec l = (65533, 1) := by
  unfold dec
  have := bat_lt l 0
  have e1 : (bat l 0 / 32 == 6) = false := by rw [beq_eq_false_iff_ne]; omega
  have e2 : (bat l 0 / 16 == 14) = false := by rw [beq_eq_false_iff_ne]; omega
  have e3 : (bat l 0 / 8 == 30) = false := by rw [beq_eq_false_iff_ne]; omega
  rw [if_neg (by omega), e1, e2, e3]
  simp

/-- one of the bytes that must follow is none -/
theorem dec_nocont {l : List UInt8} {n c0 k : Nat} (h : Lead (bat l 0) n c0) (hk1 : 1 ≤ k) (hk : k < n) (hc : contB l k = false) : dec l = (65533, 1) := by
  unfold dec
  have := bat_lt l 0
  rcases h with ⟨rfl, h1, h2, _⟩ | ⟨rfl, h1, h2, _⟩ | ⟨rfl, h1, h2, _⟩
  · have : k = 1 := by omega
    subst this
    have e2 : (bat l 0 / 16 == 14) = false := by rw [beq_eq_false_iff_ne]; omega
    have e3 : (bat l 0 / 8 == 30) = false := by rw [beq_eq_false_iff_ne]; omega
    rw [if_neg (by omega), hc, e2, e3]
    simp
  · have e1 : (bat l 0 / 32 == 6) = false := by rw [beq_eq_false_iff_ne]; omega
    have e3 : (bat l 0 / 8 == 30) = false := by rw [beq_eq_false_iff_ne]; omega
    have : k = 1 ∨ k = 2 := by omega
    rcases this with rfl | rfl <;> rw [if_neg (by omega), hc, e1, e3] <;> simp
  · have e1 : (bat l 0 / 32 == 6) = false := by rw [beq_eq_false_iff_ne]; omega
    have e2 : (bat l 0 / 16 == 14) = false := by rw [beq_eq_false_iff_ne]; omega
    have : k = 1 ∨ k = 2 ∨ k = 3 := by omega
    rcases this with rfl | rfl | rfl <;> rw [if_neg (by omega), hc, e1, e2] <;> simp

/-- all bytes that must follow do -/
theorem dec_whole {l : List UInt8} {n c0 : Nat} (h : Lead (bat l 0) n c0) (hc : ∀ k, 1 ≤ k → k < n → contB l k = true) :
    dec l = if (decide (leastOf n ≤ racc c0 l (n - 1)) && runeOkB (racc c0 l (n - 1))) = true then (racc c0 l (n - 1), n) else (65533, 1) := by
  unfold dec
  have hb := bat_lt l 0
  rcases h with ⟨rfl, h1, h2, h0⟩ | ⟨rfl, h1, h2, h0⟩ | ⟨rfl, h1, h2, h0⟩
  · have e1 : (bat l 0 / 32 == 6) = true := by rw [beq_iff_eq]; omega
    rw [if_neg (by omega), e1, hc 1 (by omega) (by omega)]
    have hr : racc c0 l (2 - 1) = bat l 0 % 32 * 64 + bat l 1 % 64 := by
      have e : racc c0 l (2 - 1) = c0 * 64 + bat l 1 % 64 := rfl
      rw [e]; omega
    rw [hr]
    have hok : runeOkB (bat l 0 % 32 * 64 + bat l 1 % 64) = true := by
      simp only [runeOkB, Bool.or_eq_true, Bool.and_eq_true, decide_eq_true_eq]; omega
    rw [hok]
    simp [leastOf]
  · have e1 : (bat l 0 / 32 == 6) = false := by rw [beq_eq_false_iff_ne]; omega
    have e2 : (bat l 0 / 16 == 14) = true := by rw [beq_iff_eq]; omega
    rw [if_neg (by omega), e1, e2, hc 1 (by omega) (by omega), hc 2 (by omega) (by omega)]
    have hr : racc c0 l (3 - 1) = bat l 0 % 16 * 4096 + bat l 1 % 64 * 64 + bat l 2 % 64 := by
      have e : racc c0 l (3 - 1) = (c0 * 64 + bat l 1 % 64) * 64 + bat l 2 % 64 := rfl
      rw [e]; omega
    rw [hr]
    simp [leastOf]
  · have e1 : (bat l 0 / 32 == 6) = false := by rw [beq_eq_false_iff_ne]; omega
    have e2 : (bat l 0 / 16 == 14) = false := by rw [beq_eq_false_iff_ne]; omega
    have e3 : (bat l 0 / 8 == 30) = true := by rw [beq_iff_eq]; omega
    rw [if_neg (by omega), e1, e2, e3, hc 1 (by omega) (by omega), hc 2 (by omega) (by omega), hc 3 (by omega) (by omega)]
    have hr : racc c0 l (4 - 1) = bat l 0 % 8 * 262144 + bat l 1 % 64 * 4096 + bat l 2 % 64 * 64 + bat l 3 % 64 := by
      have e : racc c0 l (4 - 1) = ((c0 * 64 + bat l 1 % 64) * 64 + bat l 2 % 64) * 64 + bat l 3 % 64 := rfl
      rw [e]; omega
    rw [hr]
    simp [leastOf]

theorem racc_lt {l : List UInt8} {n c0 : Nat} (h : Lead (bat l 0) n c0) : ∀ k, k < n → racc c0 l k < 2097152 := by
  have h0 : c0 < 32 ∧ (n = 3 → c0 < 16) ∧ (n = 4 → c0 < 8) ∧ n ≤ 4 := by
    rcases h with ⟨rfl, h1, h2, h0⟩ | ⟨rfl, h1, h2, h0⟩ | ⟨rfl, h1, h2, h0⟩ <;> omega
  intro k hk
  have : k = 0 ∨ k = 1 ∨ k = 2 ∨ k = 3 := by omega
  have e1 : racc c0 l 1 = c0 * 64 + bat l 1 % 64 := rfl
  have e2 : racc c0 l 2 = racc c0 l 1 * 64 + bat l 2 % 64 := rfl
  have e3 : racc c0 l 3 = racc c0 l 2 * 64 + bat l 3 % 64 := rfl
  have e0 : racc c0 l 0 = c0 := rfl
  rcases this with rfl | rfl | rfl | rfl <;> omega

end Mb
end Go.Proofs.YtldgiecjnmkajaaGreatDoor
