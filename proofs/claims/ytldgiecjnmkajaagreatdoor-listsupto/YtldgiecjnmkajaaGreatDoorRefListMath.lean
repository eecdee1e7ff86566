/-
  OWN TEXT (plain mathematics, nothing of the program): the document's answer to lists and their texts, read byte by byte, and that it is the same.
-/
import Derived.Test.YtldgiecjnmkajaaGreatDoorListMath
namespace Go.Proofs.YtldgiecjnmkajaaGreatDoor
namespace Mb
open Go.Lib

/-! ### flags -/

def letters : List UInt8 := [97, 100, 102, 115]
def flagsRef (l : List UInt8) : List UInt8 := letters.filter (fun c => l.contains c)

theorem letters_ok (p : UInt8 → Bool) : flagsOk (letters.filter p) = true := by
  simp only [letters, List.filter_cons, List.filter_nil]
  cases p 97 <;> cases p 100 <;> cases p 102 <;> cases p 115 <;> rfl

theorem flags_ref (l : List UInt8) : flagsOk l = decide (flagsRef l = l) := by
  rw [Bool.eq_iff_iff, decide_eq_true_eq]
  constructor
  · intro h
    have hl := flagsOk_len h
    have hm := flagsOk_mem h
    match l, h, hl, hm with
    | [], _, _, _ => rfl
    | [a], _, _, hm => rcases hm a (by simp) with rfl | rfl | rfl | rfl <;> rfl
    | [a, b], h, _, hm => rcases hm a (by simp) with rfl | rfl | rfl | rfl <;> rcases hm b (by simp) with rfl | rfl | rfl | rfl <;> first | rfl | exact absurd h (by decide)
    | [a, b, c], h, _, hm => rcases hm a (by simp) with rfl | rfl | rfl | rfl <;> rcases hm b (by simp) with rfl | rfl | rfl | rfl <;> rcases hm c (by simp) with rfl | rfl | rfl | rfl <;> first | rfl | exact absurd h (by decide)
    | [a, b, c, d], h, _, hm => rcases hm a (by simp) with rfl | rfl | rfl | rfl <;> rcases hm b (by simp) with rfl | rfl | rfl | rfl <;> rcases hm c (by simp) with rfl | rfl | rfl | rfl <;> rcases hm d (by simp) with rfl | rfl | rfl | rfl <;> first | rfl | exact absurd h (by decide)
    | _ :: _ :: _ :: _ :: _ :: _, _, hl, _ => simp at hl
  · intro h
    have := letters_ok (fun c => l.contains c)
    rw [show letters.filter (fun c => l.contains c) = l from h] at this
    exact this

/-! ### numbers -/

def numFold (acc : Nat) : List UInt8 → Option Nat
  | [] => some acc
  | c :: t => if 48 ≤ c.toNat ∧ c.toNat ≤ 57 then numFold (10 * acc + (c.toNat - 48)) t else none
def numBad (l : List UInt8) : Prop := l = [] ∨ 6 < l.length ∨ (1 < l.length ∧ l.head? = some 48)
instance (l : List UInt8) : Decidable (numBad l) := by unfold numBad; infer_instance
def numL (l : List UInt8) (most : Nat) : Option Nat :=
  if numBad l then none else match numFold 0 l with
    | none => none
    | some n => if most < n then none else some n
/-- what Number answers -/
def numV (l : List UInt8) (most : Nat) : Int := match numL l most with
  | none => -1
  | some n => n

theorem numV_le (l : List UInt8) (most : Nat) : -1 ≤ numV l most ∧ numV l most ≤ most := by
  unfold numV numL
  split
  · omega
  · rename_i n h
    split at h
    · cases h
    · split at h
      · cases h
      · split at h
        · cases h
        · cases h; omega

theorem num_less {l : List UInt8} {a b n : Nat} (h : numL l a = some n) (hb : n ≤ b) : numL l b = some n := by
  unfold numL at h ⊢
  split at h
  · cases h
  · rename_i hbad
    rw [if_neg hbad]
    split at h
    · cases h
    · rename_i m hm
      split at h
      · cases h
      · cases h
        rw [if_neg (by omega)]

theorem num_dec : ∀ n : Fin 1000, numL (decDigits n.val) 999 = some n.val := by decide +kernel

theorem num_itoa (n : Int) (h0 : 0 ≤ n) (most : Nat) (h1 : n ≤ most) (hm : most ≤ 999) : numL (itoa n) most = some n.toNat := by
  obtain ⟨k, rfl⟩ : ∃ k : Nat, n = k := ⟨n.toNat, by omega⟩
  rw [itoa_nat]
  have := num_dec ⟨k, by omega⟩
  simp only at this
  rw [Int.toNat_natCast]
  exact num_less this (by omega)
theorem numV_itoa (n : Int) (h0 : 0 ≤ n) (most : Nat) (h1 : n ≤ most) (hm : most ≤ 999) : numV (itoa n) most = n := by
  unfold numV
  rw [num_itoa n h0 most h1 hm]
  simp only
  omega

/-! ### cutting -/

def cutL (c : UInt8) : List UInt8 → Option (List UInt8 × List UInt8)
  | [] => none
  | b :: t => if b = c then some ([], t) else (cutL c t).map (fun x => (b :: x.1, x.2))

theorem cutL_app (c : UInt8) : ∀ (l r : List UInt8), (∀ b ∈ l, b ≠ c) → cutL c (l ++ c :: r) = some (l, r)
  | [], r, _ => by simp [cutL]
  | b :: l, r, h => by
    rw [List.cons_append, cutL, if_neg (h b (by simp)), cutL_app c l r (fun x hx => h x (by simp [hx]))]
    rfl
theorem cutL_none (c : UInt8) : ∀ (l : List UInt8), (∀ b ∈ l, b ≠ c) → cutL c l = none
  | [], _ => rfl
  | b :: l, h => by rw [cutL, if_neg (h b (by simp)), cutL_none c l (fun x hx => h x (by simp [hx]))]; rfl

/-- what stands in a list for flags; none: nothing -/
def askL (f : List UInt8) : Option (List UInt8) := if f = [45] then some [] else if flagsOk f = true ∧ f ≠ [] then some f else none

theorem askL_tell {f : List UInt8} (h : flagsOk f = true) : askL (tell f) = some f := by
  unfold askL tell
  by_cases hf : f = []
  · rw [if_pos hf, if_pos rfl, hf]
  · rw [if_neg hf]
    have hne : f ≠ [45] := by
      intro e
      have := flagsOk_mem h 45 (by rw [e]; simp)
      revert this
      decide
    rw [if_neg hne, if_pos ⟨h, hf⟩]

/-- a line of a list that speaks of a message -/
def entL (line : List UInt8) : Option Ent := match cutL 32 line with
  | none => none
  | some (k, rest) => match cutL 32 rest with
    | none => none
    | some (u, f) => match askL f, numL k 999, numL u 99 with
      | some g, some a, some b => some ⟨a, b, g⟩
      | _, _, _ => none

theorem entL_line {x : Ent} (h : entFine x) : entL (entLine x) = some x := by
  obtain ⟨h1, h2, h3, h4, h5⟩ := h
  unfold entL entLine
  rw [cutL_app 32 _ _ (itoa_ne32 _ (by omega))]
  simp only
  rw [cutL_app 32 _ _ (itoa_ne32 _ (by omega))]
  simp only
  rw [askL_tell h5, num_itoa _ (by omega) 999 (by omega) (by omega), num_itoa _ (by omega) 99 (by omega) (by omega)]
  simp only
  obtain ⟨k, u, f⟩ := x
  simp only at h1 h2 h3 h4
  simp only [Option.some.injEq, Ent.mk.injEq, and_true]
  omega

/-- the lines behind the head (with fuel: the length and one is enough) -/
def entsF : Nat → List UInt8 → Option (List Ent)
  | 0, _ => none
  | f + 1, l => match cutL 10 l with
    | none => none
    | some (line, rest) => if rest = [] then some [] else match entL line with
      | none => none
      | some x => (entsF f rest).map (x :: ·)

theorem cutL_len {c : UInt8} : ∀ {l p r : List UInt8}, cutL c l = some (p, r) → r.length < l.length
  | [], p, r, h => by cases h
  | b :: t, p, r, h => by
    rw [cutL] at h
    split at h
    · cases h; simp
    · cases hc : cutL c t with
      | none => rw [hc] at h; cases h
      | some x =>
        rw [hc] at h
        obtain ⟨p', r'⟩ := x
        simp only [Option.map_some, Option.some.injEq, Prod.mk.injEq] at h
        have := cutL_len hc
        rw [← h.2]
        simp only [List.length_cons]
        omega

theorem entsF_fuel : ∀ (f g : Nat) (l : List UInt8), l.length < f → l.length < g → entsF f l = entsF g l
  | 0, _, l, h, _ => by omega
  | _, 0, l, _, h => by omega
  | f + 1, g + 1, l, hf, hg => by
    rw [entsF, entsF]
    cases hc : cutL 10 l with
    | none => rfl
    | some x =>
      obtain ⟨line, rest⟩ := x
      have := cutL_len hc
      simp only
      rw [entsF_fuel f g rest (by omega) (by omega)]

def entsL (l : List UInt8) : Option (List Ent) := entsF (l.length + 1) l

theorem entsL_none {l : List UInt8} (h : cutL 10 l = none) : entsL l = none := by unfold entsL; rw [entsF, h]
theorem entsL_last {l line : List UInt8} (h : cutL 10 l = some (line, [])) : entsL l = some [] := by unfold entsL; rw [entsF, h]; simp
theorem entsL_bad {l line rest : List UInt8} (h : cutL 10 l = some (line, rest)) (hr : rest ≠ []) (he : entL line = none) : entsL l = none := by
  unfold entsL; rw [entsF, h]; simp only; rw [if_neg hr, he]
theorem entsL_go {l line rest : List UInt8} {x : Ent} (h : cutL 10 l = some (line, rest)) (hr : rest ≠ []) (he : entL line = some x) : entsL l = (entsL rest).map (x :: ·) := by
  have := cutL_len h
  unfold entsL
  rw [entsF, h]
  simp only
  rw [if_neg hr, he]
  simp only
  rw [entsF_fuel l.length (rest.length + 1) rest (by omega) (by omega)]

theorem entsL_lines : ∀ (xs : List Ent) (last : List UInt8), (∀ x ∈ xs, entFine x) → (∀ b ∈ last, b ≠ 10) → entsL (joinNl (xs.map entLine) ++ (last ++ [10])) = some xs
  | [], last, _, hl => by
    rw [List.map_nil, joinNl_nil, List.nil_append]
    exact entsL_last (line := last) (cutL_app 10 last [] hl)
  | x :: r, last, h, hl => by
    have hx := h x (by simp)
    rw [List.map_cons, joinNl_cons, List.append_assoc, List.cons_append]
    rw [entsL_go (cutL_app 10 _ _ (entLine_ne10 hx)) (by simp) (entL_line hx), entsL_lines r last (fun y hy => h y (by simp [hy])) hl]
    rfl

/-- what the lines of a text say -/
def parseR (data : List UInt8) : Option (Int × Int × List Ent) := match cutL 10 data with
  | none => none
  | some (line, rest) => match cutL 32 line with
    | none => none
    | some (e, n) => match entsL rest with
      | none => none
      | some xs => some (numV e 99, numV n 100, xs)

theorem parseR_text {e n : Int} {xs : List Ent} (h : Fine e n xs) : parseR (textOf e n xs) = some (e, n, xs) := by
  have h1 := h.e1; have h2 := h.e2; have h3 := h.n1; have h4 := h.n2
  have ht : textOf e n xs = headLine e n ++ 10 :: (joinNl (xs.map entLine) ++ (itoa (sumOf (bodyOf e n xs)) ++ [10])) := by
    unfold textOf
    conv => lhs; unfold bodyOf
    rw [joinNl_cons]
    simp [bodyOf, joinNl_cons]
  unfold parseR
  rw [ht, cutL_app 10 _ _ (headLine_ne10 (by omega) (by omega))]
  simp only
  unfold headLine
  rw [cutL_app 32 _ _ (itoa_ne32 _ (by omega))]
  simp only
  rw [entsL_lines xs _ h.ents (sumLine_ne10 _), numV_itoa e (by omega) 99 (by omega) (by omega), numV_itoa n (by omega) 100 (by omega) (by omega)]

theorem readL_none {data : List UInt8} (h : parseR data = none) : readL data = none := by
  cases hd : readL data with
  | none => rfl
  | some x =>
    obtain ⟨e, n, xs⟩ := x
    obtain ⟨h1, h2⟩ := read_some hd
    have := parseR_text (listOk_fine h1)
    rw [h2, h] at this
    cases this
theorem readL_bad {data : List UInt8} {e n : Int} {xs : List Ent} (h : parseR data = some (e, n, xs)) (hn : ¬ (listOk e n xs = true ∧ textOf e n xs = data)) : readL data = none := by
  cases hd : readL data with
  | none => rfl
  | some x =>
    obtain ⟨e', n', xs'⟩ := x
    obtain ⟨h1, h2⟩ := read_some hd
    have := parseR_text (listOk_fine h1)
    rw [h2, h] at this
    cases this
    exact absurd ⟨h1, h2⟩ hn
theorem readL_ok {data : List UInt8} {e n : Int} {xs : List Ent} (h1 : listOk e n xs = true) (h2 : textOf e n xs = data) : readL data = some (e, n, xs) := by
  rw [← h2]; exact read_text h1

end Mb
end Go.Proofs.YtldgiecjnmkajaaGreatDoor
