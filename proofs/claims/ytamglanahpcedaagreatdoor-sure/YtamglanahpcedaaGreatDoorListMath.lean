/-
  OWN TEXT (plain mathematics, nothing of the program): the text of a list, what reading makes of it, and that a text with one byte turned, one byte missing or one byte too many is no list's text.
-/
import Derived.Lib.AtoiAllCases
import Derived.Lib.ItoaNum
namespace Go.Proofs.YtamglanahpcedaaGreatDoor
namespace Mb
open Go.Lib

/-! ### cutting at a byte -/

def splitC (c : UInt8) : List UInt8 → List (List UInt8)
  | [] => [[]]
  | b :: r => if b = c then [] :: splitC c r else
    match splitC c r with
    | [] => [[b]]
    | h :: t => (b :: h) :: t

theorem splitC_ne (c : UInt8) (l : List UInt8) : splitC c l ≠ [] := by
  cases l with
  | nil => simp [splitC]
  | cons b r =>
    unfold splitC
    split
    · simp
    · split <;> simp

theorem splitC_free (c : UInt8) : ∀ (l : List UInt8), (∀ b ∈ l, b ≠ c) → splitC c l = [l]
  | [], _ => rfl
  | b :: r, h => by
    unfold splitC
    rw [if_neg (h b (by simp)), splitC_free c r (fun x hx => h x (by simp [hx]))]

theorem splitC_app (c : UInt8) : ∀ (l r : List UInt8), (∀ b ∈ l, b ≠ c) → splitC c (l ++ c :: r) = l :: splitC c r
  | [], r, _ => by simp [splitC]
  | b :: l, r, h => by
    rw [List.cons_append, splitC, if_neg (h b (by simp)), splitC_app c l r (fun x hx => h x (by simp [hx]))]

/-- lines, each with a newline behind it -/
def joinNl (ls : List (List UInt8)) : List UInt8 := ls.flatMap (· ++ [10])

theorem joinNl_nil : joinNl [] = [] := rfl
theorem joinNl_cons (a : List UInt8) (ls : List (List UInt8)) : joinNl (a :: ls) = a ++ 10 :: joinNl ls := by simp [joinNl]
theorem joinNl_append (a b : List (List UInt8)) : joinNl (a ++ b) = joinNl a ++ joinNl b := by simp [joinNl]
theorem joinNl_snoc (a : List (List UInt8)) (l : List UInt8) : joinNl (a ++ [l]) = joinNl a ++ l ++ [10] := by simp [joinNl]

theorem splitC_joinNl : ∀ (ls : List (List UInt8)), (∀ l ∈ ls, ∀ b ∈ l, b ≠ 10) → splitC 10 (joinNl ls) = ls ++ [[]]
  | [], _ => rfl
  | a :: ls, h => by
    rw [joinNl_cons, splitC_app 10 a _ (h a (by simp)), splitC_joinNl ls (fun l hl => h l (by simp [hl]))]; rfl

/-! ### numbers -/

def digit (b : UInt8) : Prop := 48 ≤ b.toNat ∧ b.toNat ≤ 57

theorem digit_of (k : Nat) (h : k < 10) : digit (UInt8.ofNat (48 + k)) := by
  unfold digit
  rw [UInt8.toNat_ofNat']
  omega

theorem decDigits_digit (u : Nat) : ∀ b ∈ decDigits u, digit b := by
  induction u using Nat.strongRecOn with
  | _ u ih =>
    intro b hb
    rw [decDigits] at hb
    split at hb
    · rename_i h; rw [List.mem_singleton] at hb; subst hb; exact digit_of u h
    · rename_i h
      simp only [List.mem_append, List.mem_singleton] at hb
      rcases hb with hb | hb
      · exact ih (u / 10) (by omega) b hb
      · subst hb; exact digit_of _ (by omega)

theorem decDigits_ne (u : Nat) : decDigits u ≠ [] := by
  rw [decDigits]; split <;> simp

theorem parse_snoc (d : Nat) (hd : d < 10) : ∀ (l : List UInt8) (acc v : Nat), parseUint10 acc l = .ok v → v * 10 + d < 18446744073709551616 → acc ≤ v →
    parseUint10 acc (l ++ [UInt8.ofNat (48 + d)]) = .ok (v * 10 + d)
  | [], acc, v, h, hv, _ => by
    simp only [parseUint10] at h
    injection h with h; subst h
    have e : (UInt8.ofNat (48 + d)).toNat = 48 + d := by rw [UInt8.toNat_ofNat']; omega
    simp only [List.nil_append, parseUint10, e]
    rw [if_pos (by omega), if_neg (by omega), if_neg (by omega)]
    rw [show acc * 10 + (48 + d - 48) = acc * 10 + d by omega]
  | c :: r, acc, v, h, hv, hle => by
    simp only [List.cons_append, parseUint10] at h ⊢
    split at h
    · rename_i hc
      rw [if_pos hc]
      split at h
      · cases h
      · rename_i h1
        rw [if_neg h1]
        split at h
        · cases h
        · rename_i h2
          rw [if_neg h2]
          have hm := parseUint10_ge r _ v h
          exact parse_snoc d hd r _ v h hv hm
    · cases h
where
  parseUint10_ge : ∀ (l : List UInt8) (acc v : Nat), parseUint10 acc l = .ok v → acc ≤ v
    | [], acc, v, h => by simp only [parseUint10] at h; injection h with h; omega
    | c :: r, acc, v, h => by
      simp only [parseUint10] at h
      split at h
      · split at h
        · cases h
        · split at h
          · cases h
          · have := parseUint10_ge r _ v h; omega
      · cases h

theorem parse_digits (u : Nat) (hu : u < 18446744073709551616) : parseUint10 0 (decDigits u) = .ok u := by
  induction u using Nat.strongRecOn with
  | _ u ih =>
    rw [decDigits]
    split
    · rename_i h
      have := parse_snoc u h [] 0 0 rfl (by omega) (by omega)
      simpa using this
    · rename_i h
      have h1 := ih (u / 10) (by omega) (by omega)
      have := parse_snoc (u % 10) (by omega) (decDigits (u / 10)) 0 (u / 10) h1 (by omega) (by omega)
      rw [this]; congr 1; omega

theorem itoa_nat (n : Nat) : itoa (n : Int) = decDigits n := by
  unfold itoa; rw [if_neg (by omega)]; rfl

theorem itoa_digit (n : Int) (h : 0 ≤ n) : ∀ b ∈ itoa n, digit b := by
  obtain ⟨k, rfl⟩ := Int.eq_ofNat_of_zero_le h
  rw [itoa_nat]; exact decDigits_digit k
theorem itoa_ne (n : Int) (h : 0 ≤ n) : itoa n ≠ [] := by
  obtain ⟨k, rfl⟩ := Int.eq_ofNat_of_zero_le h
  rw [itoa_nat]; exact decDigits_ne k

theorem atoi_itoa (n : Int) (h : 0 ≤ n) (h1 : n < 9223372036854775808) : atoiAll (itoa n) = .ok n := by
  obtain ⟨k, rfl⟩ := Int.eq_ofNat_of_zero_le h
  have hp := parse_digits k (by omega)
  have hdg := decDigits_digit k
  rw [itoa_nat]
  cases hl : decDigits k with
  | nil => exact absurd hl (decDigits_ne k)
  | cons c r =>
    rw [hl] at hp hdg
    have hc := hdg c (by simp)
    unfold digit at hc
    rw [atoiAll_plain c r (by omega) (by omega)]
    unfold parseMag
    rw [if_neg (by simp), hp]
    unfold signless
    simp only
    rw [if_neg (by omega)]

theorem itoa_inj (a b : Int) (ha : 0 ≤ a) (hb : 0 ≤ b) (ha1 : a < 9223372036854775808) (hb1 : b < 9223372036854775808) (h : itoa a = itoa b) : a = b := by
  have h1 := atoi_itoa a ha ha1
  rw [h, atoi_itoa b hb hb1] at h1
  injection h1 with h1; exact h1.symm

theorem nDigits_le (k u : Nat) (hk : 1 ≤ k) (h : u < 10 ^ k) : nDigits u ≤ k := by
  induction k generalizing u with
  | zero => omega
  | succ k ih =>
    by_cases hu : u < 10
    · rw [nDigits_small hu]; omega
    · rw [nDigits_big hu]
      cases k with
      | zero => omega
      | succ k =>
        have := ih (u / 10) (by omega) (by rw [Nat.pow_succ] at h; omega)
        omega

theorem itoa_len (k : Nat) (n : Int) (hk : 1 ≤ k) (h : 0 ≤ n) (h1 : n < (10 ^ k : Nat)) : (itoa n).length ≤ k := by
  obtain ⟨m, rfl⟩ := Int.eq_ofNat_of_zero_le h
  rw [itoa_nat, decDigits_length]
  exact nDigits_le k m hk (by omega)

/-! ### the sum -/

def sumFrom (n : Nat) : List UInt8 → Nat
  | [] => n
  | b :: r => sumFrom ((n * 31 + b.toNat) % 99991) r
def sumOf (l : List UInt8) : Nat := sumFrom 7 l

theorem sumFrom_lt : ∀ (l : List UInt8) (n : Nat), n < 99991 → sumFrom n l < 99991
  | [], _, h => h
  | b :: r, n, _ => sumFrom_lt r _ (Nat.mod_lt _ (by decide))
theorem sumOf_lt (l : List UInt8) : sumOf l < 99991 := sumFrom_lt l 7 (by decide)

theorem sumFrom_append : ∀ (a b : List UInt8) (n : Nat), sumFrom n (a ++ b) = sumFrom (sumFrom n a) b
  | [], _, _ => rfl
  | x :: a, b, n => by simp only [List.cons_append, sumFrom]; exact sumFrom_append a b _

theorem sumOf_snoc (a : List UInt8) (b : UInt8) : sumOf (a ++ [b]) = (sumOf a * 31 + b.toNat) % 99991 := by
  unfold sumOf; rw [sumFrom_append]; rfl

theorem step_inj (a b : Nat) (x : Nat) (ha : a < 99991) (hb : b < 99991) (h : (a * 31 + x) % 99991 = (b * 31 + x) % 99991) : a = b := by omega

theorem sumFrom_inj : ∀ (l : List UInt8) (a b : Nat), a < 99991 → b < 99991 → sumFrom a l = sumFrom b l → a = b
  | [], _, _, _, _, h => h
  | x :: r, a, b, ha, hb, h => by
    simp only [sumFrom] at h
    have := sumFrom_inj r _ _ (Nat.mod_lt _ (by decide)) (Nat.mod_lt _ (by decide)) h
    exact step_inj a b x.toNat ha hb this

/-- one byte turned: another sum -/
theorem sum_turned (p q : List UInt8) (x y : UInt8) (h : sumOf (p ++ x :: q) = sumOf (p ++ y :: q)) : x = y := by
  unfold sumOf at h
  rw [sumFrom_append, sumFrom_append] at h
  simp only [sumFrom] at h
  have := sumFrom_inj q _ _ (Nat.mod_lt _ (by decide)) (Nat.mod_lt _ (by decide)) h
  have hx := x.toNat_lt; have hy := y.toNat_lt
  exact UInt8.toNat_inj.1 (by omega)

/-! ### lists and their texts -/

/-- key, UID, flags -/
structure Ent where
  key : Int
  uid : Int
  flags : List UInt8

def tell (f : List UInt8) : List UInt8 := if f = [] then [45] else f
def meant (f : List UInt8) : List UInt8 := if f = [45] then [] else f

def headLine (e n : Int) : List UInt8 := itoa e ++ 32 :: itoa n
def entLine (x : Ent) : List UInt8 := itoa x.key ++ 32 :: (itoa x.uid ++ 32 :: tell x.flags)
def bodyOf (e n : Int) (xs : List Ent) : List UInt8 := joinNl (headLine e n :: xs.map entLine)
def textOf (e n : Int) (xs : List Ent) : List UInt8 := bodyOf e n xs ++ itoa (sumOf (bodyOf e n xs)) ++ [10]

/-- flags: letters out of adfs, in this order, each at most once -/
def rankOf (c : UInt8) : Int := if c = 97 then 0 else if c = 100 then 1 else if c = 102 then 2 else if c = 115 then 3 else -1
def flagsFrom (last : Int) : List UInt8 → Bool
  | [] => true
  | c :: r => decide (last < rankOf c) && flagsFrom (rankOf c) r
def flagsOk (f : List UInt8) : Bool := flagsFrom (-1) f

/-- is there an entry with this key? -/
def hasK (k : Int) : List Ent → Bool
  | [] => false
  | x :: r => (x.key == k) || hasK k r

theorem hasK_append (k : Int) : ∀ (a b : List Ent), hasK k (a ++ b) = (hasK k a || hasK k b)
  | [], _ => rfl
  | x :: a, b => by simp only [List.cons_append, hasK]; rw [hasK_append k a b, Bool.or_assoc]

theorem hasK_of_mem (k : Int) : ∀ (a : List Ent) (x : Ent), x ∈ a → (x.key == k) = true → hasK k a = true
  | y :: a, x, hx, h => by
    rw [List.mem_cons] at hx
    simp only [hasK, Bool.or_eq_true]
    rcases hx with rfl | hx
    · exact Or.inl h
    · exact Or.inr (hasK_of_mem k a x hx h)

/-- the entries behind others, 'prev', whose last UID is 'last' -/
def entsOk (next : Int) (prev : List Ent) (last : Int) : List Ent → Bool
  | [] => true
  | x :: r => decide (last < x.uid) && decide (x.uid < next) && decide (1 ≤ x.key) && decide (x.key ≤ 999) && !(hasK x.key prev) && flagsOk x.flags && entsOk next (prev ++ [x]) x.uid r
def listOk (e n : Int) (xs : List Ent) : Bool :=
  decide (1 ≤ e) && decide (e ≤ 99) && decide (1 ≤ n) && decide (n ≤ 100) && decide (xs.length ≤ 8) && entsOk n [] 0 xs

theorem flagsFrom_mem : ∀ (f : List UInt8) (last : Int), -1 ≤ last → flagsFrom last f = true → ∀ c ∈ f, c = 97 ∨ c = 100 ∨ c = 102 ∨ c = 115
  | [], _, _, _, c, hc => by cases hc
  | b :: r, last, hl, h, c, hc => by
    simp only [flagsFrom, Bool.and_eq_true, decide_eq_true_eq] at h
    have hb : b = 97 ∨ b = 100 ∨ b = 102 ∨ b = 115 := by
      have h1 := h.1
      unfold rankOf at h1
      split at h1
      · exact Or.inl (by assumption)
      · split at h1
        · exact Or.inr (Or.inl (by assumption))
        · split at h1
          · exact Or.inr (Or.inr (Or.inl (by assumption)))
          · split at h1
            · exact Or.inr (Or.inr (Or.inr (by assumption)))
            · omega
    rw [List.mem_cons] at hc
    rcases hc with rfl | hc
    · exact hb
    · exact flagsFrom_mem r (rankOf b) (by omega) h.2 c hc

theorem rankOf_le (c : UInt8) : rankOf c ≤ 3 := by
  unfold rankOf; split; omega; split; omega; split; omega; split <;> omega

theorem flagsFrom_len : ∀ (f : List UInt8) (last : Int), -1 ≤ last → last ≤ 3 → flagsFrom last f = true → (f.length : Int) ≤ 3 - last
  | [], last, _, h3, _ => by simp only [List.length_nil]; omega
  | b :: r, last, hl, _, h => by
    simp only [flagsFrom, Bool.and_eq_true, decide_eq_true_eq] at h
    have h1 := h.1
    have := flagsFrom_len r (rankOf b) (by omega) (rankOf_le b) h.2
    simp only [List.length_cons]
    omega

theorem flagsOk_len {f : List UInt8} (h : flagsOk f = true) : f.length ≤ 4 := by
  have := flagsFrom_len f (-1) (by omega) (by omega) h; omega
theorem flagsOk_mem {f : List UInt8} (h : flagsOk f = true) : ∀ c ∈ f, c = 97 ∨ c = 100 ∨ c = 102 ∨ c = 115 := flagsFrom_mem f (-1) (by omega) h

theorem meant_tell {f : List UInt8} (h : flagsOk f = true) : meant (tell f) = f := by
  unfold tell meant
  split
  · rename_i e; subst e; rfl
  · split
    · rename_i e
      subst e
      have := flagsOk_mem h 45 (by simp)
      rcases this with h | h | h | h <;> cases h
    · rfl

theorem tell_mem {f : List UInt8} (h : flagsOk f = true) : ∀ c ∈ tell f, c ≠ 10 ∧ c ≠ 32 := by
  intro c hc
  unfold tell at hc
  split at hc
  · rw [List.mem_singleton] at hc; subst hc; decide
  · rcases flagsOk_mem h c hc with rfl | rfl | rfl | rfl <;> decide
theorem tell_len {f : List UInt8} (h : flagsOk f = true) : (tell f).length ≤ 4 := by
  have := flagsOk_len h
  unfold tell; split
  · simp
  · exact this

theorem digit_ne {b : UInt8} (h : digit b) : b ≠ 10 ∧ b ≠ 32 := by
  unfold digit at h
  constructor
  · rintro rfl; simp at h
  · rintro rfl; simp at h

theorem itoa_ne10 (n : Int) (h : 0 ≤ n) : ∀ b ∈ itoa n, b ≠ 10 := fun b hb => (digit_ne (itoa_digit n h b hb)).1
theorem itoa_ne32 (n : Int) (h : 0 ≤ n) : ∀ b ∈ itoa n, b ≠ 32 := fun b hb => (digit_ne (itoa_digit n h b hb)).2

/-! what a right list's parts are -/

def entFine (x : Ent) : Prop := 1 ≤ x.key ∧ x.key ≤ 999 ∧ 1 ≤ x.uid ∧ x.uid ≤ 99 ∧ flagsOk x.flags = true

theorem entsOk_fine (next : Int) (hn : next ≤ 100) : ∀ (xs : List Ent) (keys : List Ent) (last : Int), 0 ≤ last → entsOk next keys last xs = true → ∀ x ∈ xs, entFine x
  | [], _, _, _, _, x, hx => by cases hx
  | y :: r, keys, last, hl, h, x, hx => by
    simp only [entsOk, Bool.and_eq_true, decide_eq_true_eq] at h
    obtain ⟨⟨⟨⟨⟨⟨h1, h2⟩, h3⟩, h4⟩, _⟩, h6⟩, h7⟩ := h
    rw [List.mem_cons] at hx
    rcases hx with rfl | hx
    · exact ⟨h3, h4, by omega, by omega, h6⟩
    · exact entsOk_fine next hn r _ _ (by omega) h7 x hx

structure Fine (e n : Int) (xs : List Ent) : Prop where
  e1 : 1 ≤ e
  e2 : e ≤ 99
  n1 : 1 ≤ n
  n2 : n ≤ 100
  len : xs.length ≤ 8
  ents : ∀ x ∈ xs, entFine x

theorem listOk_fine {e n : Int} {xs : List Ent} (h : listOk e n xs = true) : Fine e n xs := by
  simp only [listOk, Bool.and_eq_true, decide_eq_true_eq] at h
  obtain ⟨⟨⟨⟨⟨h1, h2⟩, h3⟩, h4⟩, h5⟩, h6⟩ := h
  exact ⟨h1, h2, h3, h4, h5, entsOk_fine n h4 xs [] 0 (by omega) h6⟩

theorem headLine_ne10 {e n : Int} (he : 0 ≤ e) (hn : 0 ≤ n) : ∀ b ∈ headLine e n, b ≠ 10 := by
  intro b hb
  unfold headLine at hb
  simp only [List.mem_append, List.mem_cons] at hb
  rcases hb with hb | rfl | hb
  · exact itoa_ne10 e he b hb
  · decide
  · exact itoa_ne10 n hn b hb
theorem entLine_ne10 {x : Ent} (h : entFine x) : ∀ b ∈ entLine x, b ≠ 10 := by
  obtain ⟨h1, h2, h3, h4, h5⟩ := h
  intro b hb
  unfold entLine at hb
  simp only [List.mem_append, List.mem_cons] at hb
  rcases hb with hb | rfl | hb | rfl | hb
  · exact itoa_ne10 _ (by omega) b hb
  · decide
  · exact itoa_ne10 _ (by omega) b hb
  · decide
  · exact (tell_mem h5 b hb).1

theorem headLine_32 (e n : Int) : (32 : UInt8) ∈ headLine e n := by simp [headLine]
theorem entLine_32 (x : Ent) : (32 : UInt8) ∈ entLine x := by simp [entLine]

theorem headLine_len {e n : Int} {xs : List Ent} (h : Fine e n xs) : (headLine e n).length ≤ 6 := by
  have a := itoa_len 2 e (by omega) (by have := h.e1; omega) (by have := h.e2; omega)
  have b := itoa_len 3 n (by omega) (by have := h.n1; omega) (by have := h.n2; omega)
  simp only [headLine, List.length_append, List.length_cons]; omega
theorem entLine_len {x : Ent} (h : entFine x) : (entLine x).length ≤ 11 := by
  obtain ⟨h1, h2, h3, h4, h5⟩ := h
  have a := itoa_len 3 x.key (by omega) (by omega) (by omega)
  have b := itoa_len 2 x.uid (by omega) (by omega) (by omega)
  have c := tell_len h5
  simp only [entLine, List.length_append, List.length_cons]; omega

theorem joinNl_len (k : Nat) : ∀ (ls : List (List UInt8)), (∀ l ∈ ls, l.length ≤ k) → (joinNl ls).length ≤ ls.length * (k + 1)
  | [], _ => by simp [joinNl]
  | a :: ls, h => by
    have h1 := h a (by simp)
    have h2 := joinNl_len k ls (fun l hl => h l (by simp [hl]))
    rw [joinNl_cons]
    simp only [List.length_append, List.length_cons, Nat.add_mul]
    omega

theorem textOf_len {e n : Int} {xs : List Ent} (h : Fine e n xs) : (textOf e n xs).length ≤ 120 := by
  have a := headLine_len h
  have b := joinNl_len 11 (xs.map entLine) (by
    intro l hl
    obtain ⟨x, hx, rfl⟩ := List.mem_map.1 hl
    exact entLine_len (h.ents x hx))
  have c := itoa_len 5 (sumOf (bodyOf e n xs)) (by omega) (by omega) (by have := sumOf_lt (bodyOf e n xs); omega)
  have d := h.len
  rw [List.length_map] at b
  unfold textOf
  simp only [List.length_append, List.length_cons, List.length_nil]
  have e1 : (bodyOf e n xs).length = (headLine e n).length + 1 + (joinNl (xs.map entLine)).length := by
    unfold bodyOf; rw [joinNl_cons]; simp only [List.length_append, List.length_cons]; omega
  omega

/-! ### reading -/

def parseHeadL (line : List UInt8) : Option (Int × Int) :=
  match splitC 32 line with
  | [a, b] => match atoiAll a, atoiAll b with
    | .ok x, .ok y => some (x, y)
    | _, _ => none
  | _ => none
def parseEntL (line : List UInt8) : Option Ent :=
  match splitC 32 line with
  | [a, b, c] => match atoiAll a, atoiAll b with
    | .ok x, .ok y => some ⟨x, y, meant c⟩
    | _, _ => none
  | _ => none
def parseEnts : List (List UInt8) → Option (List Ent)
  | [] => some []
  | l :: r => match parseEntL l, parseEnts r with
    | some x, some xs => some (x :: xs)
    | _, _ => none
def parseL (data : List UInt8) : Option (Int × Int × List Ent) :=
  if (splitC 10 data).length < 3 then none else
  match parseHeadL ((splitC 10 data).headD []), parseEnts (((splitC 10 data).drop 1).take ((splitC 10 data).length - 3)) with
  | some (e, n), some xs => some (e, n, xs)
  | _, _ => none
def readL (data : List UInt8) : Option (Int × Int × List Ent) :=
  match parseL data with
  | some (e, n, xs) => if listOk e n xs = true ∧ textOf e n xs = data then some (e, n, xs) else none
  | none => none

theorem parseHeadL_line {e n : Int} (he : 0 ≤ e) (he1 : e < 9223372036854775808) (hn : 0 ≤ n) (hn1 : n < 9223372036854775808) : parseHeadL (headLine e n) = some (e, n) := by
  unfold parseHeadL headLine
  rw [splitC_app 32 _ _ (itoa_ne32 e he), splitC_free 32 _ (itoa_ne32 n hn)]
  simp only
  rw [atoi_itoa e he he1, atoi_itoa n hn hn1]

theorem parseEntL_line {x : Ent} (h : entFine x) : parseEntL (entLine x) = some x := by
  obtain ⟨h1, h2, h3, h4, h5⟩ := h
  unfold parseEntL entLine
  rw [splitC_app 32 _ _ (itoa_ne32 _ (by omega)), splitC_app 32 _ _ (itoa_ne32 _ (by omega)), splitC_free 32 _ (fun b hb => (tell_mem h5 b hb).2)]
  simp only
  rw [atoi_itoa _ (by omega) (by omega), atoi_itoa _ (by omega) (by omega), meant_tell h5]

theorem parseEnts_lines : ∀ (xs : List Ent), (∀ x ∈ xs, entFine x) → parseEnts (xs.map entLine) = some xs
  | [], _ => rfl
  | x :: r, h => by
    rw [List.map_cons, parseEnts, parseEntL_line (h x (by simp)), parseEnts_lines r (fun y hy => h y (by simp [hy]))]

theorem text_lines (e n : Int) (xs : List Ent) : textOf e n xs = joinNl ((headLine e n :: xs.map entLine) ++ [itoa (sumOf (bodyOf e n xs))]) := by
  rw [joinNl_snoc]; rfl

theorem split_text {e n : Int} {xs : List Ent} (h : Fine e n xs) : splitC 10 (textOf e n xs) = headLine e n :: (xs.map entLine ++ [itoa (sumOf (bodyOf e n xs)), []]) := by
  rw [text_lines, splitC_joinNl]
  · simp
  · intro l hl
    simp only [List.cons_append, List.mem_cons, List.mem_append, List.mem_map, List.not_mem_nil, or_false] at hl
    rcases hl with rfl | ⟨x, hx, rfl⟩ | rfl
    · exact headLine_ne10 (by have := h.e1; omega) (by have := h.n1; omega)
    · exact entLine_ne10 (h.ents x hx)
    · exact itoa_ne10 _ (by omega)

theorem parse_text {e n : Int} {xs : List Ent} (h : Fine e n xs) : parseL (textOf e n xs) = some (e, n, xs) := by
  have hs := split_text h
  have h1 := h.e1; have h2 := h.e2; have h3 := h.n1; have h4 := h.n2
  unfold parseL
  rw [hs]
  have hl : (headLine e n :: (xs.map entLine ++ [itoa (sumOf (bodyOf e n xs)), []])).length = xs.length + 3 := by simp
  rw [hl, if_neg (by omega)]
  rw [show xs.length + 3 - 3 = (xs.map entLine).length by simp]
  simp only [List.headD_cons, List.drop_succ_cons, List.drop_zero]
  rw [List.take_left, parseHeadL_line (by omega) (by omega) (by omega) (by omega), parseEnts_lines xs h.ents]

theorem read_text {e n : Int} {xs : List Ent} (h : listOk e n xs = true) : readL (textOf e n xs) = some (e, n, xs) := by
  unfold readL
  rw [parse_text (listOk_fine h)]
  simp [h]

theorem read_some {data : List UInt8} {e n : Int} {xs : List Ent} (h : readL data = some (e, n, xs)) : listOk e n xs = true ∧ textOf e n xs = data := by
  unfold readL at h
  split at h
  · rename_i e' n' xs' hp
    split at h
    · rename_i hc
      cases h
      exact hc
    · cases h
  · cases h

/-! ### a text that was turned is no text -/

def Ends (b : List UInt8) : Prop := b = [] ∨ ∃ b0, b = b0 ++ [10]

theorem tail_unique {b s b' s' : List UInt8} (hb : Ends b) (hb' : Ends b') (hs : ∀ x ∈ s, x ≠ 10) (hs' : ∀ x ∈ s', x ≠ 10) (h : b ++ s ++ [10] = b' ++ s' ++ [10]) : b = b' ∧ s = s' := by
  have h1 : b ++ s = b' ++ s' := List.append_cancel_right h
  have key : ∀ (b s : List UInt8), Ends b → (∀ x ∈ s, x ≠ 10) → ((b ++ s).reverse.takeWhile (fun x => x != 10)) = s.reverse := by
    intro b s hb hs
    rw [List.reverse_append, List.takeWhile_append_of_pos (by intro x hx; rw [List.mem_reverse] at hx; simpa using hs x hx)]
    rcases hb with rfl | ⟨b0, rfl⟩
    · simp
    · simp
  have k1 := key b s hb hs
  have k2 := key b' s' hb' hs'
  rw [h1, k2] at k1
  have e : s = s' := by
    have := congrArg List.reverse k1
    simpa using this.symm
  subst e
  exact ⟨List.append_cancel_right h1, rfl⟩

theorem joinNl_ends (ls : List (List UInt8)) : Ends (joinNl ls) := by
  rcases List.eq_nil_or_concat ls with rfl | ⟨a, l, rfl⟩
  · exact Or.inl rfl
  · exact Or.inr ⟨joinNl a ++ l, by rw [List.concat_eq_append, joinNl_snoc]⟩

/-- the body's last line: it has a blank and no newline -/
theorem body_last {e n : Int} {xs : List Ent} (h : Fine e n xs) : ∃ a l, bodyOf e n xs = joinNl a ++ l ++ [10] ∧ (32 : UInt8) ∈ l ∧ ∀ b ∈ l, b ≠ 10 := by
  rcases List.eq_nil_or_concat xs with rfl | ⟨ys, y, rfl⟩
  · exact ⟨[], headLine e n, by simp [bodyOf, joinNl], headLine_32 e n, headLine_ne10 (by have := h.e1; omega) (by have := h.n1; omega)⟩
  · refine ⟨headLine e n :: ys.map entLine, entLine y, ?_, entLine_32 y, entLine_ne10 (h.ents y (by simp))⟩
    unfold bodyOf
    rw [List.concat_eq_append, List.map_append, List.map_cons, List.map_nil, ← List.cons_append, joinNl_snoc]

theorem sumLine_digit (l : List UInt8) : ∀ b ∈ itoa (sumOf l), digit b := itoa_digit _ (by omega)
theorem sumLine_ne10 (l : List UInt8) : ∀ b ∈ itoa (sumOf l), b ≠ 10 := itoa_ne10 _ (by omega)

theorem no_cut {e n e' n' : Int} {xs xs' : List Ent} (h : textOf e' n' xs' = (textOf e n xs).dropLast) : False := by
  unfold textOf at h
  rw [List.dropLast_append_of_ne_nil (by simp)] at h
  simp only [List.dropLast_singleton, List.append_nil] at h
  have hne := itoa_ne (sumOf (bodyOf e n xs)) (by omega)
  have h1 := congrArg List.getLast? h
  rw [List.getLast?_append] at h1
  simp only [List.getLast?_singleton, List.getLast?_append] at h1
  rw [List.getLast?_eq_some_getLast hne] at h1
  simp only [Option.some_or, Option.some.injEq] at h1
  have := sumLine_ne10 (bodyOf e n xs) _ (List.getLast_mem hne)
  exact this h1.symm

theorem no_more {e n e' n' : Int} {xs xs' : List Ent} {c : UInt8} (h : textOf e' n' xs' = textOf e n xs ++ [c]) : False := by
  unfold textOf at h
  have hc : itoa (sumOf (bodyOf e' n' xs')) ≠ [] := itoa_ne _ (by omega)
  have h2 := (List.append_inj' h rfl).1
  have h1 := congrArg List.getLast? h2
  rw [List.getLast?_append, List.getLast?_append, List.getLast?_eq_some_getLast hc] at h1
  simp only [List.getLast?_singleton, Option.some_or, Option.some.injEq] at h1
  exact sumLine_ne10 (bodyOf e' n' xs') _ (List.getLast_mem hc) h1

theorem no_turn {e n e' n' : Int} {xs xs' : List Ent} (hf : Fine e n xs) (hf' : Fine e' n' xs') {p q : List UInt8} {x c : UInt8}
    (ht : textOf e n xs = p ++ x :: q) (h : textOf e' n' xs' = p ++ c :: q) : c = x := by
  have hd := sumLine_digit (bodyOf e n xs)
  have h10 := sumLine_ne10 (bodyOf e n xs)
  have hd' := sumLine_digit (bodyOf e' n' xs')
  have h10' := sumLine_ne10 (bodyOf e' n' xs')
  have hE : Ends (bodyOf e n xs) := joinNl_ends _
  have hE' : Ends (bodyOf e' n' xs') := joinNl_ends _
  obtain ⟨A, l, hb, h32, hl10⟩ := body_last hf
  obtain ⟨A', l', hb', h32', hl10'⟩ := body_last hf'
  unfold textOf at ht h
  generalize hS : itoa (sumOf (bodyOf e n xs)) = S at *
  generalize hS' : itoa (sumOf (bodyOf e' n' xs')) = S' at *
  generalize hB : bodyOf e n xs = B at *
  generalize hB' : bodyOf e' n' xs' = B' at *
  have inj : B' = B → S' = S := by intro e; rw [← hS, ← hS', e]
  have sinj : S' = S → sumOf B' = sumOf B := by
    intro e
    rw [← hS, ← hS'] at e
    have := itoa_inj _ _ (by omega) (by omega) (by have := sumOf_lt B'; omega) (by have := sumOf_lt B; omega) e
    omega
  -- where is x?
  rcases List.append_eq_append_iff.1 ht with ⟨a, h1, h2⟩ | ⟨a, h1, h2⟩
  · -- p = B ++ S ++ a, [10] = a ++ x :: q
    cases a with
    | cons y a => simp at h2
    | nil =>
      simp only [List.nil_append, List.cons.injEq] at h2
      obtain ⟨h2, h3⟩ := h2
      subst h2; subst h3
      have := congrArg List.getLast? h
      simpa using this.symm
  · -- B ++ S = p ++ a, a ++ [10] = x :: q
    cases a with
    | nil =>
      simp only [List.nil_append, List.cons.injEq] at h2
      obtain ⟨h2, h3⟩ := h2
      subst h2; subst h3
      have := congrArg List.getLast? h
      simpa using this.symm
    | cons y a =>
      simp only [List.cons_append, List.cons.injEq] at h2
      obtain ⟨h2, h3⟩ := h2
      subst h2; subst h3
      rcases List.append_eq_append_iff.1 h1 with ⟨d, g1, g2⟩ | ⟨d, g1, g2⟩
      · -- in the sum's line: p = B ++ d, S = d ++ y :: a
        subst g1
        have hda : ∀ b ∈ d, b ≠ 10 := fun b hbm => h10 b (by rw [g2]; simp [hbm])
        have haa : ∀ b ∈ a, b ≠ 10 := fun b hbm => h10 b (by rw [g2]; simp [hbm])
        by_cases hc : c = 10
        · subst hc
          have hh : B' ++ S' ++ [10] = (B ++ d ++ [10]) ++ a ++ [10] := by rw [h]; simp
          obtain ⟨u1, _⟩ := tail_unique hE' (Or.inr ⟨_, rfl⟩) h10' haa hh
          have hh2 : joinNl A' ++ l' ++ [10] = B ++ d ++ [10] := by rw [← hb', u1]
          obtain ⟨_, u3⟩ := tail_unique (joinNl_ends _) hE hl10' hda hh2
          have h32d : (32 : UInt8) ∈ S := by rw [g2, ← u3]; simp [h32']
          exact absurd rfl (digit_ne (hd 32 h32d)).2
        · have hh : B' ++ S' ++ [10] = B ++ (d ++ c :: a) ++ [10] := by rw [h]; simp
          obtain ⟨u1, u2⟩ := tail_unique hE' hE h10' (by
            intro b hbm
            simp only [List.mem_append, List.mem_cons] at hbm
            rcases hbm with hbm | rfl | hbm
            · exact hda b hbm
            · exact hc
            · exact haa b hbm) hh
          have := inj u1
          rw [u2, g2] at this
          have h5 := List.append_cancel_left this
          simp only [List.cons.injEq, and_true] at h5
          exact h5
      · -- in the body: B = p ++ d, y :: a = d ++ S
        cases d with
        | nil =>
          -- the byte is the sum's first
          simp only [List.append_nil] at g1
          simp only [List.nil_append] at g2
          subst g1
          have haa : ∀ b ∈ a, b ≠ 10 := fun b hbm => h10 b (by rw [← g2]; simp [hbm])
          by_cases hc : c = 10
          · subst hc
            have hh : B' ++ S' ++ [10] = (B ++ [] ++ [10]) ++ a ++ [10] := by rw [h]; simp
            obtain ⟨u1, _⟩ := tail_unique hE' (Or.inr ⟨_, rfl⟩) h10' haa hh
            have hh2 : joinNl A' ++ l' ++ [10] = B ++ [] ++ [10] := by rw [← hb', u1]
            obtain ⟨_, u3⟩ := tail_unique (joinNl_ends _) hE hl10' (by intro b hbm; cases hbm) hh2
            rw [u3] at h32'; cases h32'
          · have hh : B' ++ S' ++ [10] = B ++ (c :: a) ++ [10] := by rw [h]; simp
            obtain ⟨u1, u2⟩ := tail_unique hE' hE h10' (by
              intro b hbm
              simp only [List.mem_cons] at hbm
              rcases hbm with rfl | hbm
              · exact hc
              · exact haa b hbm) hh
            have := inj u1
            rw [u2, ← g2] at this
            simp only [List.cons.injEq, and_true] at this
            exact this
        | cons y2 d =>
          simp only [List.cons_append, List.cons.injEq] at g2
          obtain ⟨g2, g3⟩ := g2
          subst g2; subst g3
          rcases List.eq_nil_or_concat d with rfl | ⟨d0, z, rfl⟩
          · -- the body's last newline: B = p ++ [x]
            have hy : p = joinNl A ++ l ∧ x = 10 := by
              rw [g1] at hb
              have := List.append_inj' hb rfl
              exact ⟨this.1, by simpa using this.2⟩
            obtain ⟨hp, rfl⟩ := hy
            by_cases hc : c = 10
            · exact hc
            · have hh : B' ++ S' ++ [10] = joinNl A ++ (l ++ c :: S) ++ [10] := by rw [h, hp]; simp
              obtain ⟨_, u2⟩ := tail_unique hE' (joinNl_ends _) h10' (by
                intro b hbm
                simp only [List.mem_append, List.mem_cons] at hbm
                rcases hbm with hbm | rfl | hbm
                · exact hl10 b hbm
                · exact hc
                · exact h10 b hbm) hh
              have : (32 : UInt8) ∈ S' := by rw [u2]; simp [h32]
              exact absurd rfl (digit_ne (hd' 32 this)).2
          · -- within the body
            rw [List.concat_eq_append] at g1 h
            have hz : z = 10 := by
              rcases hE with e0 | ⟨b0, e0⟩
              · rw [g1] at e0; simp at e0
              · rw [g1] at e0
                have : p ++ x :: (d0 ++ [z]) = (p ++ x :: d0) ++ [z] := by simp
                rw [this] at e0
                have := (List.append_inj' e0 rfl).2
                simpa using this
            subst hz
            have hh : B' ++ S' ++ [10] = (p ++ c :: d0 ++ [10]) ++ S ++ [10] := by rw [h]; simp
            obtain ⟨u1, u2⟩ := tail_unique hE' (Or.inr ⟨_, rfl⟩) h10' h10 hh
            have hsum := sinj u2
            rw [u1, g1] at hsum
            have e1 : p ++ c :: d0 ++ [10] = p ++ c :: (d0 ++ [10]) := by simp
            rw [e1] at hsum
            exact sum_turned p (d0 ++ [10]) c x hsum

end Mb
end Go.Proofs.YtamglanahpcedaaGreatDoor
