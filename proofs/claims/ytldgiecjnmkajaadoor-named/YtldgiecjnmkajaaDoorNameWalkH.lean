/-
  OWN TEXT: mailbagkeep.coded, plainName and knows.
-/
import Derived.Test.YtldgiecjnmkajaaDoorNameWalkG
namespace Go.Proofs.YtldgiecjnmkajaaDoor
open Go.RowKit Go.Lib

theorem take_one (s : ByteArray) (k : Nat) (h : k < s.size) : s.data.toList.take (k + 1) = s.data.toList.take k ++ [s[k]] := by
  rw [List.take_succ_eq_append_getElem (by simpa using h)]; rfl

def plainB (c : UInt8) : Bool := Mb.plainRune c.toNat
def codeB (c : UInt8) : Bool := plainB c || (c == 61)
def codedL (l : List UInt8) : Bool := decide (l ≠ []) && l.all codeB

theorem codeB_cases (c : UInt8) : (codeB c = true ∧ ((97 ≤ (c.toNat : Int) ∧ (c.toNat : Int) ≤ 122) ∨ (48 ≤ (c.toNat : Int) ∧ (c.toNat : Int) ≤ 57) ∨ (c.toNat : Int) = 61)) ∨
    (codeB c = false ∧ ((c.toNat : Int) == 61) = false ∧ (122 < (c.toNat : Int) ∨ (57 < (c.toNat : Int) ∧ (c.toNat : Int) < 97) ∨ (c.toNat : Int) < 48)) := by
  have h61 : (c == 61) = decide (c.toNat = 61) := by
    rw [Bool.eq_iff_iff]
    simp only [beq_iff_eq, decide_eq_true_eq]
    exact ⟨fun h => by rw [h]; rfl, fun h => UInt8.toNat_inj.1 h⟩
  unfold codeB plainB Mb.plainRune
  rw [h61]
  by_cases h : (97 ≤ c.toNat ∧ c.toNat ≤ 122) ∨ (48 ≤ c.toNat ∧ c.toNat ≤ 57) ∨ c.toNat = 61
  · left
    refine ⟨?_, by omega⟩
    simp
    omega
  · right
    refine ⟨?_, by simp; omega, ?_⟩
    · rw [Bool.eq_false_iff]
      simp
      omega
    · by_cases h1 : 122 < (c.toNat : Int)
      · exact Or.inl h1
      · by_cases h2 : (c.toNat : Int) < 48
        · exact Or.inr (Or.inr h2)
        · exact Or.inr (Or.inl ⟨by omega, by omega⟩)

theorem codedL_bad {l : List UInt8} {k : Nat} (hk : k < l.length) (h : codeB l[k] = false) : codedL l = false := by
  unfold codedL
  have : l.all codeB = false := by
    rw [Bool.eq_false_iff]
    intro h2
    rw [List.all_eq_true] at h2
    have := h2 _ (List.getElem_mem hk)
    rw [h] at this
    cases this
  rw [this, Bool.and_false]

theorem coded_badS (s : ByteArray) (k : Nat) (hk : k < s.size) (h : codeB s[k] = false) : codedL s.data.toList = false :=
  codedL_bad (k := k) (by rw [← Lib.size_eq]; exact hk) h

set_option maxHeartbeats 4000000 in
set_option maxRecDepth 100000 in
theorem coded_any (s : ByteArray) (w : World) (hs : s.size ≤ 9223372036854775807) :
    Calls Tryd.prog 7 #[.string s] w fun e w' => e = .returned (.bool (codedL s.data.toList)) ∧ w' = w := by
  go_enter Tryd.func7, Tryd.ntmps7
  go_wp2
  go_loop [3] (fun i => ∃ k : Nat, k ≤ s.size ∧ i = .int .i64 k ∧ Hid ((s.data.toList.take k).all codeB = true)) (fun i => s.size - (RowKit.intOf i).toNat)
  case atStart => exact ⟨0, Nat.zero_le _, rfl, rfl⟩
  case round =>
    obtain ⟨k, hk, rfl, hh⟩ := hrel
    by_cases hkn : k < s.size
    · have HB := Lib.hid (coded_badS s k hkn)
      have HT := Lib.hid (take_one s k hkn)
      rcases codeB_cases s[k] with ⟨hg, hx⟩ | ⟨hg, h61, hx⟩
      · have HN : Hid ((s.data.toList.take (k + 1)).all codeB = true) := by
          unfold Hid
          rw [HT.out, List.all_append, hh.out]
          simp [hg]
        clear HB HT hh hg
        rcases hx with ⟨hx0, hx1⟩ | ⟨hx0, hx1⟩ | hx
        all_goals go_wp2
        all_goals refine ⟨⟨k + 1, by omega, by first | rfl | (congr 1; omega), HN⟩, by simp [RowKit.intOf]; omega⟩
      · have HN := Lib.hid (HB.out hg)
        clear HB HT hh hg
        rcases hx with hx | ⟨hx0, hx1⟩ | hx
        all_goals go_wp2
        all_goals first | (go_ret; exact ⟨by rw [HN.out]; rfl, rfl⟩) | (exfalso; rename_i h; simp at h; omega)
    · have hkk : k = s.size := by omega
      subst hkk
      rw [List.take_of_length_le (by rw [← Lib.size_eq]; omega)] at hh
      have HN : Hid (codedL s.data.toList = !s.toList.isEmpty) := by
        unfold Hid codedL
        rw [hh.out, ByteArray.toList_eq, Bool.and_true]
        cases s.data.toList <;> simp
      clear hh
      go_wp2
      go_ret
      exact ⟨by rw [HN.out]; rfl, rfl⟩

def plainL (l : List UInt8) : Bool := l.all (fun c => !(c == 61)) && (codedL l && decide (l.length ≤ 8))

theorem plainL_bad {l : List UInt8} {k : Nat} (hk : k < l.length) (h : l[k] = 61) : plainL l = false := by
  unfold plainL
  have : l.all (fun c => !(c == 61)) = false := by
    rw [Bool.eq_false_iff]
    intro h2
    rw [List.all_eq_true] at h2
    have := h2 _ (List.getElem_mem hk)
    rw [h] at this
    simp at this
  rw [this, Bool.false_and]
theorem plain_badS (s : ByteArray) (k : Nat) (hk : k < s.size) (h : s[k] = 61) : plainL s.data.toList = false :=
  plainL_bad (k := k) (by rw [← Lib.size_eq]; exact hk) h

set_option maxHeartbeats 4000000 in
set_option maxRecDepth 100000 in
theorem plainName_any (s : ByteArray) (w : World) (hs : s.size ≤ 9223372036854775807) :
    Calls Tryd.prog 9 #[.string s] w fun e w' => e = .returned (.bool (plainL s.data.toList)) ∧ w' = w := by
  have hC := coded_any s
  go_enter Tryd.func9, Tryd.ntmps9
  go_wp2
  go_loop [3] (fun i => ∃ k : Nat, k ≤ s.size ∧ i = .int .i64 k ∧ Hid ((s.data.toList.take k).all (fun c => !(c == 61)) = true)) (fun i => s.size - (RowKit.intOf i).toNat)
  case atStart => exact ⟨0, Nat.zero_le _, rfl, rfl⟩
  case round =>
    obtain ⟨k, hk, rfl, hh⟩ := hrel
    by_cases hkn : k < s.size
    · have HB := Lib.hid (plain_badS s k hkn)
      have HT := Lib.hid (take_one s k hkn)
      by_cases hx : s[k] = 61
      · have HN := Lib.hid (HB.out hx)
        have hi : (s[k].toNat : Int) = 61 := by rw [hx]; rfl
        clear HB HT hh hx
        go_wp2
        go_ret
        exact ⟨by rw [HN.out]; rfl, rfl⟩
      · have HN : Hid ((s.data.toList.take (k + 1)).all (fun c => !(c == 61)) = true) := by
          unfold Hid
          rw [HT.out, List.all_append, hh.out]
          simp [hx]
        have hi : ((s[k].toNat : Int) == 61) = false := by
          have : s[k].toNat ≠ 61 := fun h => hx (UInt8.toNat_inj.1 h)
          simp; omega
        clear HB HT hh hx
        go_wp2
        refine ⟨⟨k + 1, by omega, by first | rfl | (congr 1; omega), HN⟩, by simp [RowKit.intOf]; omega⟩
    · have hkk : k = s.size := by omega
      subst hkk
      rw [List.take_of_length_le (by rw [← Lib.size_eq]; omega)] at hh
      have HN : Hid (plainL s.data.toList = (codedL s.data.toList && decide (s.size ≤ 8))) := by
        unfold Hid plainL
        rw [hh.out, Lib.size_eq, Bool.true_and]
      clear hh
      generalize codedL s.data.toList = b at hC HN
      have h8 : decide ((s.size : Int) ≤ 8) = decide (s.size ≤ 8) := by rw [decide_eq_decide]; omega
      cases b
      · go_wp2_with (go_at_call 7; refine (hC _ hs).mono ?_; rintro e w' ⟨rfl, hw'⟩; subst w')
        go_ret
        exact ⟨by rw [HN.out]; rfl, rfl⟩
      · go_wp2_with (go_at_call 7; refine (hC _ hs).mono ?_; rintro e w' ⟨rfl, hw'⟩; subst w')
        go_ret
        exact ⟨by rw [HN.out, ← h8]; rfl, rfl⟩

end Go.Proofs.YtldgiecjnmkajaaDoor
