/-
  OWN TEXT: mailbagref's Number.
-/
import Derived.Test.YtldgiecjnmkajaaGreatDoorRefM
namespace Go.Proofs.YtldgiecjnmkajaaGreatDoor
open Go.RowKit Go.Lib

theorem head_at (s : ByteArray) (h : 0 < s.size) : s.data.toList.head? = some s[0] := by
  have := drop_at' s 0 h
  rw [List.drop_zero] at this
  rw [this]
  rfl

theorem size_pos_emp {s : ByteArray} (h : s.data.toList ≠ []) : s.toList.isEmpty = false := by rw [ByteArray.toList_eq]; simpa using h

set_option maxHeartbeats 4000000 in
set_option maxRecDepth 100000 in
theorem rnumber_bad (s : ByteArray) (most : Int) (hs : s.size ≤ 9223372036854775807) (hbad : Mb.numBad s.data.toList) (w : World) :
    Calls Tryz.prog 179 #[.string s, .int .i64 most] w fun e w' => e = .returned (.int .i64 (-1)) ∧ w' = w := by
  by_cases h0 : s.data.toList = []
  · have hse : s = ⟨#[]⟩ := by apply ByteArray.ext; apply Array.ext'; simpa using h0
    subst hse
    go_enter Tryz.func179, Tryz.ntmps179
    go_wp2
    go_ret
    exact ⟨rfl, rfl⟩
  · have hemp := size_pos_emp h0
    have hpos : 0 < s.size := by
      rw [Lib.size_eq]
      exact List.length_pos_iff.2 h0
    rcases hbad with h | h | ⟨h1, h2⟩
    · exact absurd h h0
    · rw [← Lib.size_eq] at h
      have i1 : 6 < (s.size : Int) := by omega
      clear h0 h
      go_enter Tryz.func179, Tryz.ntmps179
      go_wp2
      go_ret
      exact ⟨rfl, rfl⟩
    · rw [← Lib.size_eq] at h1
      rw [head_at s hpos] at h2
      have h48 : s[0] = 48 := Option.some.inj h2
      have hb : (s[0].toNat : Int) = 48 := by rw [h48]; rfl
      have i1 : 1 < (s.size : Int) := by omega
      have hc : (s.size : Int) ≤ 6 ∨ 6 < (s.size : Int) := by omega
      clear h0 h1 h2 h48
      rcases hc with i2 | i2
      all_goals go_enter Tryz.func179, Tryz.ntmps179
      all_goals go_wp2
      all_goals go_ret
      all_goals exact ⟨rfl, rfl⟩

theorem digit_cases (c : UInt8) : (48 ≤ (c.toNat : Int) ∧ (c.toNat : Int) ≤ 57 ∧ (48 ≤ c.toNat ∧ c.toNat ≤ 57)) ∨ (((c.toNat : Int) < 48 ∨ (48 ≤ (c.toNat : Int) ∧ 57 < (c.toNat : Int))) ∧ ¬ (48 ≤ c.toNat ∧ c.toNat ≤ 57)) := by omega

set_option maxHeartbeats 4000000 in
set_option maxRecDepth 100000 in
theorem rnumber_good (s : ByteArray) (most : Nat) (hm : most ≤ 1000) (hgood : ¬ Mb.numBad s.data.toList) (w : World) :
    Calls Tryz.prog 179 #[.string s, .int .i64 most] w fun e w' => e = .returned (.int .i64 (Mb.numV s.data.toList most)) ∧ w' = w := by
  obtain ⟨r, hr⟩ : ∃ r, Mb.numV s.data.toList most = r := ⟨_, rfl⟩
  rw [hr]
  have hne : s.data.toList ≠ [] := fun h => hgood (Or.inl h)
  have h6 : s.size ≤ 6 := by
    rw [Lib.size_eq]
    exact Nat.le_of_not_lt (fun h => hgood (Or.inr (Or.inl h)))
  have hemp := size_pos_emp hne
  have hpos : 0 < s.size := by rw [Lib.size_eq]; exact List.length_pos_iff.2 hne
  have hz : (s.size : Int) ≤ 1 ∨ (1 < (s.size : Int) ∧ ((s[0].toNat : Int) == 48) = false) := by
    by_cases h1 : s.size ≤ 1
    · exact Or.inl (by omega)
    · refine Or.inr ⟨by omega, ?_⟩
      simp only [beq_eq_false_iff_ne, ne_eq]
      intro e
      apply hgood
      refine Or.inr (Or.inr ⟨by rw [← Lib.size_eq]; omega, ?_⟩)
      rw [head_at s hpos]
      congr 1
      apply UInt8.toNat_inj.1
      have : s[0].toNat = 48 := by omega
      rw [this]; rfl
  have HR : Hid (r = match Mb.numFold 0 s.data.toList with
      | none => -1
      | some n => if most < n then -1 else (n : Int)) := by
    unfold Hid
    rw [← hr]
    unfold Mb.numV Mb.numL
    rw [if_neg hgood]
    cases Mb.numFold 0 s.data.toList with
    | none => rfl
    | some n =>
      simp only
      by_cases h : most < n
      · rw [if_pos h, if_pos h]
      · rw [if_neg h, if_neg h]
  have i6 : (s.size : Int) ≤ 6 := by omega
  have im : (most : Int) ≤ 1000 := by omega
  clear hr hgood hne
  rcases hz with hz | ⟨hz, hz2⟩
  · go_enter Tryz.func179, Tryz.ntmps179
    go_wp2
    go_loop [5, 6] (fun vn vi => ∃ (k : Nat) (z : Int), k ≤ s.size ∧ vi = .int .i64 k ∧ vn = .int .i64 z ∧ 0 ≤ z ∧ z < 1000000 ∧ Hid (∃ q : Nat, z = (q : Int) ∧ q < 10 ^ k ∧ Mb.numFold 0 s.data.toList = Mb.numFold q (s.data.toList.drop k))) (fun _ vi => s.size - (RowKit.intOf vi).toNat)
    case atStart => exact ⟨0, 0, Nat.zero_le _, rfl, rfl, by omega, by omega, 0, rfl, by decide, rfl⟩
    case round =>
      obtain ⟨k, z, hk, rfl, rfl, hz0, hz1, hh⟩ := hrel
      obtain ⟨q, hq, hq10, hfold⟩ := hh.out
      by_cases hkn : k < s.size
      · rw [drop_at' s k hkn, Mb.numFold] at hfold
        have hb : (s[k].toNat : Int) < 256 := by have := s[k].toNat_lt; omega
        rcases digit_cases s[k] with ⟨d1, d2, d3⟩ | ⟨d, d3⟩
        · rw [if_pos d3] at hfold
          have hp : 10 * q + (s[k].toNat - 48) < 10 ^ (k + 1) := by rw [Nat.pow_succ]; omega
          have hp6 : 10 ^ (k + 1) ≤ 1000000 := by
            have : (10 : Nat) ^ (k + 1) ≤ 10 ^ 6 := Nat.pow_le_pow_right (by omega) (by omega)
            omega
          have HN : Hid (∃ q' : Nat, 10 * z + ((s[k].toNat : Int) - 48) = (q' : Int) ∧ q' < 10 ^ (k + 1) ∧ Mb.numFold 0 s.data.toList = Mb.numFold q' (s.data.toList.drop (k + 1))) := ⟨10 * q + (s[k].toNat - 48), by omega, hp, hfold⟩
          have hbd : 10 * z + ((s[k].toNat : Int) - 48) < 1000000 := by omega
          clear hfold hq hq10 hh hp hp6 d3
          go_wp2
          refine ⟨⟨k + 1, 10 * z + ((s[k].toNat : Int) - 48), by omega, ?_, ?_, by omega, hbd, HN⟩, by simp [RowKit.intOf]; omega⟩
          · first | rfl | (congr 1; omega)
          · first | rfl | (congr 1; omega)
        · rw [if_neg d3] at hfold
          have HN : Hid (r = -1) := by unfold Hid; rw [HR.out, hfold]
          clear hfold hq hq10 hh d3
          rcases d with d | ⟨d, d2⟩
          all_goals go_wp2
          all_goals go_ret
          all_goals exact ⟨by rw [HN.out]; rfl, rfl⟩
      · have hkk : k = s.size := by omega
        subst hkk
        rw [List.drop_eq_nil_of_le (by rw [← Lib.size_eq]; omega), Mb.numFold] at hfold
        have hrr : r = if most < q then -1 else (q : Int) := by rw [HR.out, hfold]
        by_cases hmq : most < q
        · rw [if_pos hmq] at hrr
          have HN := Lib.hid hrr
          have imq : (most : Int) < z := by omega
          clear hfold hq hq10 hh hrr hmq
          go_wp2
          go_ret
          exact ⟨by rw [HN.out]; rfl, rfl⟩
        · rw [if_neg hmq] at hrr
          have HN : Hid (r = z) := by unfold Hid; omega
          have imq : z ≤ (most : Int) := by omega
          clear hfold hq hq10 hh hrr hmq
          go_wp2
          go_ret
          exact ⟨by rw [HN.out]; rfl, rfl⟩
  · go_enter Tryz.func179, Tryz.ntmps179
    go_wp2
    go_loop [5, 6] (fun vn vi => ∃ (k : Nat) (z : Int), k ≤ s.size ∧ vi = .int .i64 k ∧ vn = .int .i64 z ∧ 0 ≤ z ∧ z < 1000000 ∧ Hid (∃ q : Nat, z = (q : Int) ∧ q < 10 ^ k ∧ Mb.numFold 0 s.data.toList = Mb.numFold q (s.data.toList.drop k))) (fun _ vi => s.size - (RowKit.intOf vi).toNat)
    case atStart => exact ⟨0, 0, Nat.zero_le _, rfl, rfl, by omega, by omega, 0, rfl, by decide, rfl⟩
    case round =>
      obtain ⟨k, z, hk, rfl, rfl, hz0, hz1, hh⟩ := hrel
      obtain ⟨q, hq, hq10, hfold⟩ := hh.out
      by_cases hkn : k < s.size
      · rw [drop_at' s k hkn, Mb.numFold] at hfold
        have hb : (s[k].toNat : Int) < 256 := by have := s[k].toNat_lt; omega
        rcases digit_cases s[k] with ⟨d1, d2, d3⟩ | ⟨d, d3⟩
        · rw [if_pos d3] at hfold
          have hp : 10 * q + (s[k].toNat - 48) < 10 ^ (k + 1) := by rw [Nat.pow_succ]; omega
          have hp6 : 10 ^ (k + 1) ≤ 1000000 := by
            have : (10 : Nat) ^ (k + 1) ≤ 10 ^ 6 := Nat.pow_le_pow_right (by omega) (by omega)
            omega
          have HN : Hid (∃ q' : Nat, 10 * z + ((s[k].toNat : Int) - 48) = (q' : Int) ∧ q' < 10 ^ (k + 1) ∧ Mb.numFold 0 s.data.toList = Mb.numFold q' (s.data.toList.drop (k + 1))) := ⟨10 * q + (s[k].toNat - 48), by omega, hp, hfold⟩
          have hbd : 10 * z + ((s[k].toNat : Int) - 48) < 1000000 := by omega
          clear hfold hq hq10 hh hp hp6 d3
          go_wp2
          refine ⟨⟨k + 1, 10 * z + ((s[k].toNat : Int) - 48), by omega, ?_, ?_, by omega, hbd, HN⟩, by simp [RowKit.intOf]; omega⟩
          · first | rfl | (congr 1; omega)
          · first | rfl | (congr 1; omega)
        · rw [if_neg d3] at hfold
          have HN : Hid (r = -1) := by unfold Hid; rw [HR.out, hfold]
          clear hfold hq hq10 hh d3
          rcases d with d | ⟨d, d2⟩
          all_goals go_wp2
          all_goals go_ret
          all_goals exact ⟨by rw [HN.out]; rfl, rfl⟩
      · have hkk : k = s.size := by omega
        subst hkk
        rw [List.drop_eq_nil_of_le (by rw [← Lib.size_eq]; omega), Mb.numFold] at hfold
        have hrr : r = if most < q then -1 else (q : Int) := by rw [HR.out, hfold]
        by_cases hmq : most < q
        · rw [if_pos hmq] at hrr
          have HN := Lib.hid hrr
          have imq : (most : Int) < z := by omega
          clear hfold hq hq10 hh hrr hmq
          go_wp2
          go_ret
          exact ⟨by rw [HN.out]; rfl, rfl⟩
        · rw [if_neg hmq] at hrr
          have HN : Hid (r = z) := by unfold Hid; omega
          have imq : z ≤ (most : Int) := by omega
          clear hfold hq hq10 hh hrr hmq
          go_wp2
          go_ret
          exact ⟨by rw [HN.out]; rfl, rfl⟩

/-- mailbagref.Number -/
theorem rnumber_any (s : ByteArray) (most : Nat) (hm : most ≤ 1000) (hs : s.size ≤ 9223372036854775807) (w : World) :
    Calls Tryz.prog 179 #[.string s, .int .i64 most] w fun e w' => e = .returned (.int .i64 (Mb.numV s.data.toList most)) ∧ w' = w := by
  by_cases hbad : Mb.numBad s.data.toList
  · have : Mb.numV s.data.toList most = -1 := by unfold Mb.numV Mb.numL; rw [if_pos hbad]
    rw [this]
    exact rnumber_bad s most hs hbad w
  · exact rnumber_good s most hm hbad w

end Go.Proofs.YtldgiecjnmkajaaGreatDoor
