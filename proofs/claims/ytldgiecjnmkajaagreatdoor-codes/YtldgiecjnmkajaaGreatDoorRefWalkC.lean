/-
  OWN TEXT: mailbagref's runeAt at a first byte that says how many follow.
-/
import Derived.Test.YtldgiecjnmkajaaGreatDoorRefWalkB
namespace Go.Proofs.YtldgiecjnmkajaaGreatDoor
open Go.RowKit Go.Lib

set_option maxHeartbeats 4000000 in
set_option maxRecDepth 100000 in
theorem runeAt_short (s : ByteArray) (i : Nat) (hi : i < s.size) (hs : s.size ≤ 4611686018427387904) (w : World) (n c0 : Nat) (h : Mb.Lead (Mb.bat (s.data.toList.drop i) 0) n c0) (hfit : ¬ i + n ≤ s.size) :
    Calls Tryz.prog 166 #[.string s, .int .i64 i] w fun e w' => (∃ r k : Nat, e = .returned (.tuple #[.int .i64 r, .int .i64 k]) ∧ RuneO (s.data.toList.drop i) r k) ∧ w' = w := by
  have hX := idx_str s (i : Int) i 0 (by omega) (by omega)
  have hlen : (s.data.toList.drop i).length = s.size - i := by rw [List.length_drop, ← Lib.size_eq]
  have hn : 2 ≤ n := by rcases h with h | h | h <;> omega
  have HR : Hid (RuneO (s.data.toList.drop i) 0 0) := Or.inr ⟨rfl, rfl, by rw [Mb.dec_nocont h (k := n - 1) (by omega) (by omega) (Mb.contB_short (by omega))]⟩
  have hc : (Mb.bat (s.data.toList.drop i) 0 : Int) < 256 := by have := Mb.bat_lt (s.data.toList.drop i) 0; omega
  have h' := h
  unfold Mb.Lead at h'
  clear h
  generalize Mb.bat (s.data.toList.drop i) 0 = c at hX h' hc
  have is0 : (s.size : Int) ≤ 4611686018427387904 := by omega
  have ii : (i : Int) < s.size := by omega
  have ifit : (s.size : Int) < (i : Int) + n := by omega
  clear hlen hs hi hfit
  rcases h' with ⟨rfl, h1, h2, h0⟩ | ⟨rfl, h1, h2, h0⟩ | ⟨rfl, h1, h2, h0⟩
  · have i1 : 192 ≤ (c : Int) := by omega
    have i2 : (c : Int) < 224 := by omega
    clear h1 h2 h0 hn
    go_enter Tryz.func166, Tryz.ntmps166
    go_wp2
    go_ret2
    exact ⟨⟨0, 0, rfl, HR.out⟩, rfl⟩
  · have i1 : 224 ≤ (c : Int) := by omega
    have i2 : (c : Int) < 240 := by omega
    clear h1 h2 h0 hn
    go_enter Tryz.func166, Tryz.ntmps166
    go_wp2
    go_ret2
    exact ⟨⟨0, 0, rfl, HR.out⟩, rfl⟩
  · have i1 : 240 ≤ (c : Int) := by omega
    have i2 : (c : Int) < 248 := by omega
    clear h1 h2 h0 hn
    go_enter Tryz.func166, Tryz.ntmps166
    go_wp2
    go_ret2
    exact ⟨⟨0, 0, rfl, HR.out⟩, rfl⟩

/-- the facts of the loop over the bytes that follow, under letters -/
structure Rest (s : ByteArray) (i n : Nat) (B R : Nat → Nat) : Prop where
  idx : ∀ k (h : i + k < s.size), B k = (s[i + k]'h).toNat
  byte : ∀ k, B k < 256
  step : ∀ k, R (k + 1) = R k * 64 + B (k + 1) % 64
  small : ∀ k, k < n → R k < 2097152
  bad : ∀ k, 1 ≤ k → k < n → (B k < 128 ∨ 191 < B k) → RuneO (s.data.toList.drop i) 0 0
  good : (∀ k, 1 ≤ k → k < n → 128 ≤ B k ∧ B k ≤ 191) → (Mb.leastOf n ≤ R (n - 1) ∧ Mb.runeOkB (R (n - 1)) = true → RuneO (s.data.toList.drop i) (R (n - 1)) n) ∧ (¬ (Mb.leastOf n ≤ R (n - 1) ∧ Mb.runeOkB (R (n - 1)) = true) → RuneO (s.data.toList.drop i) 0 0)

theorem rest_of (s : ByteArray) (i n c0 : Nat) (h : Mb.Lead (Mb.bat (s.data.toList.drop i) 0) n c0) (hfit : i + n ≤ s.size) :
    Rest s i n (Mb.bat (s.data.toList.drop i)) (Mb.racc c0 (s.data.toList.drop i)) := by
  have hlen : (s.data.toList.drop i).length = s.size - i := by rw [List.length_drop, ← Lib.size_eq]
  refine ⟨fun k hk => bat_at s i k hk, fun k => Mb.bat_lt _ k, fun k => rfl, Mb.racc_lt h, fun k h1 h2 hb => Or.inr ⟨rfl, rfl, ?_⟩, fun hall => ?_⟩
  · rw [Mb.dec_nocont h h1 h2 (Mb.contB_no hb)]
  · have hd := Mb.dec_whole h (fun k h1 h2 => Mb.contB_of (by omega) (hall k h1 h2).1 (hall k h1 h2).2)
    constructor
    · intro ⟨h1, h2⟩
      left
      rw [hd, if_pos (by simp [h1, h2])]
      exact ⟨rfl, rfl⟩
    · intro hno
      right
      refine ⟨rfl, rfl, ?_⟩
      rw [hd, if_neg]
      intro h2
      simp only [Bool.and_eq_true, decide_eq_true_eq] at h2
      exact hno h2

theorem ok_int {r : Nat} (h : Mb.runeOkB r = true) : (r : Int) ≤ 1114111 ∧ (¬ 55296 ≤ (r : Int) ∨ (55296 ≤ (r : Int) ∧ ¬ (r : Int) ≤ 57343)) := by
  simp only [Mb.runeOkB, Bool.or_eq_true, Bool.and_eq_true, decide_eq_true_eq] at h
  omega
theorem nok_int {r : Nat} (h : ¬ Mb.runeOkB r = true) : 1114111 < (r : Int) ∨ (55296 ≤ (r : Int) ∧ (r : Int) ≤ 57343) := by
  simp only [Mb.runeOkB, Bool.or_eq_true, Bool.and_eq_true, decide_eq_true_eq] at h
  omega

set_option maxHeartbeats 8000000 in
set_option maxRecDepth 100000 in
theorem runeAt_two (s : ByteArray) (i : Nat) (hs : s.size ≤ 4611686018427387904) (w : World) (hL : LeastIs w) (c : Nat) (hX : ∀ W, (Instr.index 9 (.string s) (.int .i64 (i : Int))).run Tryz.prog W = .ok (.int .u8 (c : Int)) W)
    (h1 : 192 ≤ c) (h2 : c < 224) (B R : Nat → Nat) (hR0 : R 0 = c - 192) (hfit : i + 2 ≤ s.size) (hr : Rest s i 2 B R) :
    Calls Tryz.prog 166 #[.string s, .int .i64 i] w fun e w' => (∃ r k : Nat, e = .returned (.tuple #[.int .i64 r, .int .i64 k]) ∧ RuneO (s.data.toList.drop i) r k) ∧ w' = w := by
  have is0 : (s.size : Int) ≤ 4611686018427387904 := by omega
  have ii : (i : Int) + 2 ≤ s.size := by omega
  have i1 : 192 ≤ (c : Int) := by omega
  have i2 : (c : Int) < 224 := by omega
  have hl2 := hL.c2
  have HR := Lib.hid hr
  have H0 : Hid ((c : Int) - 192 = (R 0 : Int)) := by unfold Hid; omega
  clear hr hL h1 h2 hR0 hs hfit
  go_enter Tryz.func166, Tryz.ntmps166
  go_wp2
  go_loop [8, 9] (fun vr vk => ∃ (k : Nat) (r : Int), vr = .int .i64 r ∧ vk = .int .i64 (k + 1 : Nat) ∧ k + 1 ≤ 2 ∧ 0 ≤ r ∧ r < 2097152 ∧ Hid (r = (R k : Int) ∧ ∀ j, 1 ≤ j → j < k + 1 → 128 ≤ B j ∧ B j ≤ 191)) (fun _ vk => 2 - (RowKit.intOf vk).toNat)
  case atStart =>
    have := HR.out.small 0 (by omega)
    have h0 := H0.out
    exact ⟨0, (c : Int) - 192, rfl, rfl, by omega, by omega, by omega, h0, fun j h1 h2 => by omega⟩
  case round =>
    obtain ⟨k, r, rfl, rfl, hk, hr0, hr1, hh⟩ := hrel
    by_cases hk2 : k + 1 < 2
    · have hlt : i + (k + 1) < s.size := by omega
      have hXX := HR.out.idx (k + 1) hlt
      have hb := HR.out.byte (k + 1)
      have hbad := HR.out.bad (k + 1) (by omega) hk2
      have hst := HR.out.step k
      have hsm := HR.out.small (k + 1) hk2
      have hd := hXX
      rw [hXX] at hb hbad hst
      have idb : ((s[i + (k + 1)]'hlt).toNat : Int) < 256 := by omega
      have ik : (k : Int) + 1 < 2 := by omega
      by_cases hc : 128 ≤ (s[i + (k + 1)]'hlt).toNat ∧ (s[i + (k + 1)]'hlt).toNat ≤ 191
      · have id1 : 128 ≤ ((s[i + (k + 1)]'hlt).toNat : Int) := by omega
        have id2 : ((s[i + (k + 1)]'hlt).toNat : Int) ≤ 191 := by omega
        have HN : Hid (r * 64 + ((s[i + (k + 1)]'hlt).toNat : Int) - 128 = (R (k + 1) : Int) ∧ ∀ j, 1 ≤ j → j < k + 1 + 1 → 128 ≤ B j ∧ B j ≤ 191) := by
          refine ⟨by have := hh.out.1; omega, fun j h1 h2 => ?_⟩
          by_cases hj : j < k + 1
          · exact hh.out.2 j h1 hj
          · have : j = k + 1 := by omega
            rw [this, hd]; exact hc
        have hrb : r * 64 + ((s[i + (k + 1)]'hlt).toNat : Int) - 128 < 2097152 := by have := HN.out.1; omega
        clear hbad hst hsm hd hc hh hb hXX
        go_wp2
        refine ⟨⟨k + 1, r * 64 + ((s[i + (k + 1)]'hlt).toNat : Int) - 128, rfl, ?_, by omega, by omega, hrb, HN⟩, ?_⟩
        · first | rfl | (congr 1; omega)
        · simp [RowKit.intOf]; omega
      · have HB := Lib.hid (hbad (by omega))
        have hc' : ((s[i + (k + 1)]'hlt).toNat : Int) < 128 ∨ 191 < ((s[i + (k + 1)]'hlt).toNat : Int) := by omega
        clear hbad hst hsm hd hc hh hb hXX
        rcases hc' with hc' | hc'
        all_goals go_wp2
        all_goals go_ret2
        all_goals exact ⟨⟨0, 0, rfl, HB.out⟩, rfl⟩
    · have hkk : k = 1 := by omega
      subst hkk
      have hg := HR.out.good hh.out.2
      have e1 : R (2 - 1) = R 1 := rfl
      rw [e1] at hg
      have hrr := hh.out.1
      generalize R 1 = q at hg hrr
      have HQ := Lib.hid hrr
      by_cases hok : Mb.leastOf 2 ≤ q ∧ Mb.runeOkB q = true
      · have HG := Lib.hid (hg.1 hok)
        obtain ⟨o1, o2⟩ := ok_int hok.2
        rw [← hrr] at o1 o2
        have o0 : 128 ≤ r := by have h2 : Mb.leastOf 2 = 128 := rfl; omega
        clear hg hok hh hk2 hk e1 hrr
        rcases o2 with o2 | ⟨o2, o3⟩
        all_goals go_wp2
        all_goals go_ret2
        all_goals exact ⟨⟨q, 2, by rw [← HQ.out]; rfl, HG.out⟩, rfl⟩
      · have HG := Lib.hid (hg.2 hok)
        have hno : r < 128 ∨ (128 ≤ r ∧ 1114111 < r) ∨ (55296 ≤ r ∧ r ≤ 57343) := by
          have h2 : Mb.leastOf 2 = 128 := rfl
          rw [h2] at hok
          by_cases hq : 128 ≤ q
          · have := nok_int (fun h => hok ⟨hq, h⟩)
            omega
          · omega
        clear hg hok hh hk2 hk e1 hrr
        rcases hno with o | ⟨o0, o⟩ | ⟨o0, o1⟩
        all_goals go_wp2
        all_goals go_ret2
        all_goals exact ⟨⟨0, 0, rfl, HG.out⟩, rfl⟩

end Go.Proofs.YtldgiecjnmkajaaGreatDoor
