/-
  OWN TEXT: mailbagref's runeAt at three and four bytes, and at any byte.
-/
import Derived.Test.YtldgiecjnmkajaaGreatDoorRefWalkC
namespace Go.Proofs.YtldgiecjnmkajaaGreatDoor
open Go.RowKit Go.Lib

set_option maxHeartbeats 8000000 in
set_option maxRecDepth 100000 in
theorem runeAt_three (s : ByteArray) (i : Nat) (hs : s.size ≤ 4611686018427387904) (w : World) (hL : LeastIs w) (c : Nat) (hX : ∀ W, (Instr.index 9 (.string s) (.int .i64 (i : Int))).run Tryz.prog W = .ok (.int .u8 (c : Int)) W)
    (h1 : 224 ≤ c) (h2 : c < 240) (B R : Nat → Nat) (hR0 : R 0 = c - 224) (hfit : i + 3 ≤ s.size) (hr : Rest s i 3 B R) :
    Calls Tryz.prog 166 #[.string s, .int .i64 i] w fun e w' => (∃ r k : Nat, e = .returned (.tuple #[.int .i64 r, .int .i64 k]) ∧ RuneO (s.data.toList.drop i) r k) ∧ w' = w := by
  have is0 : (s.size : Int) ≤ 4611686018427387904 := by omega
  have ii : (i : Int) + 3 ≤ s.size := by omega
  have i1 : 224 ≤ (c : Int) := by omega
  have i2 : (c : Int) < 240 := by omega
  have hl2 := hL.c3
  have HR := Lib.hid hr
  have H0 : Hid ((c : Int) - 224 = (R 0 : Int)) := by unfold Hid; omega
  clear hr hL h1 h2 hR0 hs hfit
  go_enter Tryz.func166, Tryz.ntmps166
  go_wp2
  go_loop [8, 9] (fun vr vk => ∃ (k : Nat) (r : Int), vr = .int .i64 r ∧ vk = .int .i64 (k + 1 : Nat) ∧ k + 1 ≤ 3 ∧ 0 ≤ r ∧ r < 2097152 ∧ Hid (r = (R k : Int) ∧ ∀ j, 1 ≤ j → j < k + 1 → 128 ≤ B j ∧ B j ≤ 191)) (fun _ vk => 3 - (RowKit.intOf vk).toNat)
  case atStart =>
    have := HR.out.small 0 (by omega)
    have h0 := H0.out
    exact ⟨0, (c : Int) - 224, rfl, rfl, by omega, by omega, by omega, h0, fun j h1 h2 => by omega⟩
  case round =>
    obtain ⟨k, r, rfl, rfl, hk, hr0, hr1, hh⟩ := hrel
    by_cases hk2 : k + 1 < 3
    · have hlt : i + (k + 1) < s.size := by omega
      have hXX := HR.out.idx (k + 1) hlt
      have hb := HR.out.byte (k + 1)
      have hbad := HR.out.bad (k + 1) (by omega) hk2
      have hst := HR.out.step k
      have hsm := HR.out.small (k + 1) hk2
      have hd := hXX
      rw [hXX] at hb hbad hst
      have idb : ((s[i + (k + 1)]'hlt).toNat : Int) < 256 := by omega
      have ik : (k : Int) + 1 < 3 := by omega
      by_cases hc : 128 ≤ (s[i + (k + 1)]'hlt).toNat ∧ (s[i + (k + 1)]'hlt).toNat ≤ 191
      · have id1 : 128 ≤ ((s[i + (k + 1)]'hlt).toNat : Int) := by omega
        have id2 : ((s[i + (k + 1)]'hlt).toNat : Int) ≤ 191 := by omega
        have HN : Hid (r * 64 + ((s[i + (k + 1)]'hlt).toNat : Int) - 128 = (R (k + 1) : Int) ∧ ∀ j, 1 ≤ j → j < k + 1 + 1 → 128 ≤ B j ∧ B j ≤ 191) := by
          refine ⟨by have := hh.out.1; omega, fun j h1 h2 => ?_⟩
          by_cases hj : j < k + 1
          · exact hh.out.2 j h1 hj
          · have : j = k + 1 := by omega
            rw [this, hd]; exact hc
        have hrb : r * 64 + ((s[i + (k + 1)]'hlt).toNat : Int) - 128 < 2097152 := by have := HN.out.1; omega
        clear hbad hst hsm hd hc hh hb hXX
        go_wp2
        refine ⟨⟨k + 1, r * 64 + ((s[i + (k + 1)]'hlt).toNat : Int) - 128, rfl, ?_, by omega, by omega, hrb, HN⟩, ?_⟩
        · first | rfl | (congr 1; omega)
        · simp [RowKit.intOf]; omega
      · have HB := Lib.hid (hbad (by omega))
        have hc' : ((s[i + (k + 1)]'hlt).toNat : Int) < 128 ∨ 191 < ((s[i + (k + 1)]'hlt).toNat : Int) := by omega
        clear hbad hst hsm hd hc hh hb hXX
        rcases hc' with hc' | hc'
        all_goals go_wp2
        all_goals go_ret2
        all_goals exact ⟨⟨0, 0, rfl, HB.out⟩, rfl⟩
    · have hkk : k = 2 := by omega
      subst hkk
      have hg := HR.out.good hh.out.2
      have e1 : R (3 - 1) = R 2 := rfl
      rw [e1] at hg
      have hrr := hh.out.1
      generalize R 2 = q at hg hrr
      have HQ := Lib.hid hrr
      by_cases hok : Mb.leastOf 3 ≤ q ∧ Mb.runeOkB q = true
      · have HG := Lib.hid (hg.1 hok)
        obtain ⟨o1, o2⟩ := ok_int hok.2
        rw [← hrr] at o1 o2
        have o0 : 2048 ≤ r := by have h2 : Mb.leastOf 3 = 2048 := rfl; omega
        clear hg hok hh hk2 hk e1 hrr
        rcases o2 with o2 | ⟨o2, o3⟩
        all_goals go_wp2
        all_goals go_ret2
        all_goals exact ⟨⟨q, 3, by rw [← HQ.out]; rfl, HG.out⟩, rfl⟩
      · have HG := Lib.hid (hg.2 hok)
        have hno : r < 2048 ∨ (2048 ≤ r ∧ 1114111 < r) ∨ (55296 ≤ r ∧ r ≤ 57343) := by
          have h2 : Mb.leastOf 3 = 2048 := rfl
          rw [h2] at hok
          by_cases hq : 2048 ≤ q
          · have := nok_int (fun h => hok ⟨hq, h⟩)
            omega
          · omega
        clear hg hok hh hk2 hk e1 hrr
        rcases hno with o | ⟨o0, o⟩ | ⟨o0, o1⟩
        all_goals go_wp2
        all_goals go_ret2
        all_goals exact ⟨⟨0, 0, rfl, HG.out⟩, rfl⟩

set_option maxHeartbeats 8000000 in
set_option maxRecDepth 100000 in
theorem runeAt_four (s : ByteArray) (i : Nat) (hs : s.size ≤ 4611686018427387904) (w : World) (hL : LeastIs w) (c : Nat) (hX : ∀ W, (Instr.index 9 (.string s) (.int .i64 (i : Int))).run Tryz.prog W = .ok (.int .u8 (c : Int)) W)
    (h1 : 240 ≤ c) (h2 : c < 248) (B R : Nat → Nat) (hR0 : R 0 = c - 240) (hfit : i + 4 ≤ s.size) (hr : Rest s i 4 B R) :
    Calls Tryz.prog 166 #[.string s, .int .i64 i] w fun e w' => (∃ r k : Nat, e = .returned (.tuple #[.int .i64 r, .int .i64 k]) ∧ RuneO (s.data.toList.drop i) r k) ∧ w' = w := by
  have is0 : (s.size : Int) ≤ 4611686018427387904 := by omega
  have ii : (i : Int) + 4 ≤ s.size := by omega
  have i1 : 240 ≤ (c : Int) := by omega
  have i2 : (c : Int) < 248 := by omega
  have hl2 := hL.c4
  have HR := Lib.hid hr
  have H0 : Hid ((c : Int) - 240 = (R 0 : Int)) := by unfold Hid; omega
  clear hr hL h1 h2 hR0 hs hfit
  go_enter Tryz.func166, Tryz.ntmps166
  go_wp2
  go_loop [8, 9] (fun vr vk => ∃ (k : Nat) (r : Int), vr = .int .i64 r ∧ vk = .int .i64 (k + 1 : Nat) ∧ k + 1 ≤ 4 ∧ 0 ≤ r ∧ r < 2097152 ∧ Hid (r = (R k : Int) ∧ ∀ j, 1 ≤ j → j < k + 1 → 128 ≤ B j ∧ B j ≤ 191)) (fun _ vk => 4 - (RowKit.intOf vk).toNat)
  case atStart =>
    have := HR.out.small 0 (by omega)
    have h0 := H0.out
    exact ⟨0, (c : Int) - 240, rfl, rfl, by omega, by omega, by omega, h0, fun j h1 h2 => by omega⟩
  case round =>
    obtain ⟨k, r, rfl, rfl, hk, hr0, hr1, hh⟩ := hrel
    by_cases hk2 : k + 1 < 4
    · have hlt : i + (k + 1) < s.size := by omega
      have hXX := HR.out.idx (k + 1) hlt
      have hb := HR.out.byte (k + 1)
      have hbad := HR.out.bad (k + 1) (by omega) hk2
      have hst := HR.out.step k
      have hsm := HR.out.small (k + 1) hk2
      have hd := hXX
      rw [hXX] at hb hbad hst
      have idb : ((s[i + (k + 1)]'hlt).toNat : Int) < 256 := by omega
      have ik : (k : Int) + 1 < 4 := by omega
      by_cases hc : 128 ≤ (s[i + (k + 1)]'hlt).toNat ∧ (s[i + (k + 1)]'hlt).toNat ≤ 191
      · have id1 : 128 ≤ ((s[i + (k + 1)]'hlt).toNat : Int) := by omega
        have id2 : ((s[i + (k + 1)]'hlt).toNat : Int) ≤ 191 := by omega
        have HN : Hid (r * 64 + ((s[i + (k + 1)]'hlt).toNat : Int) - 128 = (R (k + 1) : Int) ∧ ∀ j, 1 ≤ j → j < k + 1 + 1 → 128 ≤ B j ∧ B j ≤ 191) := by
          refine ⟨by have := hh.out.1; omega, fun j h1 h2 => ?_⟩
          by_cases hj : j < k + 1
          · exact hh.out.2 j h1 hj
          · have : j = k + 1 := by omega
            rw [this, hd]; exact hc
        have hrb : r * 64 + ((s[i + (k + 1)]'hlt).toNat : Int) - 128 < 2097152 := by have := HN.out.1; omega
        clear hbad hst hsm hd hc hh hb hXX
        go_wp2
        refine ⟨⟨k + 1, r * 64 + ((s[i + (k + 1)]'hlt).toNat : Int) - 128, rfl, ?_, by omega, by omega, hrb, HN⟩, ?_⟩
        · first | rfl | (congr 1; omega)
        · simp [RowKit.intOf]; omega
      · have HB := Lib.hid (hbad (by omega))
        have hc' : ((s[i + (k + 1)]'hlt).toNat : Int) < 128 ∨ 191 < ((s[i + (k + 1)]'hlt).toNat : Int) := by omega
        clear hbad hst hsm hd hc hh hb hXX
        rcases hc' with hc' | hc'
        all_goals go_wp2
        all_goals go_ret2
        all_goals exact ⟨⟨0, 0, rfl, HB.out⟩, rfl⟩
    · have hkk : k = 3 := by omega
      subst hkk
      have hg := HR.out.good hh.out.2
      have e1 : R (4 - 1) = R 3 := rfl
      rw [e1] at hg
      have hrr := hh.out.1
      generalize R 3 = q at hg hrr
      have HQ := Lib.hid hrr
      by_cases hok : Mb.leastOf 4 ≤ q ∧ Mb.runeOkB q = true
      · have HG := Lib.hid (hg.1 hok)
        obtain ⟨o1, o2⟩ := ok_int hok.2
        rw [← hrr] at o1 o2
        have o0 : 65536 ≤ r := by have h2 : Mb.leastOf 4 = 65536 := rfl; omega
        clear hg hok hh hk2 hk e1 hrr
        rcases o2 with o2 | ⟨o2, o3⟩
        all_goals go_wp2
        all_goals go_ret2
        all_goals exact ⟨⟨q, 4, by rw [← HQ.out]; rfl, HG.out⟩, rfl⟩
      · have HG := Lib.hid (hg.2 hok)
        have hno : r < 65536 ∨ (65536 ≤ r ∧ 1114111 < r) ∨ (55296 ≤ r ∧ r ≤ 57343) := by
          have h2 : Mb.leastOf 4 = 65536 := rfl
          rw [h2] at hok
          by_cases hq : 65536 ≤ q
          · have := nok_int (fun h => hok ⟨hq, h⟩)
            omega
          · omega
        clear hg hok hh hk2 hk e1 hrr
        rcases hno with o | ⟨o0, o⟩ | ⟨o0, o1⟩
        all_goals go_wp2
        all_goals go_ret2
        all_goals exact ⟨⟨0, 0, rfl, HG.out⟩, rfl⟩


/-- mailbagref.runeAt -/
theorem runeAt_any (s : ByteArray) (i : Nat) (hi : i < s.size) (hs : s.size ≤ 4611686018427387904) (w : World) (hL : LeastIs w) :
    Calls Tryz.prog 166 #[.string s, .int .i64 i] w fun e w' => (∃ r k : Nat, e = .returned (.tuple #[.int .i64 r, .int .i64 k]) ∧ RuneO (s.data.toList.drop i) r k) ∧ w' = w := by
  have hlt := Mb.bat_lt (s.data.toList.drop i) 0
  by_cases hf : Mb.bat (s.data.toList.drop i) 0 < 128 ∨ (128 ≤ Mb.bat (s.data.toList.drop i) 0 ∧ (Mb.bat (s.data.toList.drop i) 0 < 192 ∨ 248 ≤ Mb.bat (s.data.toList.drop i) 0))
  · exact runeAt_first s i hi w hf
  · obtain ⟨n, c0, hlead⟩ : ∃ n c0, Mb.Lead (Mb.bat (s.data.toList.drop i) 0) n c0 := by
      by_cases h1 : Mb.bat (s.data.toList.drop i) 0 < 224
      · exact ⟨2, _, Or.inl ⟨rfl, by omega, h1, rfl⟩⟩
      · by_cases h2 : Mb.bat (s.data.toList.drop i) 0 < 240
        · exact ⟨3, _, Or.inr (Or.inl ⟨rfl, by omega, h2, rfl⟩)⟩
        · exact ⟨4, _, Or.inr (Or.inr ⟨rfl, by omega, by omega, rfl⟩)⟩
    by_cases hfit : i + n ≤ s.size
    · have hr := rest_of s i n c0 hlead hfit
      have hX := idx_str s (i : Int) i 0 (by omega) (by omega)
      rcases hlead with ⟨rfl, h1, h2, h0⟩ | ⟨rfl, h1, h2, h0⟩ | ⟨rfl, h1, h2, h0⟩
      · exact runeAt_two s i hs w hL _ hX h1 h2 _ _ h0 hfit hr
      · exact runeAt_three s i hs w hL _ hX h1 h2 _ _ h0 hfit hr
      · exact runeAt_four s i hs w hL _ hX h1 h2 _ _ h0 hfit hr
    · exact runeAt_short s i hi hs w n c0 hlead hfit

end Go.Proofs.YtldgiecjnmkajaaGreatDoor
