/-
  OWN TEXT: mailbagref.Decode.
-/
import Derived.Test.YtldgiecjnmkajaaGreatDoorRefWalkE
import Derived.Test.YtldgiecjnmkajaaGreatDoorRefWalkF
import Derived.Test.YtldgiecjnmkajaaGreatDoorNameWalkG
namespace Go.Proofs.YtldgiecjnmkajaaGreatDoor
open Go.RowKit Go.Lib

theorem drop_at (s : ByteArray) (i : Nat) (h : i < s.size) : s.data.toList.drop i = s[i] :: s.data.toList.drop (i + 1) := by
  rw [List.drop_eq_getElem_cons (by simpa using h)]; rfl

theorem byte61 {c : UInt8} (h : ¬ c = 61) : ((c.toNat : Int) == 61) = false := by
  simp only [beq_eq_false_iff_ne, ne_eq]
  intro e
  apply h
  apply UInt8.toNat_inj.1
  have : c.toNat = 61 := by omega
  rw [this]; rfl

set_option maxHeartbeats 16000000 in
set_option maxRecDepth 100000 in
theorem refDecode_any (s : ByteArray) (hs : s.size ≤ 281474976710656) (w : World) (hE : EnvN w) (hL : LeastIs w) :
    Calls Tryz.prog 107 #[.string s] w fun e w' => (∃ v, e = .returned v ∧ DecO s.data.toList v) ∧ Below w.heap.size w w' := by
  have HE := Lib.hid hE
  have HL := Lib.hid hL
  clear hE hL
  go_enter Tryz.func107, Tryz.ntmps107
  go_wp2
  go_loopw [4, 5] (fun vn vi wr => ∃ (i : Nat) (c : ByteArray), vn = .string c ∧ vi = .int .i64 i ∧ i ≤ s.size ∧ c.data.toList.length ≤ 4 * i ∧ Below w.heap.size w wr ∧ Hid (Mb.SpAt s.data.toList c.data.toList (s.data.toList.drop i))) (fun _ vi _ => s.size - (RowKit.intOf vi).toNat)
  case atStart => exact ⟨0, ⟨#[]⟩, rfl, rfl, Nat.zero_le _, by simp, Below.refl _ _, Mb.SpAt.start _⟩
  case round =>
    obtain ⟨i, c, rfl, rfl, hi, hclen, hb, hh⟩ := hrel
    by_cases hin : i < s.size
    · have hdrop := drop_at s i hin
      have hsp := hh.out
      rw [hdrop] at hsp
      by_cases h61 : s[i] = 61
      · rw [h61] at hsp
        have HS := Lib.hid hsp.mark
        have i61 : (s[i].toNat : Int) = 61 := by rw [h61]; rfl
        clear hsp h61 hh hdrop
        go_wp2
        go_loop [5, 6] (fun vi vr => ∃ (j r : Nat) (z : Int), vi = .int .i64 j ∧ vr = .int .i64 z ∧ i + 1 ≤ j ∧ j ≤ s.size ∧ 0 ≤ z ∧ z ≤ 17825791 ∧ Hid (z = (r : Int) ∧ Mb.SiAt s.data.toList c.data.toList r (s.data.toList.drop j))) (fun vi _ => s.size - (RowKit.intOf vi).toNat)
        case atStart => exact ⟨i + 1, 0, 0, by first | rfl | (congr 1; omega), rfl, Nat.le_refl _, by omega, by omega, by omega, rfl, HS.out⟩
        case round =>
          obtain ⟨j, r, z, rfl, rfl, hij, hj, hz0, hz1, hg⟩ := hrel
          have hzr := hg.out.1
          by_cases hjn : j < s.size
          · have hdj := drop_at s j hjn
            have hsi := hg.out.2
            rw [hdj] at hsi
            by_cases hj61 : s[j] = 61
            · rw [hj61] at hsi
              have ij61 : (s[j].toNat : Int) = 61 := by rw [hj61]; rfl
              have hjne : ((j : Int) == (s.size : Int)) = false := by simp; omega
              by_cases hok : Mb.runeOkB r = true
              · have hcl := hsi.close hok
                obtain ⟨o1, o2⟩ := ok_int hok
                have hB := bytesOf_any r hok wr
                rw [← hzr] at o1 o2 hB
                obtain ⟨b0, hb0a, hb0⟩ := named_bytes (Lib.encodeRune z)
                rw [← hb0a.out] at hB
                have hbl := encodeRune_small r
                rw [← hzr] at hbl hcl
                rw [← hb0.out] at hbl hcl
                obtain ⟨c1, hc1, hcat⟩ := cat_run Tryz.prog c b0 (by omega)
                rw [← hc1.out] at hcl
                have hc1l : c1.data.toList.length ≤ 4 * (j + 1) := by rw [hc1.out, List.length_append]; omega
                have HN := Lib.hid hcl
                clear hcl hsi hj61 hdj hg hok hb0 hb0a hc1 hbl hzr
                rcases o2 with o2 | ⟨o2, o3⟩
                all_goals go_wp2_with fail
                all_goals go_at_call 172
                all_goals refine hB.mono (fun e w1 hpost => ?_)
                all_goals obtain ⟨rfl, hb1⟩ := hpost
                all_goals go_wp2
                all_goals refine ⟨⟨j + 1, c1, rfl, by first | rfl | (congr 1; omega), by omega, hc1l, hb.trans (hb1.mono hb.size), HN⟩, by simp [RowKit.intOf]; omega⟩
              · have HD := Lib.hid (hsi.badClose hok)
                have hno := nok_int hok
                rw [← hzr] at hno
                clear hsi hj61 hdj hg hok hzr
                rcases hno with o | ⟨o0, o1⟩
                all_goals go_wp2
                all_goals go_ret2
                all_goals exact ⟨⟨_, rfl, Or.inr ⟨HD.out, rfl⟩⟩, hb⟩
            · have ij61 := byte61 hj61
              rcases hexVal_cases s[j] with ⟨d, hd, hd16, _⟩ | ⟨hd, _⟩
              · have hX := hex_some s[j] d hd wr
                have id0 : (d : Int) < 16 := by omega
                by_cases hgr : 1114111 < r
                · have HD := Lib.hid (hsi.badGreat hj61 hgr)
                  have igr : 1114111 < z := by omega
                  clear hsi hj61 hdj hg hd hgr hzr
                  go_wp2_with fail
                  go_at_call 171
                  refine hX.mono (fun e w1 hpost => ?_)
                  obtain ⟨rfl, hw1⟩ := hpost
                  subst w1
                  go_wp2
                  go_ret2
                  exact ⟨⟨_, rfl, Or.inr ⟨HD.out, rfl⟩⟩, hb⟩
                · have HN : Hid (z * 16 + (d : Int) = ((r * 16 + d : Nat) : Int) ∧ _) := Lib.hid ⟨by omega, hsi.digit hj61 hd hgr⟩
                  have igr : z ≤ 1114111 := by omega
                  clear hsi hj61 hdj hg hd hgr hzr
                  go_wp2_with fail
                  go_at_call 171
                  refine hX.mono (fun e w1 hpost => ?_)
                  obtain ⟨rfl, hw1⟩ := hpost
                  subst w1
                  go_wp2
                  refine ⟨⟨j + 1, r * 16 + d, z * 16 + (d : Int), by first | rfl | (congr 1; omega), by first | rfl | (congr 1; omega), by omega, by omega, by omega, by omega, HN⟩, by simp [RowKit.intOf]; omega⟩
              · have hX := hex_none s[j] hd wr
                have HD := Lib.hid (hsi.badDigit hj61 hd)
                clear hsi hj61 hdj hg hd hzr
                go_wp2_with fail
                go_at_call 171
                refine hX.mono (fun e w1 hpost => ?_)
                obtain ⟨rfl, hw1⟩ := hpost
                subst w1
                go_wp2
                go_ret2
                exact ⟨⟨_, rfl, Or.inr ⟨HD.out, rfl⟩⟩, hb⟩
          · have hjj : j = s.size := by omega
            subst hjj
            have hsi := hg.out.2
            rw [List.drop_eq_nil_of_le (by rw [← Lib.size_eq]; omega)] at hsi
            have HD := Lib.hid hsi.badEnd
            clear hsi hg hzr
            go_wp2
            go_ret2
            exact ⟨⟨_, rfl, Or.inr ⟨HD.out, rfl⟩⟩, hb⟩
      · obtain ⟨c1, hc1, hsl⟩ := slice_one s i hin
        obtain ⟨c2, hc2, hcat⟩ := cat_run Tryz.prog c c1 (by rw [hc1.out]; simp only [List.length_cons, List.length_nil]; omega)
        have hpl := hsp.plain h61
        rw [← hc1.out, ← hc2.out] at hpl
        have hl2 : c2.data.toList.length ≤ 4 * (i + 1) := by rw [hc2.out, hc1.out, List.length_append, List.length_singleton]; omega
        have HN := Lib.hid hpl
        have i61 := byte61 h61
        replace hsl := hsl ((i : Int) + 1) rfl
        clear hpl hsp h61 hh hdrop hc1 hc2
        go_wp2
        refine ⟨⟨i + 1, c2, rfl, by first | rfl | (congr 1; omega), by omega, hl2, hb, HN⟩, by simp [RowKit.intOf]; omega⟩
    · have hii : i = s.size := by omega
      subst hii
      have hsp := hh.out
      rw [List.drop_eq_nil_of_le (by rw [← Lib.size_eq]; omega)] at hsp
      have hlast := hsp.last
      have hC := refEncode_any c (by rw [Lib.size_eq]; omega) wr (HE.out.below hb (Nat.le_refl _)) (HL.out.below hb (Nat.le_refl _))
      clear hsp hh
      go_wp2_with fail
      go_at_call 105
      refine hC.mono (fun e w1 hpost => ?_)
      obtain ⟨⟨v, rfl, hv⟩, hb1⟩ := hpost
      have hb2 := hb.trans (hb1.mono hb.size)
      clear hC
      rcases hv with ⟨hok, rfl⟩ | ⟨hno, rfl⟩
      · by_cases heq : Mb.encL c.data.toList = s.data.toList
        · have HN := Lib.hid (Mb.decL_sp_ok hok heq)
          have hse : (⟨(Mb.encL c.data.toList).toArray⟩ : ByteArray) = s := by
            apply ByteArray.ext; apply Array.ext'; rw [heq]
          rw [hse]
          clear hlast hok heq hse
          go_wp2
          go_ret2
          exact ⟨⟨_, rfl, Or.inl ⟨_, HN.out, rfl⟩⟩, hb2⟩
        · have HN := Lib.hid (Mb.decL_sp_bad hlast (fun h => heq h.2))
          obtain ⟨x, hxd, hxs⟩ : ∃ x : ByteArray, x = ⟨(Mb.encL c.data.toList).toArray⟩ ∧ (x.toList == s.toList) = false := ⟨_, rfl, by rw [ByteArray.toList_eq, ByteArray.toList_eq]; simpa using heq⟩
          rw [← hxd]
          clear hlast hok heq hxd
          go_wp2
          go_ret2
          exact ⟨⟨_, rfl, Or.inr ⟨HN.out, rfl⟩⟩, hb2⟩
      · have HN := Lib.hid (Mb.decL_sp_bad hlast (fun h => by rw [hno] at h; cases h.1))
        clear hlast hno
        go_wp2
        go_ret2
        exact ⟨⟨_, rfl, Or.inr ⟨HN.out, rfl⟩⟩, hb2⟩

end Go.Proofs.YtldgiecjnmkajaaGreatDoor
