/-
  OWN TEXT: mailbagref.Encode.
-/
import Derived.Test.YtldgiecjnmkajaaGreatDoorRefWalkA
import Derived.Test.YtldgiecjnmkajaaGreatDoorRefWalkD
import Derived.Test.YtldgiecjnmkajaaGreatDoorNameWalkE
namespace Go.Proofs.YtldgiecjnmkajaaGreatDoor
open Go.RowKit Go.Lib

/-- what Encode gives -/
def EncO (l : List UInt8) (v : Value) : Prop :=
  (Mb.nameOk l = true ∧ v = .tuple #[.string ⟨(Mb.encL l).toArray⟩, .int .i64 0]) ∨ (Mb.nameOk l = false ∧ v = .tuple #[.string ⟨#[]⟩, .int .i64 2])

theorem slice_one (s : ByteArray) (i : Nat) (hi : i < s.size) : ∃ c : ByteArray, Hid (c.data.toList = [s[i]]) ∧ ∀ (z : Int), z = (i : Int) + 1 → ∀ W, (Instr.slice 9 (.string s) (some (.int .i64 (i : Int))) (some (.int .i64 z)) none).run Tryz.prog W = .ok (.string c) W := by
  refine ⟨s.extract i (i + 1), ?_, fun z hz W => ?_⟩
  · unfold Hid
    rw [Lib.extract_data, List.drop_eq_getElem_cons (by simpa using hi)]
    have : i + 1 - i = 1 := by omega
    rw [this]
    rfl
  · subst hz
    rw [run_slice_string W 9 s .i64 .i64 _ _ Tryz.underlying9 (by omega) (by omega) (by omega)]
    congr 3

theorem dec_plain {l : List UInt8} {c : UInt8} {t : List UInt8} (hl : l = c :: t) (h : Mb.plainRune (Mb.dec l).1 = true) : Mb.codeOf (Mb.dec l).1 = [c] := by
  rw [Mb.codeOf_plain h]
  have hp := h
  simp only [Mb.plainRune, Bool.or_eq_true, Bool.and_eq_true, decide_eq_true_eq] at hp
  have hne : (Mb.dec l).1 ≠ 65533 := by omega
  have he := (Mb.enc_dec l (by rw [hl]; simp) hne).1
  unfold Lib.encodeRune at he
  rw [Lib.encodeRuneZ_one (by omega) (by omega)] at he
  simp only [List.map_cons, List.map_nil, Int.toNat_natCast] at he
  have hlen := congrArg List.length he
  have hw := Mb.dec_width l
  rw [hl] at he
  cases hk : (Mb.dec l).2 with
  | zero => omega
  | succ m =>
    rw [hl] at hk
    rw [hk, List.take_succ_cons] at he
    simp only [List.cons.injEq] at he
    have h1 := he.1
    rw [← hl] at h1
    rw [← h1]

set_option maxHeartbeats 8000000 in
set_option maxRecDepth 100000 in
theorem refEncode_any (s : ByteArray) (hs : s.size ≤ 4503599627370496) (w : World) (hE : EnvN w) (hL : LeastIs w) :
    Calls Tryz.prog 105 #[.string s] w fun e w' => (∃ v, e = .returned v ∧ EncO s.data.toList v) ∧ Below w.heap.size w w' := by
  have HE := Lib.hid hE
  have HL := Lib.hid hL
  clear hE hL
  go_enter Tryz.func105, Tryz.ntmps105
  go_wp2
  go_loopw [4, 5, 6] (fun vc vn vi wr => ∃ (n i : Nat) (c : ByteArray), vc = .string c ∧ vn = .int .i64 n ∧ vi = .int .i64 i ∧ i ≤ s.size ∧ n ≤ i ∧ Below w.heap.size w wr ∧ Hid (Mb.RefAt s.data.toList n c.data.toList (s.data.toList.drop i))) (fun _ _ vi _ => s.size - (RowKit.intOf vi).toNat)
  case atStart => exact ⟨0, 0, ⟨#[]⟩, rfl, rfl, rfl, Nat.zero_le _, Nat.le_refl _, Below.refl _ _, Mb.RefAt.start _⟩
  case round =>
    obtain ⟨n, i, c, rfl, rfl, rfl, hi, hni, hb, hh⟩ := hrel
    have hclen := hh.out.len
    have icn : (n : Int) ≤ 4503599627370496 := by omega
    by_cases hin : i < s.size
    · have hRu := runeAt_any s i hin (by omega) wr (HL.out.below hb (Nat.le_refl _))
      have hne := drop_ne hin
      go_wp2_with fail
      go_at_call 166
      refine hRu.mono (fun e w1 hpost => ?_)
      obtain ⟨⟨r, k, rfl, hro⟩, hw1⟩ := hpost
      subst w1
      have hal := allowed_any r wr
      rcases hro with ⟨hr, hk⟩ | ⟨rfl, rfl, h3⟩
      · by_cases hf : Mb.fineRune r = true
        · rw [hf] at hal
          have hgo := hh.out.go hne (by rw [← hr]; exact hf)
          rw [← hr, ← hk, List.drop_drop] at hgo
          have hrle := dec_le _ hne
          rw [← hr] at hrle
          have hkw := Mb.dec_width (s.data.toList.drop i)
          have hkle := Mb.dec_width_le _ hne
          rw [← hk] at hkw hkle
          rw [List.length_drop, ← Lib.size_eq] at hkle
          have hpl := plain_any r wr
          by_cases hp : Mb.plainRune r = true
          · rw [hp] at hpl
            obtain ⟨c1, hc1, hsl⟩ := slice_one s i hin
            have hcode : Mb.codeOf r = [s[i]] := by
              rw [hr]
              exact dec_plain (c := s[i]) (List.drop_eq_getElem_cons (by simpa using hin)) (by rw [← hr]; exact hp)
            obtain ⟨c2, hc2, hcat⟩ := cat_run Tryz.prog c c1 (by rw [hc1.out]; simp only [List.length_cons, List.length_nil]; omega)
            have HN : Hid (Mb.RefAt s.data.toList (n + 1) c2.data.toList (s.data.toList.drop (i + k))) := by
              unfold Hid
              rw [hc2.out, hc1.out, ← hcode]
              exact hgo
            replace hsl := hsl ((i : Int) + 1) rfl
            clear hgo hcode hr hk hh hRu hne hclen hf hp hrle
            go_wp2_with fail
            go_at_call 167
            refine hal.mono (fun e w1 hpost => ?_)
            obtain ⟨rfl, hw1⟩ := hpost
            subst w1
            go_wp2_with fail
            go_at_call 168
            refine hpl.mono (fun e w1 hpost => ?_)
            obtain ⟨rfl, hw1⟩ := hpost
            subst w1
            go_wp2
            refine ⟨⟨n + 1, i + k, c2, rfl, ?_, ?_, by omega, by omega, hb, HN⟩, ?_⟩
            · first | rfl | (congr 1; omega)
            · first | rfl | (congr 1; omega)
            · simp [RowKit.intOf]; omega
          · have hpf : Mb.plainRune r = false := by simpa using hp
            rw [hpf] at hpl
            have hF := formatInt_any r (by omega) wr (HE.out.below hb (Nat.le_refl _)).tz
            have hcode := Mb.codeOf_hex hp
            have hhl := Mb.code_len r hrle
            rw [hcode, List.length_cons, List.length_append, List.length_singleton] at hhl
            obtain ⟨h0, hh0a, hh0⟩ := named_bytes (Mb.hexL r)
            rw [← hh0a.out] at hF
            obtain ⟨m0, hm0a, hm0⟩ := named_bytes [61]
            obtain ⟨c1, hc1, hcat1⟩ := cat_run Tryz.prog c m0 (by rw [hm0.out]; simp only [List.length_cons, List.length_nil]; omega)
            obtain ⟨c2, hc2, hcat2⟩ := cat_run Tryz.prog c1 h0 (by rw [hc1.out, hm0.out, hh0.out]; simp only [List.length_append, List.length_cons, List.length_nil]; omega)
            obtain ⟨c3, hc3, hcat3⟩ := cat_run Tryz.prog c2 m0 (by rw [hc2.out, hc1.out, hm0.out, hh0.out]; simp only [List.length_append, List.length_cons, List.length_nil]; omega)
            rw [hm0a.out] at hcat1 hcat3
            have HN : Hid (Mb.RefAt s.data.toList (n + 1) c3.data.toList (s.data.toList.drop (i + k))) := by
              unfold Hid
              have e : c3.data.toList = c.data.toList ++ Mb.codeOf r := by
                rw [hc3.out, hc2.out, hc1.out, hh0.out, hm0.out, hcode]
                simp
              rw [e]
              exact hgo
            clear hgo hcode hr hk hh hRu hne hclen hf hp hhl hc1 hc2 hc3 hm0 hm0a hh0 hh0a
            go_wp2_with fail
            go_at_call 167
            refine hal.mono (fun e w1 hpost => ?_)
            obtain ⟨rfl, hw1⟩ := hpost
            subst w1
            go_wp2_with fail
            go_at_call 168
            refine hpl.mono (fun e w1 hpost => ?_)
            obtain ⟨rfl, hw1⟩ := hpost
            subst w1
            go_wp2_with fail
            go_at_call 169
            refine hF.mono (fun e w1 hpost => ?_)
            obtain ⟨rfl, hb1⟩ := hpost
            go_wp2
            refine ⟨⟨n + 1, i + k, c3, rfl, ?_, ?_, by omega, by omega, hb.trans (hb1.mono hb.size), HN⟩, ?_⟩
            · first | rfl | (congr 1; omega)
            · first | rfl | (congr 1; omega)
            · simp [RowKit.intOf]; omega
        · have hff : Mb.fineRune r = false := by simpa using hf
          rw [hff] at hal
          have HB := Lib.hid (hh.out.bad hne (by rw [← hr]; exact hff))
          clear hr hk hh hRu hne hclen hf hff
          go_wp2_with fail
          go_at_call 167
          refine hal.mono (fun e w1 hpost => ?_)
          obtain ⟨rfl, hw1⟩ := hpost
          subst w1
          by_cases hk0 : k = 0
          · subst hk0
            go_wp2
            go_ret2
            exact ⟨⟨_, rfl, Or.inr ⟨HB.out, rfl⟩⟩, hb⟩
          · have hk1 : ((k : Int) == 0) = false := by simp; omega
            go_wp2
            all_goals first | (go_ret2; exact ⟨⟨_, rfl, Or.inr ⟨HB.out, rfl⟩⟩, hb⟩) | omega
      · have HB := Lib.hid (hh.out.bad hne (by rw [h3]; rfl))
        have hf0 : Mb.fineRune 0 = false := rfl
        rw [hf0] at hal
        clear hh hRu hne hclen h3 hf0
        go_wp2_with fail
        go_at_call 167
        refine hal.mono (fun e w1 hpost => ?_)
        obtain ⟨rfl, hw1⟩ := hpost
        subst w1
        go_wp2
        go_ret2
        exact ⟨⟨_, rfl, Or.inr ⟨HB.out, rfl⟩⟩, hb⟩
    · have hl := hh.out
      rw [List.drop_eq_nil_of_le (by rw [← Lib.size_eq]; omega)] at hl
      obtain ⟨hn, he⟩ := hl.last
      have HC := Lib.hid he
      clear he hl hh hclen
      by_cases hn8 : 0 < n ∧ n ≤ 8
      · have HO : Hid (Mb.nameOk s.data.toList = true) := by
          unfold Hid; rw [hn]; simp [hn8.1, hn8.2]
        have j1 : 1 ≤ (n : Int) := by omega
        have j2 : (n : Int) ≤ 8 := by omega
        clear hn hn8
        go_wp2
        go_ret2
        exact ⟨⟨_, rfl, Or.inl ⟨HO.out, by rw [HC.out]; rfl⟩⟩, hb⟩
      · have HO : Hid (Mb.nameOk s.data.toList = false) := by
          unfold Hid; rw [hn, Bool.eq_false_iff]; simp; omega
        have j : (n : Int) < 1 ∨ (1 ≤ (n : Int) ∧ 8 < (n : Int)) := by omega
        clear hn hn8
        rcases j with j | ⟨j, j2⟩
        all_goals go_wp2
        all_goals go_ret2
        all_goals exact ⟨⟨_, rfl, Or.inr ⟨HO.out, rfl⟩⟩, hb⟩

end Go.Proofs.YtldgiecjnmkajaaGreatDoor
