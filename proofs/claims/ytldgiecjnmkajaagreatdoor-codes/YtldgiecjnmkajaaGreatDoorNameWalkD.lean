/-
  OWN TEXT: names.isName and the small functions under it; names.appendCode.
-/
import Derived.Test.YtldgiecjnmkajaaGreatDoorNameWalkC
import Derived.Lib.OthersKept
import Derived.Laws.RangeString
import Derived.Laws.RangeAny
import Derived.Lib.AppendStr
namespace Go.Proofs.YtldgiecjnmkajaaGreatDoor
open Go.RowKit Go.Lib

theorem isNameRune_any (r : Nat) (w : World) :
    Calls Tryz.prog 308 #[.int .i32 r] w fun e w' => e = .returned (.bool (Mb.fineRune r)) ∧ w' = w := by
  obtain ⟨x, hx⟩ : ∃ x : Int, x = (r : Int) := ⟨_, rfl⟩
  by_cases h1 : r < 33
  · have hf : Mb.fineRune r = false := by unfold Mb.fineRune; simp; omega
    have i1 : x < 33 := by omega
    rw [hf, ← hx]
    clear hf hx h1
    go_enter Tryz.func308, Tryz.ntmps308
    go_wp2
    go_ret
    exact ⟨rfl, rfl⟩
  · by_cases h2 : r = 127
    · subst h2
      go_enter Tryz.func308, Tryz.ntmps308
      go_wp2
      go_ret
      exact ⟨rfl, rfl⟩
    · by_cases h3 : r = 65533
      · subst h3
        go_enter Tryz.func308, Tryz.ntmps308
        go_wp2
        go_ret
        exact ⟨rfl, rfl⟩
      · have hf : Mb.fineRune r = true := by unfold Mb.fineRune; simp; omega
        have i1 : 33 ≤ x := by omega
        have i2 : (x != 127) = true := by simp; omega
        have i3 : (x != 65533) = true := by simp; omega
        rw [hf, ← hx]
        clear hf hx h1 h2 h3
        go_enter Tryz.func308, Tryz.ntmps308
        go_wp2
        go_ret
        exact ⟨by simp, rfl⟩

theorem stands_any (r : Nat) (w : World) :
    Calls Tryz.prog 309 #[.int .i32 r] w fun e w' => e = .returned (.bool (Mb.plainRune r)) ∧ w' = w := by
  obtain ⟨x, hx⟩ : ∃ x : Int, x = (r : Int) := ⟨_, rfl⟩
  have hp : Mb.plainRune r = ((decide (97 ≤ x) && decide (x ≤ 122)) || (decide (48 ≤ x) && decide (x ≤ 57))) := by
    unfold Mb.plainRune; rw [hx, Bool.eq_iff_iff]; simp; omega
  rw [hp, ← hx]
  clear hp hx
  by_cases h1 : 97 ≤ x
  · by_cases h2 : x ≤ 122
    · go_enter Tryz.func309, Tryz.ntmps309
      go_wp2
      go_ret
      exact ⟨by simp [h1, h2], rfl⟩
    · go_enter Tryz.func309, Tryz.ntmps309
      go_wp2
      go_ret
      refine ⟨?_, rfl⟩
      show Ending.returned (Value.bool _) = Ending.returned (Value.bool _)
      congr 2
      rw [Bool.eq_iff_iff]
      simp
      omega
  · by_cases h2 : 48 ≤ x
    · go_enter Tryz.func309, Tryz.ntmps309
      go_wp2
      go_ret
      refine ⟨?_, rfl⟩
      show Ending.returned (Value.bool _) = Ending.returned (Value.bool _)
      congr 2
      rw [Bool.eq_iff_iff]
      simp
      omega
    · go_enter Tryz.func309, Tryz.ntmps309
      go_wp2
      go_ret
      refine ⟨?_, rfl⟩
      show Ending.returned (Value.bool _) = Ending.returned (Value.bool _)
      congr 2
      rw [Bool.eq_iff_iff]
      simp
      omega

/-- where a loop over a text's runes stands -/
def NameAt (l : List UInt8) (acc : Nat) (r : List UInt8) : Prop :=
  Mb.nameOk l = (decide (0 < acc + (Mb.runes r).length) && decide (acc + (Mb.runes r).length ≤ 8) && (Mb.runes r).all Mb.fineRune)

theorem NameAt.start (l : List UInt8) : NameAt l 0 l := by unfold NameAt Mb.nameOk; simp
theorem NameAt.bad {l r : List UInt8} {acc : Nat} (h : NameAt l acc r) (hr : r ≠ []) (hb : 8 ≤ acc ∨ Mb.fineRune (Mb.dec r).1 = false) : Mb.nameOk l = false := by
  unfold NameAt at h
  rw [h, Mb.runes_step r hr]
  rcases hb with hb | hb
  · have : ¬ acc + ((Mb.dec r).1 :: Mb.runes (r.drop (Mb.dec r).2)).length ≤ 8 := by simp only [List.length_cons]; omega
    rw [decide_eq_false this]; simp
  · simp [hb]
theorem NameAt.go {l r : List UInt8} {acc : Nat} (h : NameAt l acc r) (hr : r ≠ []) (hb : Mb.fineRune (Mb.dec r).1 = true) : NameAt l (acc + 1) (r.drop (Mb.dec r).2) := by
  unfold NameAt at h ⊢
  rw [h, Mb.runes_step r hr, List.all_cons, hb, Bool.true_and, List.length_cons]
  have e : acc + ((Mb.runes (r.drop (Mb.dec r).2)).length + 1) = acc + 1 + (Mb.runes (r.drop (Mb.dec r).2)).length := by omega
  rw [e]
theorem NameAt.last {l : List UInt8} {acc : Nat} (h : NameAt l acc []) (h8 : acc ≤ 8) : Mb.nameOk l = decide (0 < acc) := by
  unfold NameAt at h
  rw [h, Mb.runes_nil]; simp [h8]

theorem drop_ne {s : ByteArray} {pos : Nat} (h : pos < s.size) : s.data.toList.drop pos ≠ [] := by
  intro e
  have := congrArg List.length e
  rw [List.length_drop, ← Lib.size_eq, List.length_nil] at this
  omega

set_option maxHeartbeats 4000000 in
set_option maxRecDepth 1000000 in
theorem isName_any (s : ByteArray) (w : World) :
    Calls Tryz.prog 238 #[.string s] w fun e w' => e = .returned (.bool (Mb.nameOk s.data.toList)) ∧ ∃ pos, w' = w.iter s pos := by
  go_enter Tryz.func238, Tryz.ntmps238
  go_wp2
  go_loopw [3] (fun n w' => ∃ (pos acc : Nat), w' = w.iter s pos ∧ n = .int .i64 acc ∧ acc ≤ 8 ∧ Hid (NameAt s.data.toList acc (s.data.toList.drop pos))) (fun _ w' => s.size - w'.iterPos w.heap.size)
  case atStart => exact ⟨0, 0, rfl, rfl, by omega, NameAt.start _⟩
  case round =>
    obtain ⟨pos, acc, rfl, rfl, h8, hh⟩ := hrel
    by_cases hp : pos < s.size
    · have hnx : ∀ ty, (Instr.next (.pointer (some ⟨w.heap.size, 0, none⟩)) true ty).run Tryz.prog (w.iter s pos) = _ := fun ty => run_next_any w s pos ty hp
      have hne := drop_ne hp
      have hw := Mb.dec_width (s.data.toList.drop pos)
      have hd := Mb.decode_is s pos
      rw [hd] at hnx
      clear hd
      by_cases hb : 8 ≤ acc ∨ Mb.fineRune (Mb.dec (s.data.toList.drop pos)).1 = false
      · have HN := Lib.hid (hh.out.bad hne hb)
        generalize (Mb.dec (s.data.toList.drop pos)).1 = r at hnx hb
        have hr := isNameRune_any r
        rcases hb with hb | hb
        · have ib : (8 : Int) < acc + 1 := by omega
          clear hh
          go_wp2
          go_ret
          exact ⟨by rw [HN.out]; rfl, _, rfl⟩
        · rw [hb] at hr
          clear hh
          go_wp2_with (go_at_call 308; refine (hr _).mono ?_; rintro e w' ⟨rfl, rfl⟩)
          all_goals go_ret
          all_goals exact ⟨by rw [HN.out]; rfl, _, rfl⟩
      · have hb1 : ¬ 8 ≤ acc := fun h => hb (Or.inl h)
        have hb2 : Mb.fineRune (Mb.dec (s.data.toList.drop pos)).1 = true := by
          cases h : Mb.fineRune (Mb.dec (s.data.toList.drop pos)).1
          · exact absurd (Or.inr h) hb
          · rfl
        have HN := Lib.hid (hh.out.go hne hb2)
        rw [List.drop_drop] at HN
        have hr := isNameRune_any (Mb.dec (s.data.toList.drop pos)).1
        rw [hb2] at hr
        generalize (Mb.dec (s.data.toList.drop pos)).1 = r at hnx hr
        generalize (Mb.dec (s.data.toList.drop pos)).2 = k at hnx HN hw
        have ib : ¬ (8 : Int) < acc + 1 := by omega
        clear hh hb hb2
        go_wp2_with (go_at_call 308; refine (hr _).mono ?_; rintro e w' ⟨rfl, rfl⟩)
        go_roundw
        case rel => exact ⟨pos + k, acc + 1, rfl, by go_num, by omega, HN⟩
        case measure =>
          simp
          omega
    · have hnx : ∀ ty, (Instr.next (.pointer (some ⟨w.heap.size, 0, none⟩)) true ty).run Tryz.prog (w.iter s pos) = _ := fun ty => run_next_end w s pos ty hp
      have HN := hh.out
      rw [List.drop_eq_nil_of_le (by rw [← Lib.size_eq]; omega)] at HN
      have HR := Lib.hid (HN.last h8)
      clear HN hh
      go_wp2
      go_ret
      refine ⟨?_, _, rfl⟩
      rw [HR.out]
      congr 2

end Go.Proofs.YtldgiecjnmkajaaGreatDoor
