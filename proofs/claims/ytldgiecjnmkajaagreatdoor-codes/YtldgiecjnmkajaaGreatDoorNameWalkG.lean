/-
  OWN TEXT: names.Decode, and the calls of package mailbag that hand on to package names.
-/
import Derived.Test.YtldgiecjnmkajaaGreatDoorNameWalkF
namespace Go.Proofs.YtldgiecjnmkajaaGreatDoor
open Go.RowKit Go.Lib

theorem decL_long {l : List UInt8} (h : 64 < l.length) : Mb.decL l = none := by unfold Mb.decL; rw [if_pos h]
theorem decL_nospell {l : List UInt8} (h : Mb.spellL l = none) : Mb.decL l = none := by
  unfold Mb.decL
  split
  · rfl
  · rw [h]
theorem decL_noname {l n : List UInt8} (h : Mb.spellL l = some n) (hn : ¬ (Mb.nameOk n = true ∧ Mb.encL n = l)) : Mb.decL l = none := by
  unfold Mb.decL
  split
  · rfl
  · rw [h]; simp only; rw [if_neg hn]
theorem decL_name {l n : List UInt8} (h64 : ¬ 64 < l.length) (h : Mb.spellL l = some n) (hn : Mb.nameOk n = true ∧ Mb.encL n = l) : Mb.decL l = some n := by
  unfold Mb.decL
  rw [if_neg h64, h]; simp only; rw [if_pos hn]

/-- what Decode gives -/
def DecO (l : List UInt8) (v : Value) : Prop :=
  (∃ n, Mb.decL l = some n ∧ v = .tuple #[.string ⟨n.toArray⟩, .int .i64 0]) ∨ (Mb.decL l = none ∧ v = .tuple #[.string ⟨#[]⟩, .int .i64 2])

set_option maxHeartbeats 4000000 in
set_option maxRecDepth 100000 in
theorem decode_any (s : ByteArray) (w : World) (hE : EnvN w) :
    Calls Tryz.prog 170 #[.string s] w fun e w' => (∃ v, e = .returned v ∧ DecO s.data.toList v) ∧ Below w.heap.size w w' := by
  by_cases h64 : 64 < s.size
  · have HN := Lib.hid (decL_long (l := s.data.toList) (by rw [← Lib.size_eq]; omega))
    have i64 : (64 : Int) < s.size := by omega
    go_enter Tryz.func170, Tryz.ntmps170
    go_wp2
    go_ret2
    exact ⟨⟨_, rfl, Or.inr ⟨HN.out, rfl⟩⟩, Below.refl _ _⟩
  · have i64 : ¬ (64 : Int) < s.size := by omega
    have HL := Lib.hid (show ¬ 64 < s.data.toList.length by rw [← Lib.size_eq]; omega)
    have hS := spell_any s (by omega) w hE
    go_enter Tryz.func170, Tryz.ntmps170
    go_wp2_with fail
    go_at_call 240
    refine hS.mono (fun e w1 hpost => ?_)
    obtain ⟨h, hb1⟩ := hpost
    have hE1 := hE.below hb1 (Nat.le_refl _)
    rcases h with ⟨n, hn, rfl⟩ | ⟨hn, rfl⟩
    · by_cases hok : Mb.nameOk n = true
      · have hC := encode_name ⟨n.toArray⟩ w1 hok hE1.tz
        replace hC : Calls Tryz.prog 165 #[.string ⟨n.toArray⟩] w1 fun e w' => e = .returned (.tuple #[.string ⟨(Mb.encL n).toArray⟩, .int .i64 0]) ∧ Below w1.heap.size w1 w' := hC
        by_cases heq : Mb.encL n = s.data.toList
        · have hse : s = ⟨(Mb.encL n).toArray⟩ := by
            apply ByteArray.ext; apply Array.ext'; rw [heq]
          have HN := Lib.hid (decL_name HL.out hn ⟨hok, heq⟩)
          rw [← hse] at hC
          clear hn heq hok hse hS
          go_wp2_with fail
          go_at_call 165
          refine hC.mono (fun e w2 hpost => ?_)
          obtain ⟨rfl, hb2⟩ := hpost
          go_wp2
          go_ret2
          exact ⟨⟨_, rfl, Or.inl ⟨n, HN.out, rfl⟩⟩, hb1.trans (hb2.mono hb1.size)⟩
        · have HN := Lib.hid (decL_noname hn (fun h => heq h.2))
          obtain ⟨c, hcd, hcs⟩ : ∃ c : ByteArray, c = ⟨(Mb.encL n).toArray⟩ ∧ (c.toList == s.toList) = false := ⟨_, rfl, by rw [ByteArray.toList_eq, ByteArray.toList_eq]; simpa using heq⟩
          rw [← hcd] at hC
          clear hn heq hok hcd hS
          go_wp2_with fail
          go_at_call 165
          refine hC.mono (fun e w2 hpost => ?_)
          obtain ⟨rfl, hb2⟩ := hpost
          go_wp2
          go_ret2
          exact ⟨⟨_, rfl, Or.inr ⟨HN.out, rfl⟩⟩, hb1.trans (hb2.mono hb1.size)⟩
      · have hC := encode_bad ⟨n.toArray⟩ w1 (by simpa using hok)
        have HN := Lib.hid (decL_noname hn (fun h => hok h.1))
        clear hn hok hS
        go_wp2_with fail
        go_at_call 165
        refine hC.mono (fun e w2 hpost => ?_)
        obtain ⟨rfl, hb2⟩ := hpost
        go_wp2
        go_ret2
        exact ⟨⟨_, rfl, Or.inr ⟨HN.out, rfl⟩⟩, hb1.trans (hb2.mono hb1.size)⟩
    · have HN := Lib.hid (decL_nospell hn)
      clear hn hS
      go_wp2
      go_ret2
      exact ⟨⟨_, rfl, Or.inr ⟨HN.out, rfl⟩⟩, hb1⟩

/-! ### package mailbag -/

theorem mEncode_name (s : ByteArray) (w : World) (hn : Mb.nameOk s.data.toList = true) (hE : EnvN w) :
    Calls Tryz.prog 104 #[.string s] w fun e w' => e = .returned (.tuple #[.string ⟨(Mb.encL s.data.toList).toArray⟩, .int .i64 0]) ∧ Below w.heap.size w w' := by
  have hC := encode_name s w hn hE.tz
  go_enter Tryz.func104, Tryz.ntmps104
  go_wp2_with fail
  go_at_call 165
  refine hC.mono (fun e w2 hpost => ?_)
  obtain ⟨rfl, hb2⟩ := hpost
  go_wp2
  go_ret2
  exact ⟨rfl, hb2⟩

theorem mEncode_bad (s : ByteArray) (w : World) (hn : Mb.nameOk s.data.toList = false) :
    Calls Tryz.prog 104 #[.string s] w fun e w' => e = .returned (.tuple #[.string ⟨#[]⟩, .int .i64 2]) ∧ Below w.heap.size w w' := by
  have hC := encode_bad s w hn
  go_enter Tryz.func104, Tryz.ntmps104
  go_wp2_with fail
  go_at_call 165
  refine hC.mono (fun e w2 hpost => ?_)
  obtain ⟨rfl, hb2⟩ := hpost
  go_wp2
  go_ret2
  exact ⟨rfl, hb2⟩

theorem mDecode_any (s : ByteArray) (w : World) (hE : EnvN w) :
    Calls Tryz.prog 106 #[.string s] w fun e w' => (∃ v, e = .returned v ∧ DecO s.data.toList v) ∧ Below w.heap.size w w' := by
  have hC := decode_any s w hE
  go_enter Tryz.func106, Tryz.ntmps106
  go_wp2_with fail
  go_at_call 170
  refine hC.mono (fun e w2 hpost => ?_)
  obtain ⟨⟨v, rfl, hv⟩, hb2⟩ := hpost
  rcases hv with ⟨n, hn, rfl⟩ | ⟨hn, rfl⟩
  · have HN := Lib.hid hn
    clear hn
    go_wp2
    go_ret2
    exact ⟨⟨_, rfl, Or.inl ⟨n, HN.out, rfl⟩⟩, hb2⟩
  · have HN := Lib.hid hn
    clear hn
    go_wp2
    go_ret2
    exact ⟨⟨_, rfl, Or.inr ⟨HN.out, rfl⟩⟩, hb2⟩

end Go.Proofs.YtldgiecjnmkajaaGreatDoor
