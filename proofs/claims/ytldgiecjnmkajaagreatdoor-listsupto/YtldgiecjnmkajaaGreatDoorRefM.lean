/-
  OWN TEXT: mailbagref's Has, Flags, told, asked, Sum and Number.
  OWN TEXT: mailbagref's Flags, asked, Number and cut.
-/
import Derived.Test.YtldgiecjnmkajaaGreatDoorEnv
import Derived.Test.YtldgiecjnmkajaaGreatDoorRefListMath
import Derived.Deep.RegionHeld3
import Derived.OwnWalk
namespace Go.Proofs.YtldgiecjnmkajaaGreatDoor
open Go.RowKit Go.Lib

theorem drop_at' (s : ByteArray) (i : Nat) (h : i < s.size) : s.data.toList.drop i = s[i] :: s.data.toList.drop (i + 1) := by
  rw [List.drop_eq_getElem_cons (by simpa using h)]; rfl
theorem byte_eq {c d : UInt8} (h : c = d) : ((c.toNat : Int) == (d.toNat : Int)) = true := by rw [h]; simp
theorem byte_ne {c d : UInt8} (h : ¬ c = d) : ((c.toNat : Int) == (d.toNat : Int)) = false := by
  simp only [beq_eq_false_iff_ne, ne_eq]
  intro e
  exact h (UInt8.toNat_inj.1 (by omega))

set_option maxHeartbeats 4000000 in
set_option maxRecDepth 100000 in
theorem has_any (s : ByteArray) (c : UInt8) (hs : s.size ≤ 9223372036854775807) (w : World) :
    Calls Tryz.prog 303 #[.string s, .int .u8 (c.toNat : Int)] w fun e w' => e = .returned (.bool (s.data.toList.contains c)) ∧ w' = w := by
  obtain ⟨r, hr⟩ : ∃ r, s.data.toList.contains c = r := ⟨_, rfl⟩
  rw [hr]
  have HR := Lib.hid hr
  clear hr
  go_enter Tryz.func303, Tryz.ntmps303
  go_wp2
  go_loop [5] (fun i => ∃ k : Nat, k ≤ s.size ∧ i = .int .i64 k ∧ Hid (r = (s.data.toList.drop k).contains c)) (fun i => s.size - (RowKit.intOf i).toNat)
  case atStart => exact ⟨0, Nat.zero_le _, rfl, HR.out.symm⟩
  case round =>
    obtain ⟨k, hk, rfl, hh⟩ := hrel
    by_cases hkn : k < s.size
    · have hd := drop_at' s k hkn
      have hc := hh.out
      rw [hd, List.contains_cons] at hc
      by_cases he : s[k] = c
      · have hb := byte_eq he
        have HN : Hid (r = true) := by
          unfold Hid; rw [hc, he]; simp
        clear hd hc hh he
        go_wp2
        go_ret
        exact ⟨by rw [HN.out]; rfl, rfl⟩
      · have hb := byte_ne he
        have HN : Hid (r = (s.data.toList.drop (k + 1)).contains c) := by
          unfold Hid; rw [hc]
          have : (c == s[k]) = false := by simp; exact fun e => he e.symm
          rw [this, Bool.false_or]
        clear hd hc hh he
        go_wp2
        refine ⟨⟨k + 1, by omega, by first | rfl | (congr 1; omega), HN⟩, by simp [RowKit.intOf]; omega⟩
    · have hkk : k = s.size := by omega
      subst hkk
      have hc := hh.out
      rw [List.drop_eq_nil_of_le (by rw [← Lib.size_eq]; omega)] at hc
      have HN := Lib.hid hc
      clear hc hh
      go_wp2
      go_ret
      exact ⟨by rw [HN.out]; rfl, rfl⟩

set_option maxHeartbeats 4000000 in
set_option maxRecDepth 100000 in
theorem rsum_any (s : ByteArray) (hs : s.size ≤ 9223372036854775807) (w : World) :
    Calls Tryz.prog 176 #[.string s] w fun e w' => e = .returned (.int .i64 (Mb.sumOf s.data.toList)) ∧ w' = w := by
  go_enter Tryz.func176, Tryz.ntmps176
  go_wp2
  go_loop [3, 4] (fun vn vi => ∃ (k : Nat) (z : Int), k ≤ s.size ∧ vi = .int .i64 k ∧ vn = .int .i64 z ∧ 0 ≤ z ∧ z < 99991 ∧ Hid (∃ q : Nat, z = (q : Int) ∧ Mb.sumOf s.data.toList = Mb.sumFrom q (s.data.toList.drop k))) (fun _ vi => s.size - (RowKit.intOf vi).toNat)
  case atStart => exact ⟨0, 7, Nat.zero_le _, rfl, rfl, by omega, by omega, 7, rfl, rfl⟩
  case round =>
    obtain ⟨k, z, hk, rfl, rfl, hz0, hz1, hh⟩ := hrel
    by_cases hkn : k < s.size
    · obtain ⟨q, hq, hsum⟩ := hh.out
      rw [drop_at' s k hkn, Mb.sumFrom] at hsum
      have hb : (s[k].toNat : Int) < 256 := by have := s[k].toNat_lt; omega
      have HN : Hid (∃ q' : Nat, (31 * z + (s[k].toNat : Int)) % 99991 = (q' : Int) ∧ Mb.sumOf s.data.toList = Mb.sumFrom q' (s.data.toList.drop (k + 1))) := by
        refine ⟨(q * 31 + s[k].toNat) % 99991, ?_, hsum⟩
        rw [hq]
        omega
      clear hsum hq hh
      go_wp2
      refine ⟨⟨k + 1, (31 * z + (s[k].toNat : Int)) % 99991, by omega, ?_, ?_, by omega, by omega, HN⟩, by simp [RowKit.intOf]; omega⟩
      · first | rfl | (congr 1; omega)
      · first | rfl | (congr 1; omega)
    · have hkk : k = s.size := by omega
      subst hkk
      obtain ⟨q, hq, hsum⟩ := hh.out
      rw [List.drop_eq_nil_of_le (by rw [← Lib.size_eq]; omega)] at hsum
      have HN : Hid (z = (Mb.sumOf s.data.toList : Int)) := by unfold Hid; rw [hq, hsum]; rfl
      clear hq hsum hh
      go_wp2
      go_ret
      exact ⟨by rw [← HN.out]; rfl, rfl⟩

set_option maxRecDepth 100000 in
theorem rtold_any (s : ByteArray) (w : World) :
    Calls Tryz.prog 175 #[.string s] w fun e w' => e = .returned (.string ⟨(Mb.tell s.data.toList).toArray⟩) ∧ w' = w := by
  by_cases h : s.data.toList = []
  · have hs : s = ⟨#[]⟩ := by apply ByteArray.ext; apply Array.ext'; simpa using h
    subst hs
    go_enter Tryz.func175, Tryz.ntmps175
    go_wp2
    go_ret
    exact ⟨rfl, rfl⟩
  · have hemp : s.toList.isEmpty = false := by rw [ByteArray.toList_eq]; simpa using h
    have HT : Hid ((⟨(Mb.tell s.data.toList).toArray⟩ : ByteArray) = s) := by
      unfold Hid Mb.tell; rw [if_neg h]
    clear h
    go_enter Tryz.func175, Tryz.ntmps175
    go_wp2
    go_ret
    exact ⟨by rw [HT.out]; rfl, rfl⟩

end Go.Proofs.YtldgiecjnmkajaaGreatDoor
namespace Go.Proofs.YtldgiecjnmkajaaGreatDoor
open Go.RowKit Go.Lib

/-- the letters up to the i-th that stand in a text -/
def someL (l : List UInt8) (i : Nat) : List UInt8 := (Mb.letters.take i).filter (fun c => l.contains c)

theorem someL_len (l : List UInt8) (i : Nat) : (someL l i).length ≤ 4 := by
  refine Nat.le_trans (List.length_filter_le _ _) ?_
  rw [List.length_take]
  exact Nat.min_le_right _ _

theorem letter_slice (i : Nat) (hi : i < 4) : ∃ c : UInt8, Mb.letters[i]? = some c ∧ (∀ W, (Instr.index 9 (.string ⟨#[97, 100, 102, 115]⟩) (.int .i64 (i : Int))).run Tryz.prog W = .ok (.int .u8 (c.toNat : Int)) W) ∧
    (∀ (z : Int), z = (i : Int) + 1 → ∀ W, (Instr.slice 9 (.string ⟨#[97, 100, 102, 115]⟩) (some (.int .i64 (i : Int))) (some (.int .i64 z)) none).run Tryz.prog W = .ok (.string ⟨#[c]⟩) W) ∧
    ∀ l, (l.contains c = true → someL l (i + 1) = someL l i ++ [c]) ∧ (l.contains c = false → someL l (i + 1) = someL l i) := by
  have hs : (⟨#[97, 100, 102, 115]⟩ : ByteArray).size = 4 := rfl
  have key : ∀ (c : UInt8), Mb.letters[i]? = some c → ((⟨#[97, 100, 102, 115]⟩ : ByteArray)[i]'(by rw [hs]; exact hi)) = c → ((⟨#[97, 100, 102, 115]⟩ : ByteArray).extract i (i + 1)) = ⟨#[c]⟩ → ∃ c : UInt8, Mb.letters[i]? = some c ∧ (∀ W, (Instr.index 9 (.string ⟨#[97, 100, 102, 115]⟩) (.int .i64 (i : Int))).run Tryz.prog W = .ok (.int .u8 (c.toNat : Int)) W) ∧
    (∀ (z : Int), z = (i : Int) + 1 → ∀ W, (Instr.slice 9 (.string ⟨#[97, 100, 102, 115]⟩) (some (.int .i64 (i : Int))) (some (.int .i64 z)) none).run Tryz.prog W = .ok (.string ⟨#[c]⟩) W) ∧
    ∀ l, (l.contains c = true → someL l (i + 1) = someL l i ++ [c]) ∧ (l.contains c = false → someL l (i + 1) = someL l i) := by
    intro c h1 h2 h3
    refine ⟨c, h1, fun W => ?_, fun z hz W => ?_, fun l => ?_⟩
    · rw [run_index_string W 9 _ .i64 _ Tryz.underlying9, dif_pos ⟨by omega, by rw [hs]; omega⟩]
      have e : ((i : Int)).toNat = i := by omega
      simp only [e]
      rw [h2]
    · subst hz
      rw [run_slice_string W 9 _ .i64 .i64 _ _ Tryz.underlying9 (by omega) (by omega) (by rw [hs]; omega)]
      have e : ((i : Int)).toNat = i := by omega
      have e2 : ((i : Int) + 1).toNat = i + 1 := by omega
      rw [e, e2, h3]
    · have hl : i < Mb.letters.length := hi
      have hg : Mb.letters[i] = c := by
        rw [List.getElem?_eq_getElem hl] at h1
        exact Option.some.inj h1
      unfold someL
      rw [List.take_succ_eq_append_getElem hl, List.filter_append, hg]
      constructor
      · intro h; simp only [List.filter_cons, h, List.filter_nil, if_true]
      · intro h; simp only [List.filter_cons, h, List.filter_nil, Bool.false_eq_true, if_false, List.append_nil]
  have hi' : i = 0 ∨ i = 1 ∨ i = 2 ∨ i = 3 := by omega
  rcases hi' with rfl | rfl | rfl | rfl
  · exact key 97 rfl rfl rfl
  · exact key 100 rfl rfl rfl
  · exact key 102 rfl rfl rfl
  · exact key 115 rfl rfl rfl

set_option maxHeartbeats 4000000 in
set_option maxRecDepth 100000 in
theorem rflags_any (s : ByteArray) (hs : s.size ≤ 9223372036854775807) (w : World) :
    Calls Tryz.prog 233 #[.string s] w fun e w' => e = .returned (.bool (Mb.flagsOk s.data.toList)) ∧ w' = w := by
  obtain ⟨r, hr⟩ : ∃ r, Mb.flagsOk s.data.toList = r := ⟨_, rfl⟩
  rw [hr]
  have HR := Lib.hid hr
  clear hr
  go_enter Tryz.func233, Tryz.ntmps233
  go_wp2
  go_loop [3, 4] (fun vt vi => ∃ (i : Nat) (t : ByteArray), vt = .string t ∧ vi = .int .i64 i ∧ i ≤ 4 ∧ Hid (t.data.toList = someL s.data.toList i)) (fun _ vi => 4 - (RowKit.intOf vi).toNat)
  case atStart => exact ⟨0, ⟨#[]⟩, rfl, rfl, by omega, rfl⟩
  case round =>
    obtain ⟨i, t, rfl, rfl, hi, hh⟩ := hrel
    by_cases h4 : i < 4
    · obtain ⟨c, -, hidx, hsl, hgo⟩ := letter_slice i h4
      replace hsl := hsl ((i : Int) + 1) rfl
      have hH := has_any s c hs w
      have hl := someL_len s.data.toList i
      by_cases hc : s.data.toList.contains c = true
      · rw [hc] at hH
        obtain ⟨t2, ht2, hcat⟩ := cat_run Tryz.prog t ⟨#[c]⟩ (by rw [hh.out]; simp only [List.length_cons, List.length_nil]; omega)
        have HN : Hid (t2.data.toList = someL s.data.toList (i + 1)) := by
          unfold Hid; rw [ht2.out, hh.out, (hgo _).1 hc]
        clear hgo hc hh hl ht2
        go_wp2_with fail
        go_at_call 303
        refine hH.mono (fun e w1 hpost => ?_)
        obtain ⟨rfl, hw1⟩ := hpost
        subst w1
        go_wp2
        refine ⟨⟨i + 1, t2, rfl, by first | rfl | (congr 1; omega), by omega, HN⟩, by simp [RowKit.intOf]; omega⟩
      · have hcf : s.data.toList.contains c = false := by simpa using hc
        rw [hcf] at hH
        have HN : Hid (t.data.toList = someL s.data.toList (i + 1)) := by
          unfold Hid; rw [hh.out, (hgo _).2 hcf]
        clear hgo hc hcf hh hl
        go_wp2_with fail
        go_at_call 303
        refine hH.mono (fun e w1 hpost => ?_)
        obtain ⟨rfl, hw1⟩ := hpost
        subst w1
        go_wp2
        refine ⟨⟨i + 1, t, rfl, by first | rfl | (congr 1; omega), by omega, HN⟩, by simp [RowKit.intOf]; omega⟩
    · have hii : i = 4 := by omega
      subst hii
      have hq : (t.toList == s.toList) = r := by
        rw [← HR.out, Mb.flags_ref, ByteArray.toList_eq, ByteArray.toList_eq, hh.out]
        rw [Bool.eq_iff_iff]
        simp only [beq_iff_eq, decide_eq_true_eq]
        exact Iff.rfl
      clear hh h4 hi
      go_wp2
      go_ret
      exact ⟨by first | rfl | (rw [← hq]; rfl), rfl⟩

/-- what asked gives -/
def AskO (l : List UInt8) (v : Value) : Prop := ∃ (g : ByteArray) (b : Bool), v = .tuple #[.string g, .bool b] ∧ ((b = true ∧ Mb.askL l = some g.data.toList) ∨ (b = false ∧ Mb.askL l = none))

set_option maxRecDepth 100000 in
theorem rasked_any (s : ByteArray) (hs : s.size ≤ 9223372036854775807) (w : World) :
    Calls Tryz.prog 245 #[.string s] w fun e w' => (∃ v, e = .returned v ∧ AskO s.data.toList v) ∧ w' = w := by
  by_cases h : s.data.toList = [45]
  · have hse : s = ⟨#[45]⟩ := by apply ByteArray.ext; apply Array.ext'; simpa using h
    subst hse
    go_enter Tryz.func245, Tryz.ntmps245
    go_wp2
    go_ret2
    exact ⟨⟨_, rfl, _, _, rfl, Or.inl ⟨rfl, rfl⟩⟩, rfl⟩
  · have h45 : (s.toList == [45]) = false := by rw [ByteArray.toList_eq]; simpa using h
    have hF := rflags_any s hs w
    by_cases hok : Mb.flagsOk s.data.toList = true
    · rw [hok] at hF
      by_cases hne : s.data.toList = []
      · have hse : s = ⟨#[]⟩ := by apply ByteArray.ext; apply Array.ext'; simpa using hne
        subst hse
        clear hok
        go_enter Tryz.func245, Tryz.ntmps245
        go_wp2_with fail
        go_at_call 233
        refine hF.mono (fun e w1 hpost => ?_)
        obtain ⟨rfl, hw1⟩ := hpost
        subst w1
        go_wp2
        go_ret2
        exact ⟨⟨_, rfl, _, _, rfl, Or.inr ⟨rfl, rfl⟩⟩, rfl⟩
      · have hemp : s.toList.isEmpty = false := by rw [ByteArray.toList_eq]; simpa using hne
        have HA : Hid (Mb.askL s.data.toList = some s.data.toList) := by
          unfold Hid Mb.askL; rw [if_neg h, if_pos ⟨hok, hne⟩]
        clear hok hne h
        go_enter Tryz.func245, Tryz.ntmps245
        go_wp2_with fail
        go_at_call 233
        refine hF.mono (fun e w1 hpost => ?_)
        obtain ⟨rfl, hw1⟩ := hpost
        subst w1
        go_wp2
        go_ret2
        exact ⟨⟨_, rfl, _, _, rfl, Or.inl ⟨rfl, HA.out⟩⟩, rfl⟩
    · have hno : Mb.flagsOk s.data.toList = false := by simpa using hok
      rw [hno] at hF
      have HA : Hid (Mb.askL s.data.toList = none) := by
        unfold Hid Mb.askL; rw [if_neg h, if_neg (fun h2 => hok h2.1)]
      clear hok hno h
      go_enter Tryz.func245, Tryz.ntmps245
      go_wp2_with fail
      go_at_call 233
      refine hF.mono (fun e w1 hpost => ?_)
      obtain ⟨rfl, hw1⟩ := hpost
      subst w1
      go_wp2
      go_ret2
      exact ⟨⟨_, rfl, _, _, rfl, Or.inr ⟨rfl, HA.out⟩⟩, rfl⟩

/-- the text ahead of a place, and behind it -/
theorem cut_run (s : ByteArray) (k : Nat) (hk : k < s.size) : ∃ a b : ByteArray, Hid (a.data.toList = s.data.toList.take k ∧ b.data.toList = s.data.toList.drop (k + 1)) ∧
    (∀ W, (Instr.slice 9 (.string s) none (some (.int .i64 (k : Int))) none).run Tryz.prog W = .ok (.string a) W) ∧
    ∀ (z : Int), z = (k : Int) + 1 → ∀ W, (Instr.slice 9 (.string s) (some (.int .i64 z)) none none).run Tryz.prog W = .ok (.string b) W := by
  refine ⟨s.extract 0 k, s.extract (k + 1) s.size, ⟨?_, ?_⟩, fun W => ?_, fun z hz W => ?_⟩
  · rw [Lib.extract_data]; simp
  · rw [Lib.extract_data, List.take_of_length_le]
    rw [List.length_drop, ← Lib.size_eq]
    omega
  · rw [run_slice_string_to_if W 9 s .i64 _ Tryz.underlying9, if_pos ⟨by omega, by omega⟩]
    rfl
  · subst hz
    rw [run_slice_string_from_if W 9 s .i64 _ Tryz.underlying9, if_pos ⟨by omega, by omega⟩]
    congr 3

/-- what cut gives -/
def CutO (l : List UInt8) (c : UInt8) (v : Value) : Prop := ∃ (a b : ByteArray) (r : Bool), v = .tuple #[.string a, .string b, .bool r] ∧ ((r = true ∧ Mb.cutL c l = some (a.data.toList, b.data.toList)) ∨ (r = false ∧ Mb.cutL c l = none)) ∧ a.data.toList.length ≤ l.length ∧ b.data.toList.length ≤ l.length

set_option maxHeartbeats 4000000 in
set_option maxRecDepth 100000 in
theorem rcut_any (s : ByteArray) (c : UInt8) (hs : s.size ≤ 9223372036854775807) (w : World) :
    Calls Tryz.prog 178 #[.string s, .int .u8 (c.toNat : Int)] w fun e w' => (∃ v, e = .returned v ∧ CutO s.data.toList c v) ∧ Below w.heap.size w w' := by
  go_enter Tryz.func178, Tryz.ntmps178
  go_wp2
  go_loop [7] (fun i => ∃ k : Nat, k ≤ s.size ∧ i = .int .i64 k ∧ Hid (∀ b ∈ s.data.toList.take k, b ≠ c)) (fun i => s.size - (RowKit.intOf i).toNat)
  case atStart => exact ⟨0, Nat.zero_le _, rfl, fun b hb => by simp at hb⟩
  case round =>
    obtain ⟨k, hk, rfl, hh⟩ := hrel
    by_cases hkn : k < s.size
    · have hd := drop_at' s k hkn
      by_cases he : s[k] = c
      · have hb := byte_eq he
        obtain ⟨a, b, hab, hsa, hsb⟩ := cut_run s k hkn
        have hsb2 := hsb (IntKind.i64.wrap ((k : Int) + 1)) (by rw [IntKind.wrap_i64]; omega)
        replace hsb := hsb ((k : Int) + 1) rfl
        have HC : Hid (Mb.cutL c s.data.toList = some (a.data.toList, b.data.toList)) := by
          unfold Hid
          rw [hab.out.1, hab.out.2]
          have := Mb.cutL_app c _ (s.data.toList.drop (k + 1)) hh.out
          rw [← he, ← hd, List.take_append_drop] at this
          rw [← he]
          exact this
        have HL : Hid (a.data.toList.length ≤ s.data.toList.length ∧ b.data.toList.length ≤ s.data.toList.length) := by
          unfold Hid
          rw [hab.out.1, hab.out.2]
          exact ⟨by rw [List.length_take]; omega, by rw [List.length_drop]; omega⟩
        clear hd hh he hab
        have i0 : (0 : Int) ≤ (k : Int) + 1 := by omega
        have i1 : (k : Int) + 1 ≤ (s.size : Int) := by omega
        have i2 : (0 : Int) ≤ (k : Int) := by omega
        have i3 : (k : Int) ≤ (s.size : Int) := by omega
        have i5 : (k : Int) < (s.size : Int) := by omega
        go_wp2
        go_region_held3 (fun _ => True) (trivial) (fail)
        all_goals go_wp2
        all_goals go_ret3
        all_goals exact ⟨⟨_, rfl, _, _, _, rfl, Or.inl ⟨rfl, HC.out⟩, HL.out.1, HL.out.2⟩, (Below.refl _ _).drew⟩
      · have hb := byte_ne he
        have HN : Hid (∀ b ∈ s.data.toList.take (k + 1), b ≠ c) := by
          intro b hbm
          rw [List.take_succ_eq_append_getElem (by simpa using hkn), List.mem_append] at hbm
          rcases hbm with h | h
          · exact hh.out b h
          · simp only [List.mem_singleton] at h
            rw [h]; exact he
        clear hd hh he
        go_wp2
        refine ⟨⟨k + 1, by omega, by first | rfl | (congr 1; omega), HN⟩, by simp [RowKit.intOf]; omega⟩
    · have hkk : k = s.size := by omega
      subst hkk
      have HC : Hid (Mb.cutL c s.data.toList = none) := by
        have := hh.out
        rw [List.take_of_length_le (by rw [← Lib.size_eq]; omega)] at this
        exact Mb.cutL_none c _ this
      clear hh
      go_wp2
      go_ret3
      exact ⟨⟨_, rfl, _, _, _, rfl, Or.inr ⟨rfl, HC.out⟩, Nat.le_refl _, by simp⟩, Below.refl _ _⟩

end Go.Proofs.YtldgiecjnmkajaaGreatDoor
