/-
  OWN TEXT: strconv.ParseInt at base 16 and 32 bits: the sign, and the error in new memory.
-/
import Derived.Test.YtldgiecjnmkajaaGreatDoorNameWalkA
namespace Go.Proofs.YtldgiecjnmkajaaGreatDoor
open Go.RowKit

theorem wrap_small {a : Int} (h0 : 0 ≤ a) (h1 : a ≤ 2147483648) : wrap64 (-wrap64 a) = -a := by
  unfold wrap64
  omega

/-- what ParseUint gives at any text -/
def PuO (l : List UInt8) (v : Value) : Prop :=
  (∃ u : Nat, u ≤ 4294967295 ∧ l ≠ [] ∧ Mb.pu16 0 l = some u ∧ v = .tuple #[.int .u64 u, .nilIface]) ∨
  ((l = [] ∨ Mb.pu16 0 l = none) ∧ (v = .tuple #[.int .u64 0, .iface 486 (.int .i64 2)] ∨ v = .tuple #[.int .u64 4294967295, .iface 486 (.int .i64 1)]))

set_option maxHeartbeats 4000000 in
set_option maxRecDepth 100000 in
theorem parseUint_nil (w : World) :
    Calls Tryz.prog 418 #[.string ⟨#[]⟩, .int .i64 16, .int .i64 32] w fun e w' => e = .returned (.tuple #[.int .u64 0, .iface 486 (.int .i64 2)]) ∧ w' = w := by
  go_enter Tryz.func418, Tryz.ntmps418
  go_wp2
  go_ret2
  exact ⟨rfl, rfl⟩

theorem parseUint_all (t : ByteArray) (hmax : t.size ≤ 9223372036854775806) (w : World) :
    Calls Tryz.prog 418 #[.string t, .int .i64 16, .int .i64 32] w fun e w' => (∃ v, e = .returned v ∧ PuO t.data.toList v) ∧ Below w.heap.size w w' := by
  by_cases hne : t.size = 0
  · have h0 : t.data.toList = [] := List.eq_nil_of_length_eq_zero (by rw [← Lib.size_eq]; exact hne)
    have hs : t = ⟨#[]⟩ := by
      apply ByteArray.ext; apply Array.ext'; simpa using h0
    subst hs
    exact (parseUint_nil w).mono fun e w' ⟨he, hw⟩ => ⟨⟨_, he, Or.inr ⟨Or.inl rfl, Or.inl rfl⟩⟩, by rw [hw]; exact Below.refl _ _⟩
  · refine (parseUint_any t hne hmax w).mono fun e w' ⟨⟨v, he, hv⟩, hw⟩ => ⟨⟨v, he, ?_⟩, by rw [hw]; exact Lib.bytesWorld_below _ _ _⟩
    rcases hv with ⟨u, h1, h2, h3⟩ | ⟨h1, h2⟩
    · refine Or.inl ⟨u, h1, ?_, h2, h3⟩
      intro h
      apply hne
      rw [Lib.size_eq, h]; rfl
    · exact Or.inr ⟨Or.inr h1, h2⟩

/-- what ParseInt gives at any text -/
def PiO (l : List UInt8) (v : Value) : Prop :=
  (∃ i : Int, -2147483648 ≤ i ∧ i ≤ 2147483647 ∧ Mb.pi16 l = some i ∧ v = .tuple #[.int .i64 i, .nilIface]) ∨
  (∃ i k : Int, Mb.pi16 l = none ∧ (k = 1 ∨ k = 2) ∧ v = .tuple #[.int .i64 i, .iface 486 (.int .i64 k)])

set_option maxHeartbeats 4000000 in
set_option maxRecDepth 100000 in
theorem parseInt_nil (w : World) :
    Calls Tryz.prog 375 #[.string ⟨#[]⟩, .int .i64 16, .int .i64 32] w fun e w' => e = .returned (.tuple #[.int .i64 0, .iface 486 (.int .i64 2)]) ∧ w' = w := by
  go_enter Tryz.func375, Tryz.ntmps375
  go_wp2
  go_ret2
  exact ⟨rfl, rfl⟩

theorem pi_pos {c : UInt8} {r l : List UInt8} {o : Option Int} (h45 : c ≠ 45) (hl : (if c = 43 then r else c :: r) = l) (h : (if l = [] then none else match Mb.pu16 0 l with
    | none => none
    | some u => if 2147483648 ≤ u then none else some (u : Int)) = o) : Mb.pi16 (c :: r) = o := by
  subst hl
  rw [← h]
  unfold Mb.pi16
  simp only
  rw [if_neg h45]
  by_cases h43 : c = 43
  · rw [if_pos h43, if_pos h43]
    by_cases hr : r = []
    · rw [if_pos hr, if_pos hr]
    · rw [if_neg hr, if_neg hr]
      cases Mb.pu16 0 r <;> rfl
  · rw [if_neg h43, if_neg h43, if_neg (by simp)]
    cases Mb.pu16 0 (c :: r) <;> rfl
theorem pi_neg {r : List UInt8} {o : Option Int} (h : (if r = [] then none else match Mb.pu16 0 r with
    | none => none
    | some u => if 2147483648 < u then none else some (-(u : Int))) = o) : Mb.pi16 (45 :: r) = o := by
  rw [← h]; unfold Mb.pi16
  simp only [if_true]
  by_cases hr : r = []
  · rw [if_pos hr, if_pos hr]
  · rw [if_neg hr, if_neg hr]
    cases Mb.pu16 0 r <;> rfl

theorem pos_none {l : List UInt8} (h : l = [] ∨ Mb.pu16 0 l = none) : (if l = [] then none else match Mb.pu16 0 l with
    | none => none
    | some u => if 2147483648 ≤ u then none else some (u : Int)) = none := by
  rcases h with h | h
  · rw [if_pos h]
  · rw [h]; split <;> rfl
theorem pos_some {l : List UInt8} {u : Nat} (hl : l ≠ []) (h : Mb.pu16 0 l = some u) : (if l = [] then none else match Mb.pu16 0 l with
    | none => none
    | some u => if 2147483648 ≤ u then none else some (u : Int)) = if 2147483648 ≤ u then none else some (u : Int) := by
  rw [if_neg hl, h]
theorem neg_none {l : List UInt8} (h : l = [] ∨ Mb.pu16 0 l = none) : (if l = [] then none else match Mb.pu16 0 l with
    | none => none
    | some u => if 2147483648 < u then none else some (-(u : Int))) = none := by
  rcases h with h | h
  · rw [if_pos h]
  · rw [h]; split <;> rfl
theorem neg_some {l : List UInt8} {u : Nat} (hl : l ≠ []) (h : Mb.pu16 0 l = some u) : (if l = [] then none else match Mb.pu16 0 l with
    | none => none
    | some u => if 2147483648 < u then none else some (-(u : Int))) = if 2147483648 < u then none else some (-(u : Int)) := by
  rw [if_neg hl, h]

set_option maxHeartbeats 32000000 in
set_option maxRecDepth 100000 in
theorem parseInt_inner (s : ByteArray) (hmax : s.size ≤ 9223372036854775806) (w : World) :
    Calls Tryz.prog 375 #[.string s, .int .i64 16, .int .i64 32] w fun e w' => (∃ v, e = .returned v ∧ PiO s.data.toList v) ∧ Below w.heap.size w w' := by
  by_cases hne : s.size = 0
  · have h0 : s.data.toList = [] := List.eq_nil_of_length_eq_zero (by rw [← Lib.size_eq]; exact hne)
    have hs : s = ⟨#[]⟩ := by
      apply ByteArray.ext; apply Array.ext'; simpa using h0
    subst hs
    exact (parseInt_nil w).mono fun e w' ⟨he, hw⟩ => ⟨⟨_, he, Or.inr ⟨_, _, rfl, Or.inr rfl, rfl⟩⟩, by rw [hw]; exact Below.refl _ _⟩
  have hemp : s.toList.isEmpty = false := by
    rw [← decide_eq_emptyBytes]
    exact decide_eq_false (fun h => hne (by rw [h]; rfl))
  have hpos : 0 < s.size := by omega
  obtain ⟨c0, r, hL⟩ : ∃ c0 r, s.data.toList = c0 :: r := by
    cases h : s.data.toList with
    | nil => exact absurd (by rw [Lib.size_eq, h]; rfl) hne
    | cons c0 r => exact ⟨c0, r, rfl⟩
  have hsz : s.size = r.length + 1 := by rw [Lib.size_eq, hL]; rfl
  have hs0 : s[0]'hpos = c0 := by have := Lib.getD_at s 0 hpos; rw [hL] at this; exact this
  have hcc : (Tryz.prog.info? 486).map (·.comparable) = some true := by kernel_rfl
  have hq2 : ∀ W, (binOp .neq 364 (.iface 486 (.int .i64 2)) (.iface 486 (.int .i64 1))).run Tryz.prog W = .ok (.bool true) W := fun W => Lib.run_neq_iface_int W 2 1 Tryz.underlying364 hcc Tryz.underlying486
  have hq1 : ∀ W, (binOp .neq 364 (.iface 486 (.int .i64 1)) (.iface 486 (.int .i64 1))).run Tryz.prog W = .ok (.bool false) W := fun W => Lib.run_neq_iface_int W 1 1 Tryz.underlying364 hcc Tryz.underlying486
  have hmin : wrap64 (-wrap64 2147483648) = -2147483648 := by
    unfold wrap64
    omega
  rw [hL]
  by_cases h43 : c0 = 43
  · subst h43
    have hsl : ∀ W, (Instr.slice 9 (.string s) (some (.int .i64 1)) none none).run Tryz.prog W = .ok (.string (s.extract 1 s.size)) W := fun W => by
      rw [run_slice_string_from_if W 9 s .i64 _ Tryz.underlying9, if_pos ⟨by omega, by omega⟩]
      rfl
    have htl : (s.extract 1 s.size).data.toList = r := by
      rw [Lib.extract_data, hL, List.drop_succ_cons, List.drop_zero, List.take_of_length_le (by omega)]
    have hts : (s.extract 1 s.size).size = s.size - 1 := by rw [Lib.size_eq, htl]; omega
    generalize s.extract 1 s.size = t at hsl htl hts
    have hU := parseUint_all t (by omega) w
    rw [htl] at hU
    have hpi : ∀ o, _ = o → Mb.pi16 (43 :: r) = o := fun o => pi_pos (c := 43) (l := r) (by decide) (if_pos rfl)
    clear hL htl hts
    go_enter Tryz.func375, Tryz.ntmps375
    go_wp2_with (go_at_call 418; refine hU.mono ?_)
    rintro e w1 ⟨⟨v, rfl, hv⟩, hb⟩
    rcases hv with ⟨u, hu, hne, hp, rfl⟩ | ⟨hp, rfl | rfl⟩
    · by_cases hout : 2147483648 ≤ u
      · have HN := Lib.hid (hpi _ (pos_some hne hp))
        rw [if_pos hout] at HN
        obtain ⟨a, ha⟩ : ∃ a : Int, a = (u : Int) := ⟨_, rfl⟩
        rw [← ha]
        have a0 : 0 ≤ a := by omega
        have a1 : 2147483648 ≤ a := by omega
        have a2 : a ≤ 4294967295 := by omega
        clear hp hpi hout hu ha
        go_wp2
        go_ret2
        exact ⟨⟨_, rfl, Or.inr ⟨_, _, HN.out, Or.inl rfl, rfl⟩⟩, hb⟩
      · have HN := Lib.hid (hpi _ (pos_some hne hp))
        rw [if_neg hout] at HN
        obtain ⟨a, ha⟩ : ∃ a : Int, a = (u : Int) := ⟨_, rfl⟩
        rw [← ha] at HN ⊢
        have a0 : 0 ≤ a := by omega
        have a1 : a < 2147483648 := by omega
        have hwn := wrap_small a0 (by omega)
        clear hp hpi hout hu ha
        go_wp2
        go_ret2
        refine ⟨⟨_, rfl, Or.inl ⟨_, ?_, ?_, HN.out, ?_⟩⟩, hb⟩
        · omega
        · omega
        · first | rfl | (simp only [hwn]; rfl)
    · have HN := Lib.hid (hpi _ (pos_none hp))
      clear hp hpi
      go_wp2
      go_ret2
      exact ⟨⟨_, rfl, Or.inr ⟨_, _, HN.out, Or.inr rfl, rfl⟩⟩, hb⟩
    · have HN := Lib.hid (hpi _ (pos_none hp))
      clear hp hpi
      go_wp2
      go_ret2
      exact ⟨⟨_, rfl, Or.inr ⟨_, _, HN.out, Or.inl rfl, rfl⟩⟩, hb⟩
  by_cases h45 : c0 = 45
  · subst h45
    have hsl : ∀ W, (Instr.slice 9 (.string s) (some (.int .i64 1)) none none).run Tryz.prog W = .ok (.string (s.extract 1 s.size)) W := fun W => by
      rw [run_slice_string_from_if W 9 s .i64 _ Tryz.underlying9, if_pos ⟨by omega, by omega⟩]
      rfl
    have htl : (s.extract 1 s.size).data.toList = r := by
      rw [Lib.extract_data, hL, List.drop_succ_cons, List.drop_zero, List.take_of_length_le (by omega)]
    have hts : (s.extract 1 s.size).size = s.size - 1 := by rw [Lib.size_eq, htl]; omega
    generalize s.extract 1 s.size = t at hsl htl hts
    have hU := parseUint_all t (by omega) w
    rw [htl] at hU
    have hpi : ∀ o, _ = o → Mb.pi16 (45 :: r) = o := fun o => pi_neg (r := r)
    clear hL htl hts
    go_enter Tryz.func375, Tryz.ntmps375
    go_wp2_with (go_at_call 418; refine hU.mono ?_)
    rintro e w1 ⟨⟨v, rfl, hv⟩, hb⟩
    rcases hv with ⟨u, hu, hne, hp, rfl⟩ | ⟨hp, rfl | rfl⟩
    · by_cases hout : 2147483648 < u
      · have HN := Lib.hid (hpi _ (neg_some hne hp))
        rw [if_pos hout] at HN
        obtain ⟨a, ha⟩ : ∃ a : Int, a = (u : Int) := ⟨_, rfl⟩
        rw [← ha]
        have a0 : 0 ≤ a := by omega
        have a1 : 2147483648 < a := by omega
        have a2 : a ≤ 4294967295 := by omega
        clear hp hpi hout hu ha
        go_wp2
        go_ret2
        exact ⟨⟨_, rfl, Or.inr ⟨_, _, HN.out, Or.inl rfl, rfl⟩⟩, hb⟩
      · have HN := Lib.hid (hpi _ (neg_some hne hp))
        rw [if_neg hout] at HN
        obtain ⟨a, ha⟩ : ∃ a : Int, a = (u : Int) := ⟨_, rfl⟩
        rw [← ha] at HN ⊢
        have a0 : 0 ≤ a := by omega
        have a1 : a ≤ 2147483648 := by omega
        have hwn := wrap_small a0 (by omega)
        clear hp hpi hout hu ha
        go_wp2
        go_ret2
        refine ⟨⟨_, rfl, Or.inl ⟨_, ?_, ?_, HN.out, ?_⟩⟩, hb⟩
        · omega
        · omega
        · first | rfl | (simp only [hwn]; rfl)
    · have HN := Lib.hid (hpi _ (neg_none hp))
      clear hp hpi
      go_wp2
      go_ret2
      exact ⟨⟨_, rfl, Or.inr ⟨_, _, HN.out, Or.inr rfl, rfl⟩⟩, hb⟩
    · have HN := Lib.hid (hpi _ (neg_none hp))
      clear hp hpi
      go_wp2
      go_ret2
      exact ⟨⟨_, rfl, Or.inr ⟨_, _, HN.out, Or.inl rfl, rfl⟩⟩, hb⟩
  · skip
    have n43 : c0.toNat ≠ 43 := fun h => h43 (UInt8.toNat_inj.1 h)
    have n45 : c0.toNat ≠ 45 := fun h => h45 (UInt8.toNat_inj.1 h)
    have i43 : ¬ (c0.toNat : Int) = 43 := by omega
    have i45 : ¬ (c0.toNat : Int) = 45 := by omega
    have hU := parseUint_all s hmax w
    rw [hL] at hU
    have hpi : ∀ o, _ = o → Mb.pi16 (c0 :: r) = o := fun o => pi_pos (c := c0) (l := c0 :: r) h45 (if_neg h43)
    generalize c0 :: r = l at hU hpi ⊢
    clear hL
    go_enter Tryz.func375, Tryz.ntmps375
    go_wp2_with (go_at_call 418; refine hU.mono ?_)
    rintro e w1 ⟨⟨v, rfl, hv⟩, hb⟩
    rcases hv with ⟨u, hu, hne, hp, rfl⟩ | ⟨hp, rfl | rfl⟩
    · by_cases hout : 2147483648 ≤ u
      · have HN := Lib.hid (hpi _ (pos_some hne hp))
        rw [if_pos hout] at HN
        obtain ⟨a, ha⟩ : ∃ a : Int, a = (u : Int) := ⟨_, rfl⟩
        rw [← ha]
        have a0 : 0 ≤ a := by omega
        have a1 : 2147483648 ≤ a := by omega
        have a2 : a ≤ 4294967295 := by omega
        clear hp hpi hout hu ha
        go_wp2
        go_ret2
        exact ⟨⟨_, rfl, Or.inr ⟨_, _, HN.out, Or.inl rfl, rfl⟩⟩, hb⟩
      · have HN := Lib.hid (hpi _ (pos_some hne hp))
        rw [if_neg hout] at HN
        obtain ⟨a, ha⟩ : ∃ a : Int, a = (u : Int) := ⟨_, rfl⟩
        rw [← ha] at HN ⊢
        have a0 : 0 ≤ a := by omega
        have a1 : a < 2147483648 := by omega
        have hwn := wrap_small a0 (by omega)
        clear hp hpi hout hu ha
        go_wp2
        go_ret2
        refine ⟨⟨_, rfl, Or.inl ⟨_, ?_, ?_, HN.out, ?_⟩⟩, hb⟩
        · omega
        · omega
        · first | rfl | (simp only [hwn]; rfl)
    · have HN := Lib.hid (hpi _ (pos_none hp))
      clear hp hpi
      go_wp2
      go_ret2
      exact ⟨⟨_, rfl, Or.inr ⟨_, _, HN.out, Or.inr rfl, rfl⟩⟩, hb⟩
    · have HN := Lib.hid (hpi _ (pos_none hp))
      clear hp hpi
      go_wp2
      go_ret2
      exact ⟨⟨_, rfl, Or.inr ⟨_, _, HN.out, Or.inl rfl, rfl⟩⟩, hb⟩

/-- strconv.ParseInt(s, 16, 32): the number, or an error that is not nil -/
def PO (l : List UInt8) (v : Value) : Prop :=
  (∃ i : Int, -2147483648 ≤ i ∧ i ≤ 2147483647 ∧ Mb.pi16 l = some i ∧ v = .tuple #[.int .i64 i, .nilIface]) ∨
  (∃ (i : Int) (N : Nat), Mb.pi16 l = none ∧ v = .tuple #[.int .i64 i, .iface 487 (.pointer (some ⟨N, 0, none⟩))])

set_option maxHeartbeats 4000000 in
set_option maxRecDepth 100000 in
theorem parseInt_any (s : ByteArray) (hs : s.size ≤ 281474976710656) (w : World) (hE : Env w) :
    Calls Tryz.prog 312 #[.string s, .int .i64 16, .int .i64 32] w fun e w' => (∃ v, e = .returned v ∧ PO s.data.toList v) ∧ Below w.heap.size w w' := by
  have hI := parseInt_inner s (by omega) w
  go_enter Tryz.func312, Tryz.ntmps312
  go_wp2_with (go_at_call 375; refine hI.mono ?_)
  rintro e w1 ⟨⟨v, rfl, hv⟩, hb⟩
  have hE1 := hE.below hb (Nat.le_refl _)
  rcases hv with ⟨i, h0, h1, hp, rfl⟩ | ⟨i, k, hp, hk, rfl⟩
  · have HN := Lib.hid hp
    clear hp
    go_wp2
    go_ret2
    exact ⟨⟨_, rfl, Or.inl ⟨i, h0, h1, HN.out, rfl⟩⟩, hb⟩
  · have HN := Lib.hid hp
    clear hp
    rcases hk with rfl | rfl
    · obtain ⟨e2, he2, hv2⟩ := hE1.er
      go_wp2_with (go_at_call 324; refine (Tryz.strconv_toError_range _ _ _ _ e2 _ hs he2 hv2).mono ?_)
      rintro e w2 ⟨N, rfl, h1, h2, h3⟩
      go_wp2
      go_ret2
      exact ⟨⟨_, rfl, Or.inr ⟨_, N, HN.out, rfl⟩⟩, hb.trans (h3.mono hb.size)⟩
    · obtain ⟨e1, he1, hv1⟩ := hE1.es
      go_wp2_with (go_at_call 324; refine (Tryz.strconv_toError_syntax _ _ _ _ e1 _ hs he1 hv1).mono ?_)
      rintro e w2 ⟨N, rfl, h1, h2, h3⟩
      go_wp2
      go_ret2
      exact ⟨⟨_, rfl, Or.inr ⟨_, N, HN.out, rfl⟩⟩, hb.trans (h3.mono hb.size)⟩

end Go.Proofs.YtldgiecjnmkajaaGreatDoor
