
/-
  OWN TEXT: names.spell.
  OWN TEXT: names.Decode, and the calls of package mailbag that hand on to package names.
-/
import Derived.Test.YtamglanahpcedaaGreatDoorNameWC
namespace Go.Proofs.YtamglanahpcedaaGreatDoor
open Go.RowKit Go.Lib

theorem splitC_mem_len (c : UInt8) : ∀ (l : List UInt8), ∀ p ∈ Mb.splitC c l, p.length ≤ l.length
  | [], p, hp => by
    simp only [Mb.splitC, List.mem_singleton] at hp
    subst hp; simp
  | b :: l, p, hp => by
    have ih := splitC_mem_len c l
    rw [Mb.splitC] at hp
    split at hp
    · rw [List.mem_cons] at hp
      rcases hp with rfl | hp
      · simp
      · have := ih p hp; simp only [List.length_cons]; omega
    · cases hs : Mb.splitC c l with
      | nil => exact absurd hs (Mb.splitC_ne _ _)
      | cons q qs =>
        rw [hs] at hp ih
        simp only [List.mem_cons] at hp
        rcases hp with rfl | hp
        · have := ih q (by simp); simp only [List.length_cons]; omega
        · have := ih p (by simp [hp]); simp only [List.length_cons]; omega
theorem splitC_countF (c : UInt8) : ∀ (l : List UInt8), (Mb.splitC c l).length ≤ l.length + 1
  | [] => by simp [Mb.splitC]
  | b :: l => by
    have ih := splitC_countF c l
    rw [Mb.splitC]
    split
    · simp only [List.length_cons]; omega
    · cases hs : Mb.splitC c l with
      | nil => exact absurd hs (Mb.splitC_ne _ _)
      | cons q qs =>
        rw [hs] at ih
        simp only [List.length_cons] at ih ⊢
        omega

/-- where spell's loop stands -/
def SpellAt (o : Option (List UInt8)) (acc : List UInt8) (k : Nat) (r : List (List UInt8)) : Prop := o = (Mb.spellP (k % 2 == 1) r).map (acc ++ ·)

theorem SpellAt.even {o : Option (List UInt8)} {acc p : List UInt8} {k : Nat} {r : List (List UInt8)} (h : SpellAt o acc k (p :: r)) (hk : k % 2 = 0) : SpellAt o (acc ++ p) (k + 1) r := by
  have e1 : (k % 2 == 1) = false := by rw [hk]; rfl
  have e2 : ((k + 1) % 2 == 1) = true := by rw [show (k + 1) % 2 = 1 by omega]; rfl
  unfold SpellAt at h ⊢
  rw [h, e1, e2, Mb.spellP, Option.map_map]
  congr 1
  funext x
  simp
theorem SpellAt.odd {o : Option (List UInt8)} {acc p : List UInt8} {k : Nat} {r : List (List UInt8)} {i : Int} (h : SpellAt o acc k (p :: r)) (hk : k % 2 = 1) (hi : Mb.pi16 p = some i) : SpellAt o (acc ++ Lib.encodeRune i) (k + 1) r := by
  have e1 : (k % 2 == 1) = true := by rw [hk]; rfl
  have e2 : ((k + 1) % 2 == 1) = false := by rw [show (k + 1) % 2 = 0 by omega]; rfl
  unfold SpellAt at h ⊢
  rw [h, e1, e2, Mb.spellP, hi]
  simp only [Option.map_map]
  congr 1
  funext x
  simp
theorem SpellAt.bad {o : Option (List UInt8)} {acc p : List UInt8} {k : Nat} {r : List (List UInt8)} (h : SpellAt o acc k (p :: r)) (hk : k % 2 = 1) (hi : Mb.pi16 p = none) : o = none := by
  have e1 : (k % 2 == 1) = true := by rw [hk]; rfl
  unfold SpellAt at h
  rw [h, e1, Mb.spellP, hi]; rfl
theorem SpellAt.last {o : Option (List UInt8)} {acc : List UInt8} {k : Nat} (h : SpellAt o acc k []) : o = some acc := by
  unfold SpellAt at h
  rw [h]
  cases (k % 2 == 1) <;> simp [Mb.spellP]

theorem own_below {W W' : World} {B : Nat} {v : Value} {n : Nat} {xs : List Value} (h : W.ownsRow B 5 1 v n xs) (hb : Below W.heap.size W W') : W'.ownsRow B 5 1 v n xs :=
  h.kept (row := none) ⟨hb.os, hb.tape, hb.output, hb.size, fun k hk _ => hb.block k hk⟩ (by cases v.ownBlock <;> simp)

set_option maxHeartbeats 8000000 in
set_option maxRecDepth 1000000 in
/-- names.spell -/
theorem spell_any (s : ByteArray) (hs : s.size ≤ 64) (w : World) (hE : EnvN w) :
    Calls Tryz.prog 146 #[.string s] w fun e w' => ((∃ n, Mb.spellL s.data.toList = some n ∧ e = .returned (.tuple #[.string ⟨n.toArray⟩, .bool true])) ∨ (Mb.spellL s.data.toList = none ∧ e = .returned (.tuple #[.string ⟨#[]⟩, .bool false]))) ∧ Below w.heap.size w w' := by
  obtain ⟨i0, hi, hz0, hz1, hz2⟩ := info_parts (P := Tryz.prog) (e := 5) (z := .int .u8 0) (size := 1) (bytes := 1) (by kernel_rfl)
  have hS := split_any s 61 (by omega) w hE.env
  have hlen : ∀ p ∈ Mb.splitC 61 s.data.toList, p.length ≤ 64 := fun p hp => by
    have := splitC_mem_len 61 _ p hp
    rw [← Lib.size_eq] at this
    omega
  have hcnt : (Mb.splitC 61 s.data.toList).length ≤ 65 := by
    have := splitC_countF 61 s.data.toList
    rw [← Lib.size_eq] at this
    omega
  have hst : SpellAt (Mb.spellL s.data.toList) [] 0 (Mb.splitC 61 s.data.toList) := by
    unfold SpellAt Mb.spellL
    show _ = (Mb.spellP false _).map ([] ++ ·)
    cases Mb.spellP false (Mb.splitC 61 s.data.toList) <;> rfl
  generalize Mb.spellL s.data.toList = o at hst ⊢
  generalize Mb.splitC 61 s.data.toList = ps at hst hlen hcnt hS
  go_enter Tryz.func146, Tryz.ntmps146
  go_wp2_with (go_at_call 172; refine hS.mono ?_; rintro e w' ⟨rfl, hw'⟩; subst w')
  have hc0 : ∀ j (hj : j < ps.length), (w.alloc (Obj.cells (List.map (fun l => Value.string { data := l.toArray }) ps).toArray 9)).cell? ⟨w.heap.size, j, none⟩ = some (.string ⟨ps[j].toArray⟩) := fun j hj => by
    rw [World.cell?_alloc_new]; simp [hj]
  have hb0 : Below w.heap.size w (w.alloc (Obj.cells (List.map (fun l => Value.string { data := l.toArray }) ps).toArray 9)) := (Below.refl _ _).alloc (Nat.le_refl _) _
  have hs0 : w.heap.size + 1 ≤ (w.alloc (Obj.cells (List.map (fun l => Value.string { data := l.toArray }) ps).toArray 9)).heap.size := by simp
  generalize w.alloc (Obj.cells (List.map (fun l => Value.string { data := l.toArray }) ps).toArray 9) = W0 at hc0 hb0 hs0 ⊢
  go_loopw [4, 12] (fun v i wr => ∃ (k : Nat) (acc : List UInt8), i = .int .i64 k ∧ k ≤ ps.length ∧ acc.length ≤ 64 * k ∧ wr.ownsRow (w.heap.size + 1) 5 1 v acc.length (Lib.byteCells acc) ∧ Below w.heap.size w wr ∧ w.heap.size + 1 ≤ wr.heap.size ∧ (∀ j (hj : j < ps.length), wr.cell? ⟨w.heap.size, j, none⟩ = some (.string ⟨ps[j].toArray⟩)) ∧ Hid (SpellAt o acc k (ps.drop k))) (fun _ i _ => ps.length - (RowKit.intOf i).toNat)
  case atStart => exact ⟨0, [], rfl, by omega, by simp, World.ownsRow_nil _ _ _ _, hb0, hs0, hc0, hst⟩
  case round =>
    clear hc0 hb0 hs0 hst hS
    obtain ⟨k, acc, rfl, hk, hal, hown, hb, hsz, hc, hh⟩ := hrel
    by_cases hkn : k < ps.length
    · have hck := hc k hkn
      have hpl := hlen _ (List.getElem_mem hkn)
      have hd : ps.drop k = ps[k] :: ps.drop (k + 1) := List.drop_eq_getElem_cons hkn
      rw [hd] at hh
      clear hd
      have HC := Lib.hid hc
      clear hc
      generalize ps[k] = p at hck hpl hh
      have hps : (⟨p.toArray⟩ : ByteArray).size = p.length := by simp [ByteArray.size]
      by_cases hpar : k % 2 = 0
      · have HN := Lib.hid (hh.out.even hpar)
        have ipar : ((k : Int) % 2 == 0) = true := by simp; omega
        clear hh
        go_wp2_with (at_builtin; refine Lib.wpList_append_own_string _ rfl _ _ 103 9 rfl (w.heap.size + 1) 5 i0 Tryz.underlying103 Tryz.underlying9 hi hz0 hz1 hz2 _ _ _ rfl hown ⟨p.toArray⟩ rfl ?c1 ?c2 hsz ?_)
        case c1 => rw [hps]; unfold maxLen; omega
        case c2 => rw [hps]; omega
        intro v1 w1 hown1 hg1 _
        go_wp2
        have hb1 := (Below.refl (w.heap.size + 1) wr).grown hg1 hsz (fun k hk => (hown.lt k hk).1)
        go_roundw
        case rel =>
          refine ⟨k + 1, acc ++ p, by go_num, by omega, ?_, ?_, hb.trans (hb1.mono (by omega)), Nat.le_trans hsz hb1.size, fun j hj => (hb1.cell (p := ⟨w.heap.size, j, none⟩) (show w.heap.size < w.heap.size + 1 by omega)).trans (HC.out j hj), HN⟩
          · rw [List.length_append]; omega
          · rw [List.length_append, cells_app]; exact hown1
        case measure => simp [RowKit.intOf]; omega
      · have hpar1 : k % 2 = 1 := by omega
        have hP := parseInt_any ⟨p.toArray⟩ (by rw [hps]; omega) wr (hE.env.below hb (Nat.le_refl _))
        have ipar : ((k : Int) % 2 == 0) = false := by simp; omega
        go_wp2_with fail
        go_at_call 175
        refine hP.mono (fun e w1 hpost => ?_)
        obtain ⟨⟨v, rfl, hv⟩, hb1⟩ := hpost
        replace hv : PO p v := hv
        rcases hv with ⟨i, h0, h1, hpi, rfl⟩ | ⟨i, N, hpi, rfl⟩
        · have HN := Lib.hid (hh.out.odd hpar1 hpi)
          have hown1 := own_below hown hb1
          have hsz1 := Nat.le_trans hsz hb1.size
          have hA := Tryz.utf8_AppendRune_plain (w.heap.size + 1) u4 acc.length _ i h0 h1 w1 hown1 (by omega) hsz1
          have hrl := Lib.encodeRuneZ_length i
          have hrc : (Lib.runeCells i).length ≤ 4 := by rw [Lib.runeCells, List.length_map]; exact hrl.2
          rw [← Lib.byteCells_encodeRune, Lib.byteCells_length] at hA hrc
          clear hh hpi hP
          go_wp2_with fail
          go_at_call 176
          refine hA.mono (fun e w2 hpost => ?_)
          obtain ⟨v', rfl, hown2, ob, hg2⟩ := hpost
          have hb2 := ((Below.refl (w.heap.size + 1) w1).alloc hsz1 ob).grown hg2 (by simp; omega) (fun k hk => (hown1.lt k hk).1)
          have hb3 : Below (w.heap.size + 1) wr w2 := (hb1.mono hsz).trans hb2
          go_wp2
          go_roundw
          case rel =>
            refine ⟨k + 1, acc ++ Lib.encodeRune i, by go_num, by omega, ?_, ?_, hb.trans (hb3.mono (by omega)), Nat.le_trans hsz hb3.size, fun j hj => (hb3.cell (p := ⟨w.heap.size, j, none⟩) (show w.heap.size < w.heap.size + 1 by omega)).trans (HC.out j hj), HN⟩
            · rw [List.length_append]; omega
            · rw [List.length_append, cells_app]; exact hown2
          case measure => simp [RowKit.intOf]; omega
        · have HN := Lib.hid (hh.out.bad hpar1 hpi)
          clear hh hpi hP
          go_wp2
          go_ret2
          exact ⟨Or.inr ⟨HN.out, rfl⟩, hb.trans (hb1.mono (by omega))⟩
    · have hkk : k = ps.length := by omega
      rw [List.drop_eq_nil_of_le (by omega)] at hh
      have HN := Lib.hid hh.out.last
      have hcv := convert_own wr _ _ _ hown
      clear hh hc
      go_wp2
      go_ret2
      exact ⟨Or.inl ⟨acc, HN.out, rfl⟩, hb⟩

end Go.Proofs.YtamglanahpcedaaGreatDoor
namespace Go.Proofs.YtamglanahpcedaaGreatDoor
open Go.RowKit Go.Lib

theorem decL_long {l : List UInt8} (h : 64 < l.length) : Mb.decL l = none := by unfold Mb.decL; rw [if_pos h]
theorem decL_nospell {l : List UInt8} (h : Mb.spellL l = none) : Mb.decL l = none := by
  unfold Mb.decL
  split
  · rfl
  · rw [h]
theorem decL_noname {l n : List UInt8} (h : Mb.spellL l = some n) (hn : ¬ (Mb.nameOk n = true ∧ Mb.encL n = l)) : Mb.decL l = none := by
  unfold Mb.decL
  split
  · rfl
  · rw [h]; simp only; rw [if_neg hn]
theorem decL_name {l n : List UInt8} (h64 : ¬ 64 < l.length) (h : Mb.spellL l = some n) (hn : Mb.nameOk n = true ∧ Mb.encL n = l) : Mb.decL l = some n := by
  unfold Mb.decL
  rw [if_neg h64, h]; simp only; rw [if_pos hn]

/-- what Decode gives -/
def DecO (l : List UInt8) (v : Value) : Prop :=
  (∃ n, Mb.decL l = some n ∧ v = .tuple #[.string ⟨n.toArray⟩, .int .i64 0]) ∨ (Mb.decL l = none ∧ v = .tuple #[.string ⟨#[]⟩, .int .i64 2])

set_option maxHeartbeats 4000000 in
set_option maxRecDepth 100000 in
theorem decode_any (s : ByteArray) (w : World) (hE : EnvN w) :
    Calls Tryz.prog 112 #[.string s] w fun e w' => (∃ v, e = .returned v ∧ DecO s.data.toList v) ∧ Below w.heap.size w w' := by
  by_cases h64 : 64 < s.size
  · have HN := Lib.hid (decL_long (l := s.data.toList) (by rw [← Lib.size_eq]; omega))
    have i64 : (64 : Int) < s.size := by omega
    go_enter Tryz.func112, Tryz.ntmps112
    go_wp2
    go_ret2
    exact ⟨⟨_, rfl, Or.inr ⟨HN.out, rfl⟩⟩, Below.refl _ _⟩
  · have i64 : ¬ (64 : Int) < s.size := by omega
    have HL := Lib.hid (show ¬ 64 < s.data.toList.length by rw [← Lib.size_eq]; omega)
    have hS := spell_any s (by omega) w hE
    go_enter Tryz.func112, Tryz.ntmps112
    go_wp2_with fail
    go_at_call 146
    refine hS.mono (fun e w1 hpost => ?_)
    obtain ⟨h, hb1⟩ := hpost
    have hE1 := hE.below hb1 (Nat.le_refl _)
    rcases h with ⟨n, hn, rfl⟩ | ⟨hn, rfl⟩
    · by_cases hok : Mb.nameOk n = true
      · have hC := encode_name ⟨n.toArray⟩ w1 hok hE1.tz
        replace hC : Calls Tryz.prog 147 #[.string ⟨n.toArray⟩] w1 fun e w' => e = .returned (.tuple #[.string ⟨(Mb.encL n).toArray⟩, .int .i64 0]) ∧ Below w1.heap.size w1 w' := hC
        by_cases heq : Mb.encL n = s.data.toList
        · have hse : s = ⟨(Mb.encL n).toArray⟩ := by
            apply ByteArray.ext; apply Array.ext'; rw [heq]
          have HN := Lib.hid (decL_name HL.out hn ⟨hok, heq⟩)
          rw [← hse] at hC
          clear hn heq hok hse hS
          go_wp2_with fail
          go_at_call 147
          refine hC.mono (fun e w2 hpost => ?_)
          obtain ⟨rfl, hb2⟩ := hpost
          go_wp2
          go_ret2
          exact ⟨⟨_, rfl, Or.inl ⟨n, HN.out, rfl⟩⟩, hb1.trans (hb2.mono hb1.size)⟩
        · have HN := Lib.hid (decL_noname hn (fun h => heq h.2))
          obtain ⟨c, hcd, hcs⟩ : ∃ c : ByteArray, c = ⟨(Mb.encL n).toArray⟩ ∧ (c.toList == s.toList) = false := ⟨_, rfl, by rw [ByteArray.toList_eq, ByteArray.toList_eq]; simpa using heq⟩
          rw [← hcd] at hC
          clear hn heq hok hcd hS
          go_wp2_with fail
          go_at_call 147
          refine hC.mono (fun e w2 hpost => ?_)
          obtain ⟨rfl, hb2⟩ := hpost
          go_wp2
          go_ret2
          exact ⟨⟨_, rfl, Or.inr ⟨HN.out, rfl⟩⟩, hb1.trans (hb2.mono hb1.size)⟩
      · have hC := encode_bad ⟨n.toArray⟩ w1 (by simpa using hok)
        have HN := Lib.hid (decL_noname hn (fun h => hok h.1))
        clear hn hok hS
        go_wp2_with fail
        go_at_call 147
        refine hC.mono (fun e w2 hpost => ?_)
        obtain ⟨rfl, hb2⟩ := hpost
        go_wp2
        go_ret2
        exact ⟨⟨_, rfl, Or.inr ⟨HN.out, rfl⟩⟩, hb1.trans (hb2.mono hb1.size)⟩
    · have HN := Lib.hid (decL_nospell hn)
      clear hn hS
      go_wp2
      go_ret2
      exact ⟨⟨_, rfl, Or.inr ⟨HN.out, rfl⟩⟩, hb1⟩

/-! ### package mailbag -/




end Go.Proofs.YtamglanahpcedaaGreatDoor
