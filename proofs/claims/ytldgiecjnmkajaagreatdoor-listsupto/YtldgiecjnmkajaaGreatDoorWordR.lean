/-
  OWN TEXT: the step Read: the program's answer and the document's are the same; the list that came out waits.
-/
import Derived.Test.YtldgiecjnmkajaaGreatDoorRefListH
import Derived.Test.YtldgiecjnmkajaaGreatDoorKeepM
import Derived.Test.YtldgiecjnmkajaaGreatDoorLookA
import Derived.Test.YtldgiecjnmkajaaGreatDoorPlayZ
import Derived.Test.YtldgiecjnmkajaaGreatDoorLentM
namespace Go.Proofs.YtldgiecjnmkajaaGreatDoor
open Go.RowKit Go.Lib

set_option maxHeartbeats 400000 in
theorem lread_long (s : ByteArray) (hs : 400 < s.size) (hs2 : s.size ≤ 9223372036854775807) (w : World) :
    Calls Tryz.prog 177 #[.string s] w fun r w' => r = .returned (.tuple #[.agg #[.int .i64 0, .int .i64 0, .slice none 0 0], .int .i64 1]) ∧ Below w.heap.size w w' := by
  have i1 : (400 : Int) < (s.size : Int) := by omega
  go_enter Tryz.func177, Tryz.ntmps177
  go_wp2
  refine bodyPost_ret (v := .tuple #[.agg #[.int .i64 0, .int .i64 0, .slice none 0 0], .int .i64 1]) (by simp [results, Tryz.results177, go_sem]) rfl ⟨rfl, ?_⟩
  exact (Below.refl _ _).alloc (Nat.le_refl _) _

theorem mread_long (s : ByteArray) (hs : 400 < s.size) (hs2 : s.size ≤ 9223372036854775807) (w : World) :
    Calls Tryz.prog 112 #[.string s] w fun r w' => r = .returned (.tuple #[.agg #[.int .i64 0, .int .i64 0, .slice none 0 0], .int .i64 1]) ∧ Below w.heap.size w w' := by
  have g := fun o => lread_long s hs hs2 (w.alloc o)
  go_enter Tryz.func112, Tryz.ntmps112
  go_wp2_with fail
  refine (g _).mono ?_
  rintro e' w1 ⟨rfl, hb1⟩
  clear g
  have a0 := hb1.cell (p := ⟨w.heap.size, 0, none⟩) (by simp)
  have a1 := hb1.cell (p := ⟨w.heap.size, 1, none⟩) (by simp)
  have a2 := hb1.cell (p := ⟨w.heap.size, 2, none⟩) (by simp)
  have f0 := hb1.frozen (p := ⟨w.heap.size, 0, none⟩) (by simp)
  have f1 := hb1.frozen (p := ⟨w.heap.size, 1, none⟩) (by simp)
  have f2 := hb1.frozen (p := ⟨w.heap.size, 2, none⟩) (by simp)
  simp at a0 a1 a2 f0 f1 f2
  have HB1 : Hid (Below w.heap.size w w1) := (((Below.refl w.heap.size w).alloc (Nat.le_refl _) _).trans (hb1.mono (by simp)))
  clear hb1
  obtain ⟨b0, b1, b2⟩ := box3 a0 a1 a2 (.int .i64 0) (.int .i64 0) (.slice none 0 0)
  go_wp2
  refine bodyPost_ret (v := .tuple #[.agg #[.int .i64 0, .int .i64 0, .slice none 0 0], .int .i64 1]) (by simp [results, Tryz.results112, go_sem, b0, b1, b2]) rfl ⟨rfl, ?_⟩
  exact ((HB1.out.setCell (by simp) _).setCell (by simp) _).setCell (by simp) _

/-- what a call of Read gives -/
def ReadP (w : World) (e n E : Int) (xs : List Mb.Ent) (r : Ending) (w' : World) : Prop :=
  ∃ a cap, r = .returned (.tuple #[.agg #[.int .i64 e, .int .i64 n, .slice a xs.length cap], .int .i64 E]) ∧ Below w.heap.size w w' ∧ OwnE w' w.heap.size a cap xs ∧ (E ≠ 0 → xs = [] ∧ a = none ∧ cap = 0)

/-- both answers to Read -/
theorem read_ans (s : ByteArray) (hs : s.size ≤ 1048576) : ∃ (e n E : Int) (xs : List Mb.Ent), xs.length ≤ 8 ∧ (∀ w, Env w → Calls Tryz.prog 112 #[.string s] w fun r w' => ReadP w e n E xs r w') ∧ (∀ w, Env w → Calls Tryz.prog 113 #[.string s] w fun r w' => ReadP w e n E xs r w') := by
  by_cases h400 : s.size ≤ 400
  · rcases opt_or (Mb.readL s.data.toList) with hn | ⟨⟨e, n, xs⟩, hr⟩
    · refine ⟨0, 0, 3, [], by simp, fun w hE => ?_, fun w hE => ?_⟩
      · refine (mread_none s h400 w hE hn).mono ?_
        rintro r w' ⟨rfl, hb⟩
        exact ⟨none, 0, rfl, hb, World.ownsRow_nil _ _ _ _, fun _ => ⟨rfl, rfl, rfl⟩⟩
      · refine (rread_any s h400 w hE).mono ?_
        intro r w' hp
        rw [hn] at hp
        obtain ⟨rfl, hb⟩ := hp
        exact ⟨none, 0, rfl, hb, World.ownsRow_nil _ _ _ _, fun _ => ⟨rfl, rfl, rfl⟩⟩
    · refine ⟨e, n, 0, xs, (Mb.listOk_fine (Mb.read_some hr).1).len, fun w hE => ?_, fun w hE => ?_⟩
      · refine (mread_own s h400 w hE e n xs hr).mono ?_
        rintro r w' ⟨a, cap, rfl, hb, _, _, ho, _⟩
        exact ⟨a, cap, rfl, hb, ho, fun h => absurd rfl h⟩
      · refine (rread_any s h400 w hE).mono ?_
        intro r w' hp
        rw [hr] at hp
        obtain ⟨a, cap, rfl, hb, _, _, ho⟩ := hp
        exact ⟨a, cap, rfl, hb, ho, fun h => absurd rfl h⟩
  · refine ⟨0, 0, 1, [], by simp, fun w _ => ?_, fun w _ => ?_⟩
    · refine (mread_long s (by omega) (by omega) w).mono ?_
      rintro r w' ⟨rfl, hb⟩
      exact ⟨none, 0, rfl, hb, World.ownsRow_nil _ _ _ _, fun _ => ⟨rfl, rfl, rfl⟩⟩
    · refine (rread_long s (by omega) (by omega) w).mono ?_
      rintro r w' ⟨rfl, hb⟩
      exact ⟨none, 0, rfl, hb, World.ownsRow_nil _ _ _ _, fun _ => ⟨rfl, rfl, rfl⟩⟩

theorem entry_nnil (a : Option Addr) (n c : Nat) (W : World) : (binOp .neq 78 (.slice a n c) (.slice none 0 0)).run Tryz.prog W = .ok (.bool (!a.isNone)) W := by
  simp only [binOp]
  simp [Op.equal, Op.maxDepth, Lib.run_equalIn_slice_nil W 9999 78 221 a n c 0 0 Tryz.underlying78]

theorem num_any (x : Int) (w : World) : Calls Tryz.prog 53 #[.int .i64 x] w fun e w' => e = .returned (.int .i64 x) ∧ w' = w := by
  go_enter Tryz.func53, Tryz.ntmps53
  go_wp2
  go_ret
  exact ⟨rfl, rfl⟩

/-- the roles of the two lists -/
theorem two_roles {role : Nat → Nat} {l k : Value} {S S2 r : Nat} (hl : ∀ b, l.ownBlock = some b → S ≤ b ∧ b < S2) (hk : ∀ b, k.ownBlock = some b → S2 ≤ b) (hS : S ≤ S2) :
    (∀ b, b < S → roleSet (roleSet role l r) k 7 b = role b) ∧ (∀ b, l.ownBlock = some b → roleSet (roleSet role l r) k 7 b = r) ∧ (∀ b, k.ownBlock = some b → roleSet (roleSet role l r) k 7 b = 7) := by
  refine ⟨fun b hb => ?_, fun b hb => ?_, fun b hb => roleSet_pos hb⟩
  · rw [roleSet_neg (fun e => by have := hk b e; omega), roleSet_neg (fun e => by have := (hl b e).1; omega)]
  · rw [roleSet_neg (fun e => by have := hk b e; have := (hl b hb).2; omega), roleSet_pos hb]

set_option maxHeartbeats 8000000 in
set_option maxRecDepth 100000 in
theorem words_readL {w0 W : World} {H : Obj} {N : Nat} (hX : WX w0 H N W) (hE0 : Env w0) (hN : N ≤ 2097151) (a b : Int) (s t : ByteArray) (hs : s.size ≤ 1048576) :
    Calls Tryz.prog 59 #[.pointer (some ⟨w0.heap.size, 0, none⟩), .agg #[.int .i64 10, .int .i64 a, .int .i64 b, .string s, .string t]] W fun e w' => e = .returned (.bool true) ∧ WX w0 H (N + 1) w' := by
  obtain ⟨role, D, h⟩ := hX
  have h1 : WL w0 H (N + 1) 0 (roleAt role W.heap.size 0) D (W.alloc (boxOf 10 a b s t)) := ((h.role (fun b hb => roleAt_old hb)).below ((Below.refl _ _).alloc (Nat.le_refl _) _)).more (by omega)
  have H0 : Hid (∃ role D, WL w0 H (N + 1) 0 role D (W.alloc (boxOf 10 a b s t)) ∧ D.books.length + D.waits.length ≤ 2 * N + 0 ∧ role W.heap.size = 0 ∧ (W.alloc (boxOf 10 a b s t)).heap[W.heap.size]? = some (boxOf 10 a b s t)) := ⟨_, D, h1, by have := h.nb; omega, roleAt_new _ _ _, heap_alloc_new _ _⟩
  obtain ⟨e, n, E, xs, h8, ansM, ansR⟩ := read_ans s hs
  have AM := Lib.hid ansM
  have AR := Lib.hid ansR
  have HE0 := Lib.hid hE0
  clear h h1 ansM ansR hE0
  go_enter Tryz.func59, Tryz.ntmps59
  go_wp2
  go_loopw [24] (fun vi wr => ∃ k : Nat, vi = .int .i64 (k : Int) ∧ k ≤ 2 ∧ Hid (∃ role D, WL w0 H (N + 1) 0 role D wr ∧ D.books.length + D.waits.length ≤ 2 * N + k ∧ role W.heap.size = 0 ∧ wr.heap[W.heap.size]? = some (boxOf 10 a b s t))) (fun vi _ => 2 - (RowKit.intOf vi).toNat)
  case atStart => exact ⟨0, rfl, by omega, H0⟩
  case round =>
    clear H0
    obtain ⟨k, rfl, hk, HI⟩ := hrel
    by_cases hlt : k < 2
    · obtain ⟨role, D, h, hcnt, hr0, hbox⟩ := HI.out
      have hBlt : W.heap.size < wr.heap.size := (Array.getElem?_eq_some_iff.1 hbox).1
      have b3 : wr.cell? ⟨W.heap.size, 3, none⟩ = some (.string s) := by
        simp [World.cell?, hbox, boxOf]
      have hz := h.size
      have hEr : Env wr := HE0.out.below h.low (Nat.le_refl _)
      have gM := AM.out wr hEr
      have HW := Lib.hid h
      have HEr := Lib.hid hEr
      have ik : (k : Int) < 2 := by omega
      clear h hEr HI
      go_wp2_with fail
      go_at_call 112
      refine gM.mono (fun r w1 hpost => ?_)
      obtain ⟨la, lc, rfl, hb1, ho1, hz1⟩ := hpost
      have s1 := hb1.size
      have b31 := (hb1.cell (p := ⟨W.heap.size, 3, none⟩) hBlt).trans b3
      have b3a : ∀ o, (w1.alloc o).cell? ⟨W.heap.size, 3, none⟩ = some (.string s) := fun o => (World.cell?_of_block (a := ⟨W.heap.size, 3, none⟩) (Go.heap_alloc_old w1 o (by show W.heap.size < _; omega))).trans b31
      have gR := fun o => AR.out (w1.alloc o) ((HEr.out.below hb1 (Nat.le_refl _)).below ((Below.refl _ _).alloc (Nat.le_refl _) o) (Nat.le_refl _))
      have HB1 := Lib.hid hb1
      have HO1 := Lib.hid ho1
      have HZ1 := Lib.hid hz1
      have HLL := Lib.hid (fun b hb => World.ownsRow.lt ho1 b hb)
      clear gM hb1 ho1 hz1
      go_wp2_with fail
      go_at_call 113
      refine (gR _).mono (fun r w2 hpost => ?_)
      obtain ⟨va, vc, rfl, hb2, ho2, hz2⟩ := hpost
      have s2 := hb2.size
      simp at s2
      have hB2 : Below wr.heap.size wr w2 := HB1.out.trans ((((Below.refl _ _).alloc (Nat.le_refl _) _).trans (hb2.mono (by simp))).mono s1)
      have c0 := (hb2.cell (p := ⟨w1.heap.size, 0, none⟩) (by simp)).trans (show _ = some (.int .i64 e) by simp)
      have c1 := (hb2.cell (p := ⟨w1.heap.size, 1, none⟩) (by simp)).trans (show _ = some (.int .i64 n) by simp)
      have c2 := (hb2.cell (p := ⟨w1.heap.size, 2, none⟩) (by simp)).trans (show _ = some (.slice la xs.length lc) by simp)
      have d0 : ∀ o, (w2.alloc o).cell? ⟨w1.heap.size, 0, none⟩ = some (.int .i64 e) := fun o => (World.cell?_of_block (a := ⟨w1.heap.size, 0, none⟩) (Go.heap_alloc_old w2 o (by show w1.heap.size < _; omega))).trans c0
      have d1 : ∀ o, (w2.alloc o).cell? ⟨w1.heap.size, 1, none⟩ = some (.int .i64 n) := fun o => (World.cell?_of_block (a := ⟨w1.heap.size, 1, none⟩) (Go.heap_alloc_old w2 o (by show w1.heap.size < _; omega))).trans c1
      have d2 : ∀ o, (w2.alloc o).cell? ⟨w1.heap.size, 2, none⟩ = some (.slice la xs.length lc) := fun o => (World.cell?_of_block (a := ⟨w1.heap.size, 2, none⟩) (Go.heap_alloc_old w2 o (by show w1.heap.size < _; omega))).trans c2
      have ho1' : OwnE w2 wr.heap.size la lc xs := (OwnE.below HO1.out (((Below.refl _ _).alloc (Nat.le_refl _) _).trans (hb2.mono (by simp))))
      obtain ⟨x1, x2, _⟩ := slAt_of_owns ho1' rfl
      obtain ⟨y1, y2, _⟩ := slAt_of_owns ho2 rfl
      have gS := fun o => sameE_any la va lc vc xs (w2.alloc o) (x1.below ((Below.refl _ _).alloc (Nat.le_refl _) o) (Nat.le_refl _)) (y1.below ((Below.refl _ _).alloc (Nat.le_refl _) o) (Nat.le_refl _)) (by unfold maxLen; omega)
      have HOL := Lib.hid ho1'
      have HOK := Lib.hid ho2
      have HB2 := Lib.hid hB2
      have HZ2 := Lib.hid hz2
      have hw12 : ¬ w1.heap.size = w2.heap.size := by omega
      clear hb2 ho2 hB2 ho1' x1 y1 x2 y2 c0 c1 c2 HO1 b3a b31 b3 gR hz2
      go_wp2_with fail
      go_at_call 114
      refine (gS _).mono (fun r w3 hpost => ?_)
      obtain ⟨rfl, hb3⟩ := hpost
      have s3 := hb3.size
      simp at s3
      have p0 := (hb3.cell (p := ⟨w1.heap.size, 0, none⟩) (by simp; omega)).trans (d0 _)
      have p1 := (hb3.cell (p := ⟨w1.heap.size, 1, none⟩) (by simp; omega)).trans (d1 _)
      have p2 := (hb3.cell (p := ⟨w1.heap.size, 2, none⟩) (by simp; omega)).trans (d2 _)
      have k0 := (hb3.cell (p := ⟨w2.heap.size, 0, none⟩) (by simp)).trans (show _ = some (.int .i64 e) by simp)
      have k1 := (hb3.cell (p := ⟨w2.heap.size, 1, none⟩) (by simp)).trans (show _ = some (.int .i64 n) by simp)
      have k2 := (hb3.cell (p := ⟨w2.heap.size, 2, none⟩) (by simp)).trans (show _ = some (.slice va xs.length vc) by simp)
      have hb23 : Below w2.heap.size w2 w3 := ((Below.refl _ _).alloc (Nat.le_refl _) _).trans (hb3.mono (by simp))
      have oL := OwnE.below HOL.out hb23
      have oK := OwnE.below HOK.out hb23
      have hB3 : Below wr.heap.size wr w3 := HB2.out.trans (hb23.mono (by omega))
      have hlL : ∀ b, (Value.slice la xs.length lc).ownBlock = some b → wr.heap.size ≤ b ∧ b < (w1.heap.size + 1) := fun b hb => by
        have := HLL.out b hb
        omega
      have hlK : ∀ b, (Value.slice va xs.length vc).ownBlock = some b → w1.heap.size + 1 ≤ b := fun b hb => by
        have := (oK.lt b hb).1
        simpa using this
      obtain ⟨t1, t2, t3⟩ := two_roles (role := role) (r := 8 + D.waits.length) hlL hlK (by omega)
      have h3 := (HW.out.role t1).below hB3
      have gK := keepE (N' := N + 1) h3 (la := la) (lc := lc) (va := va) (vc := vc) (xs := xs) ⟨owns_base oL (by omega), t2⟩ h8 ⟨owns_base oK (by simp; omega), t3⟩ (Nat.le_refl _) (by omega) (by omega)
      have HR := Lib.hid ((t1 W.heap.size hBlt).trans hr0)
      have HX := Lib.hid ((hB3.block W.heap.size hBlt).trans hbox)
      have hBlt3 : W.heap.size < w3.heap.size := by have := hB3.size; omega
      have hnn : ∀ W', (binOp .neq 78 (.slice none 0 0) (.slice none 0 0)).run Tryz.prog W' = .ok (.bool false) W' := fun W' => entry_nnil none 0 0 W'
      have gN := num_any E
      clear t1 t2 t3 hlL hlK oL oK hb23 h3 hB3 hb3 d0 d1 d2 gS HW hr0 hbox
      by_cases hE0 : E = 0
      · subst hE0
        go_wp2_with (first | (go_at_call 53; refine (gN _).mono ?_; rintro r w' ⟨rfl, rfl⟩))
        refine gK.mono (fun r w4 hpost => ?_)
        obtain ⟨rfl, role', D', r1, r2, hw4, n1, n2⟩ := hpost
        have HI' : Hid (∃ role D, WL w0 H (N + 1) 0 role D w4 ∧ D.books.length + D.waits.length ≤ 2 * N + (k + 1) ∧ role W.heap.size = 0 ∧ w4.heap[W.heap.size]? = some (boxOf 10 a b s t)) := ⟨role', D', hw4, by omega, (r1 _ hBlt3).trans HR.out, (r2 _ hBlt3 HR.out).trans HX.out⟩
        clear gK r1 r2 hw4 HR HX p0 p1 p2 k0 k1 k2
        go_wp2
        go_roundw
        case rel => exact ⟨k + 1, by go_num, by omega, HI'⟩
        case measure => simp [RowKit.intOf]; omega
      · obtain ⟨rfl, rfl, rfl⟩ := HZ1.out hE0
        obtain ⟨_, rfl, rfl⟩ := HZ2.out hE0
        simp only [List.length_nil] at gK p2 k2
        have e1 : (E != 0) = true := by simpa using hE0
        go_wp2_with (first | (go_at_call 53; refine (gN _).mono ?_; rintro r w' ⟨rfl, rfl⟩))
        refine gK.mono (fun r w4 hpost => ?_)
        obtain ⟨rfl, role', D', r1, r2, hw4, n1, n2⟩ := hpost
        have HI' : Hid (∃ role D, WL w0 H (N + 1) 0 role D w4 ∧ D.books.length + D.waits.length ≤ 2 * N + (k + 1) ∧ role W.heap.size = 0 ∧ w4.heap[W.heap.size]? = some (boxOf 10 a b s t)) := ⟨role', D', hw4, by omega, (r1 _ hBlt3).trans HR.out, (r2 _ hBlt3 HR.out).trans HX.out⟩
        clear gK r1 r2 hw4 HR HX p0 p1 p2 k0 k1 k2
        go_wp2
        go_roundw
        case rel => exact ⟨k + 1, by go_num, by omega, HI'⟩
        case measure => simp [RowKit.intOf]; omega
    · have hk2 : k = 2 := by omega
      subst hk2
      have HF : Hid (WX w0 H (N + 1) wr) := by
        obtain ⟨role, D, h, _⟩ := HI.out
        exact ⟨role, D, h⟩
      clear HI hlt hk
      go_wp2
      go_ret
      exact ⟨rfl, HF.out⟩

end Go.Proofs.YtldgiecjnmkajaaGreatDoor
