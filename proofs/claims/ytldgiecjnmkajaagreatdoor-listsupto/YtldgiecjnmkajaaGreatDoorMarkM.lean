/-
  OWN TEXT: markEntries and settle, of the script's World.
  OWN TEXT: settle, of the script's World.
-/
import Derived.Test.YtldgiecjnmkajaaGreatDoorMarkA
import Derived.Test.YtldgiecjnmkajaaGreatDoorLookM
namespace Go.Proofs.YtldgiecjnmkajaaGreatDoor
open Go.RowKit Go.Lib

theorem OwnR.far {role R : Nat → Nat} {q q' : Nat} {W W' : World} {B : Nat} {t : TypeId} {size n : Nat} {v : Value} {xs : List Value} (h : OwnR role q W B t size v n xs) (far : ∀ b, b < W.heap.size → role b = q → W'.heap[b]? = W.heap[b]?) (hR : ∀ b, b < W.heap.size → role b = q → R b = q') : OwnR R q' W' B t size v n xs := by
  obtain ⟨⟨h1, h2⟩, h3⟩ := h
  have hl := fun b hb => ((show W.ownsRow B t size v n xs from ⟨h1, h2⟩).lt b hb).2
  refine ⟨⟨h1, ?_⟩, fun b hb => hR b (hl b hb) (h3 b hb)⟩
  rcases h2 with h2 | ⟨g, cap, cur, rfl, hb, hg, rest⟩
  · exact Or.inl h2
  · exact Or.inr ⟨g, cap, cur, rfl, hb, by rw [far g (hl g rfl) (h3 g rfl)]; exact hg, rest⟩
theorem ColdE.far {role R : Nat → Nat} {W W' : World} {v : Value} {xs : List Mb.Ent} (h : ColdE role W v xs) (hz : W.heap.size ≤ W'.heap.size) (far : ∀ b, b < W.heap.size → role b = 7 → W'.heap[b]? = W.heap[b]?) (hR : ∀ b, b < W.heap.size → role b = 7 → R b = 7) : ColdE R W' v xs := by
  obtain ⟨a, cap, h1, h2, h3, h4⟩ := h
  refine ⟨a, cap, h1, h2, h3, ?_⟩
  rcases h4 with h4 | ⟨b, off, h5, h6, h7, h8⟩
  · exact Or.inl h4
  · refine Or.inr ⟨b, off, h5, by omega, hR b h6 h7, fun i x hx => ?_⟩
    obtain ⟨c0, c1, c2⟩ := h8 i x hx
    have hk : ∀ o, W'.cell? ⟨b, o, none⟩ = W.cell? ⟨b, o, none⟩ := fun o => World.cell?_of_block (a := ⟨b, o, none⟩) (far b h6 h7)
    exact ⟨(hk _).trans c0, (hk _).trans c1, (hk _).trans c2⟩

/-- a row that nobody writes into any more -/
theorem cold_of_owns {R : Nat → Nat} {W : World} {B k : Nat} {v : Value} {x : Mb.Ent} (h : W.ownsRow B 221 3 v k (entCells (List.replicate k x))) (hk : k ≤ 1048576) (hR : ∀ b, v.ownBlock = some b → R b = 7) : ColdE R W v (List.replicate k x) := by
  rcases h.2 with ⟨rfl, rfl⟩ | ⟨g, cap, cur, rfl, e2, e3, e4, _⟩
  · exact ColdE.nil _ _
  · refine ⟨some ⟨g, 0, none⟩, cap, by rw [List.length_replicate], by rw [List.length_replicate]; exact e4, by rw [List.length_replicate]; exact hk, Or.inr ⟨g, 0, rfl, (h.lt g rfl).2, hR g rfl, cells_ents (h.cells rfl)⟩⟩

theorem own_slice {W : World} {B : Nat} {t : TypeId} {size n : Nat} {v : Value} {xs : List Value} (h : W.ownsRow B t size v n xs) : ∃ a c, v = .slice a n c := by
  rcases h.2 with ⟨e, e2⟩ | ⟨g, cap, cur, e1, _⟩
  · exact ⟨none, 0, by rw [e, e2]⟩
  · exact ⟨_, _, e1⟩

theorem markL {w0 W : World} {H : Obj} {N d : Nat} {role : Nat → Nat} {D : Wd} (h : WL w0 H N d role D W) {x : Wait} (hx : D.waits[d]? = some x) (hN : N ≤ 2097152) :
    Calls Tryz.prog 65 #[.pointer (some ⟨w0.heap.size, 0, none⟩), x.val] W fun e w' => e = .returned (.tuple #[]) ∧ ∃ role' D', WL w0 H N (d + 1) role' D' w' ∧ D'.waits = D.waits ∧ D'.wt = D.wt := by
  have hs := h.size
  have hw := h.waits d x (Nat.le_refl _) hx
  have hd : d < D.waits.length := (List.getElem?_eq_some_iff.1 hx).1
  obtain ⟨la, lc, hl⟩ := own_slice hw.own.1
  obtain ⟨ba, bc, hb⟩ := own_slice h.ob.1
  have how := hw.own
  rw [hl] at how ⊢
  have hob := h.ob
  rw [hb] at hob
  obtain ⟨c5, f5⟩ := h.cell 5 (.int .i64 (D.m : Int)) rfl
  obtain ⟨c8, f8⟩ := h.cell 8 D.bk rfl
  rw [hb] at c8
  have hnb := h.nb
  have hmm := h.m
  refine (mark_raw (K := w0.heap.size) (B := w0.heap.size + 2) (xs := x.xs) rfl (by omega) hs c5 f5 c8 f8 hob.1 how.1 (fun b h1 h2 => ?_) (by omega) (by omega) hw.len).mono ?_
  · have e1 := how.2 b h1
    have e2 := hob.2 b h2
    omega
  · rintro e w' ⟨rfl, ga1, gc1, ga2, gc2, ga3, gc3, xa, xc, W4, W5, hc4, hk4, o0, o1, o2, o3, hga, g5, o5, hat, rfl⟩
    refine ⟨rfl, ?_⟩
    have z4 := hc4.size
    have z5 := g5.size
    obtain ⟨R, hR⟩ : ∃ R : Nat → Nat, R = fun b => if b = xa then 4 else if (Value.slice la x.xs.length lc).ownBlock = some b ∨ b = ga1 ∨ b = ga2 ∨ b = ga3 then 7 else role b := ⟨_, rfl⟩
    have hxa : R xa = 4 := by rw [hR]; exact if_pos rfl
    have hlx : (Value.slice la x.xs.length lc).ownBlock ≠ some xa := fun e => by
      have e1 := how.lt xa e
      rcases hat with e2 | e2
      · have := hob.2 xa e2; omega
      · omega
    have hgx : ∀ g ∈ [ga1, ga2, ga3], g < W4.heap.size → g ≠ xa := fun g hg hgl e => by
      subst e
      rcases hat with e2 | e2
      · rcases hga g hg with e3 | e3
        · exact hlx e3
        · have := hob.lt g e2; omega
      · omega
    have l1 := (o1.lt ga1 rfl).2
    have l2 := (o2.lt ga2 rfl).2
    have l3 := (o3.lt ga3 rfl).2
    have r0 : ∀ b, (Value.slice la x.xs.length lc).ownBlock = some b → R b = 7 := fun b hb => by
      rw [hR]
      simp only
      rw [if_neg (fun e => hlx (by rw [← e]; exact hb)), if_pos (Or.inl hb)]
    have r1 : R ga1 = 7 := by
      rw [hR]
      exact (if_neg (hgx ga1 (by simp) l1)).trans (if_pos (Or.inr (Or.inl rfl)))
    have r2 : R ga2 = 7 := by
      rw [hR]
      exact (if_neg (hgx ga2 (by simp) l2)).trans (if_pos (Or.inr (Or.inr (Or.inl rfl))))
    have r3 : R ga3 = 7 := by
      rw [hR]
      exact (if_neg (hgx ga3 (by simp) l3)).trans (if_pos (Or.inr (Or.inr (Or.inr rfl))))
    have old : ∀ b, b < W.heap.size → role b ≠ 8 + d → R b = role b := fun b hb hr => by
      rw [hR]
      simp only
      by_cases e : b = xa
      · rw [if_pos e]
        subst e
        rcases hat with e2 | e2
        · exact (hob.2 b e2).symm
        · omega
      · rw [if_neg e, if_neg]
        intro hh
        have : ∀ g ∈ [ga1, ga2, ga3], b = g → False := fun g hg e => by
          rcases hga g hg with e3 | e3
          · exact hr (by rw [e]; exact how.2 g e3)
          · omega
        rcases hh with hh | hh | hh | hh
        · exact hr (how.2 b hh)
        · exact this ga1 (by simp) hh
        · exact this ga2 (by simp) hh
        · exact this ga3 (by simp) hh
    have far : ∀ b, b < W.heap.size → role b ≠ 1 → role b ≠ 4 → role b ≠ 8 + d → (W5.setCell ⟨w0.heap.size, 8, none⟩ (.slice (some ⟨xa, 0, none⟩) (D.books.length + 1) xc)).heap[b]? = W.heap[b]? := fun b hb e1 e4 e8 => by
      have hbK : b ≠ w0.heap.size := fun e => e1 (by rw [e]; exact h.rworld)
      rw [Below.heap_setCell _ _ _ _ (by simpa using hbK), g5.block b (by omega) (fun e => e4 (hob.2 b e.symm)), hc4.block b hb (by rw [onlyKL_not hbK (fun e => e8 (how.2 b e))]; omega)]
    clear hR
    have hz : W.heap.size ≤ (W5.setCell ⟨w0.heap.size, 8, none⟩ (.slice (some ⟨xa, 0, none⟩) (D.books.length + 1) xc)).heap.size := by simp; omega
    have hcold : ∀ {v : Value} {k : Nat}, W4.ownsRow (w0.heap.size + 2) 221 3 v k (entCells (List.replicate k (markE (D.m + 1)))) → (∀ b, v.ownBlock = some b → R b = 7) → k ≤ 1048576 → ColdE R (W5.setCell ⟨w0.heap.size, 8, none⟩ (.slice (some ⟨xa, 0, none⟩) (D.books.length + 1) xc)) v (List.replicate k (markE (D.m + 1))) := fun {v k} ho hr hk => by
      have h5 := ho.kept g5 (by
        cases hv : v.ownBlock with
        | none => exact Or.inl rfl
        | some b =>
          refine Or.inr (fun e => ?_)
          have e7 := hr b hv
          have hlt := hob.lt b e.symm
          rw [old b hlt.2.1 (by omega)] at e7
          omega)
      exact cold_of_owns (ownsRow_setCell_below h5 (by simp) _) hk hr
    refine ⟨R, { D with m := D.m + 1, bk := .slice (some ⟨xa, 0, none⟩) (D.books.length + 1) xc, books := D.books ++ [⟨D.m + 1, .slice la x.xs.length lc, .slice (some ⟨ga1, 0, none⟩) (x.xs.length + 1) gc1, .slice (some ⟨ga2, 0, none⟩) (x.xs.length + 2) gc2, .slice (some ⟨ga3, 0, none⟩) (x.xs.length + 3) gc3, x.xs.length⟩] }, ?_, rfl, rfl⟩
    have hlen := hw.len
    exact
      { low := ⟨g5.os.trans (hc4.os.trans h.low.os), g5.tape.trans (hc4.tape.trans h.low.tape), g5.output.trans (hc4.output.trans h.low.output), Nat.le_trans h.low.size hz, fun k hk => (far k (by omega) (by rw [h.rlow k hk]; omega) (by rw [h.rlow k hk]; omega) (by rw [h.rlow k hk]; omega)).trans (h.low.block k hk)⟩
        head := (far _ (by omega) (by rw [h.rhead]; omega) (by rw [h.rhead]; omega) (by rw [h.rhead]; omega)).trans h.head
        size := by omega
        blk := by
          have e1 : W5.heap[w0.heap.size]? = some (.cells (D.cells.setIfInBounds 5 (.int .i64 ((D.m + 1 : Nat) : Int))) 89 (0, 0)) := by
            rw [g5.block _ (by omega) (fun e => by have := hob.2 _ e.symm; rw [h.rworld] at this; omega), hk4, heap_set_at _ h.blk]
          rw [heap_set_at _ e1]
          rfl
        rlow := fun k hk => (old k (by omega) (by rw [h.rlow k hk]; omega)).trans (h.rlow k hk)
        rworld := (old _ (by omega) (by rw [h.rworld]; omega)).trans h.rworld
        rhead := (old _ (by omega) (by rw [h.rhead]; omega)).trans h.rhead
        ov := h.ov.far (fun b hb e => far b hb (by omega) (by omega) (by omega)) (fun b hb e => (old b hb (by omega)).trans e)
        fv := h.fv
        nv := h.nv
        of := h.of.far (fun b hb e => far b hb (by omega) (by omega) (by omega)) (fun b hb e => (old b hb (by omega)).trans e)
        nf := h.nf
        ob := by
          have e1 := ownsRow_setCell_below o5 (show (⟨w0.heap.size, 8, none⟩ : Addr).block < w0.heap.size + 2 by simp) (.slice (some ⟨xa, 0, none⟩) (D.books.length + 1) xc)
          refine ⟨?_, fun b hb => by simp only [Value.ownBlock, Option.some.injEq] at hb; rw [← hb]; exact hxa⟩
          simpa [List.flatMap_append, Book.cells] using e1
        ow := h.ow.far (fun b hb e => far b hb (by omega) (by omega) (by omega)) (fun b hb e => (old b hb (by omega)).trans e)
        oe := h.oe.far (fun b hb e => far b hb (by omega) (by omega) (by omega)) (fun b hb e => (old b hb (by omega)).trans e)
        books := fun b hb => by
          rcases List.mem_append.1 hb with hb | hb
          · have hk := h.books b hb
            have cf : ∀ {v : Value} {zs : List Mb.Ent}, ColdE role W v zs → ColdE R (W5.setCell ⟨w0.heap.size, 8, none⟩ (.slice (some ⟨xa, 0, none⟩) (D.books.length + 1) xc)) v zs := fun hh => hh.far hz (fun b hb e => far b hb (by omega) (by omega) (by omega)) (fun b hb e => (old b hb (by omega)).trans e)
            exact ⟨cf hk.l, cf hk.g1, cf hk.g2, cf hk.g3⟩
          · rw [List.mem_singleton.1 hb]
            exact ⟨hcold o0 r0 (by show x.xs.length ≤ 1048576; omega), hcold o1 (fun b hb => by cases hb; exact r1) (by show x.xs.length + 1 ≤ 1048576; omega), hcold o2 (fun b hb => by cases hb; exact r2) (by show x.xs.length + 2 ≤ 1048576; omega), hcold o3 (fun b hb => by cases hb; exact r3) (by show x.xs.length + 3 ≤ 1048576; omega)⟩
        waits := fun i y hi hy => by
          have hk := h.waits i y (by omega) hy
          exact ⟨hk.own.far (fun b hb e => far b hb (by omega) (by omega) (by omega)) (fun b hb e => (old b hb (by omega)).trans e), hk.was.far hz (fun b hb e => far b hb (by omega) (by omega) (by omega)) (fun b hb e => (old b hb (by omega)).trans e), hk.len⟩
        dn := hd
        nb := by
          show (D.books ++ [_]).length + (D.waits.length - (d + 1)) ≤ 2 * N
          simp only [List.length_append, List.length_cons, List.length_nil]
          omega
        m := by
          show D.m + 1 = (D.books ++ [_]).length
          simp only [List.length_append, List.length_cons, List.length_nil]
          omega }

end Go.Proofs.YtldgiecjnmkajaaGreatDoor
namespace Go.Proofs.YtldgiecjnmkajaaGreatDoor
open Go.RowKit Go.Lib

set_option maxHeartbeats 4000000 in
set_option maxRecDepth 100000 in
theorem settleL {w0 W : World} {H : Obj} {N : Nat} (hX : WX w0 H N W) (hN : N ≤ 2097152) :
    Calls Tryz.prog 34 #[.pointer (some ⟨w0.heap.size, 0, none⟩)] W fun e w' => e = .returned (.bool true) ∧ WX w0 H N w' := by
  obtain ⟨role, D, h⟩ := hX
  have hW := wereL h hN
  obtain ⟨A0, C, hwt⟩ := h.wtForm
  have hlen : (D.waits.length : Int) ≤ 4194304 := by have := h.nb; omega
  obtain ⟨L, hL⟩ : ∃ L, L = D.waits.length := ⟨_, rfl⟩
  obtain ⟨ws, hws⟩ : ∃ ws, ws = D.waits := ⟨_, rfl⟩
  obtain ⟨wt, hwtt⟩ : ∃ wt, wt = D.wt := ⟨_, rfl⟩
  have H0 := Lib.hid (show ∃ role D, WL w0 H N 0 role D W ∧ D.waits = ws ∧ D.wt = wt from ⟨role, D, h, hws.symm, hwtt.symm⟩)
  have HT : Hid (wt = .slice A0 L C) := by unfold Hid; rw [hwtt, hwt, hL]
  have HL : Hid (L = ws.length) := by unfold Hid; rw [hL, hws]
  rw [← hL] at hlen
  clear h hwt hL hws hwtt
  go_enter Tryz.func34, Tryz.ntmps34
  go_wp2_with fail
  go_at_call 62
  refine hW.mono (fun e w1 hpost => ?_)
  obtain ⟨rfl, hb1⟩ := hpost
  have H1 : Hid (∃ role D, WL w0 H N 0 role D w1 ∧ D.waits = ws ∧ D.wt = wt) := by
    obtain ⟨role, D, h, h2⟩ := H0.out
    exact ⟨role, D, h.below hb1, h2⟩
  clear hb1 H0 hW
  obtain ⟨c9, c11, c13⟩ : w1.cell? ⟨w0.heap.size, 9, none⟩ = some (.slice none 0 0) ∧ w1.cell? ⟨w0.heap.size, 11, none⟩ = some (.slice none 0 0) ∧ w1.cell? ⟨w0.heap.size, 13, none⟩ = some (.slice A0 L C) := by
    obtain ⟨role, D, h, _, h2⟩ := H1.out
    exact ⟨(h.cell 9 _ rfl).1, (h.cell 11 _ rfl).1, (h.cell 13 (.slice A0 L C) (by rw [← HT.out, ← h2]; rfl)).1⟩
  go_wp2
  go_loop [4] (fun i => i = .int .i64 0) (fun _ => 0)
  case atStart => rfl
  case round =>
    subst hrel
    go_wp2
    go_loop [5] (fun i => i = .int .i64 0) (fun _ => 0)
    case atStart => rfl
    case round =>
      subst hrel
      go_wp2
      go_loopw [6] (fun vi wr => ∃ i : Nat, vi = .int .i64 (i : Int) ∧ i ≤ L ∧ Hid (∃ role D, WL w0 H N i role D wr ∧ D.waits = ws ∧ D.wt = wt)) (fun vi _ => L - (RowKit.intOf vi).toNat)
      case atStart => exact ⟨0, rfl, Nat.zero_le _, H1⟩
      case round =>
        clear H1 c9 c11 c13
        obtain ⟨i, rfl, hi, HI⟩ := hrel
        have c13 : wr.cell? ⟨w0.heap.size, 13, none⟩ = some (.slice A0 L C) := by
          obtain ⟨role, D, h, _, h2⟩ := HI.out
          exact (h.cell 13 (.slice A0 L C) (by rw [← HT.out, ← h2]; rfl)).1
        by_cases hlt : i < L
        · obtain ⟨role, D, h, h1, h2⟩ := HI.out
          obtain ⟨x, hx⟩ : ∃ x, D.waits[i]? = some x := ⟨_, List.getElem?_eq_getElem (by rw [h1, ← HL.out]; exact hlt)⟩
          obtain ⟨g, cap, g', cap', e1, e2, e3, e4, e5, _⟩ := h.wait hx
          have hM := markL h hx hN
          rw [h2, HT.out] at e1
          injection e1 with q1 q2 q3
          subst q1
          subst q3
          obtain ⟨va, vc, hv⟩ := own_slice (h.waits i x (Nat.le_refl _) hx).own.1
          rw [hv] at e5 hM
          have HM := Lib.hid hM
          have HD := Lib.hid (And.intro h1 h2)
          have i1 : (i : Int) < (L : Int) := by omega
          have i2 : (i : Int) < (C : Int) := by omega
          generalize x.xs.length = X at *
          clear h h1 h2 hx hv e3 e4 q2 hM HI
          go_wp2_with fail
          go_at_call 65
          refine HM.out.mono (fun e w2 hpost => ?_)
          obtain ⟨rfl, role', D', h', d1, d2⟩ := hpost
          have HI' : Hid (∃ role D, WL w0 H N (i + 1) role D w2 ∧ D.waits = ws ∧ D.wt = wt) := ⟨role', D', h', d1.trans HD.out.1, d2.trans HD.out.2⟩
          clear h' d1 d2 HM HD e5
          go_wp2
          go_roundw
          case rel => exact ⟨i + 1, by go_num, by omega, HI'⟩
          case measure => simp [RowKit.intOf]; omega
        · have hii : i = L := by omega
          subst hii
          obtain ⟨role, D, h, h1, h2⟩ := HI.out
          have hl : i = D.waits.length := by rw [h1]; exact HL.out
          subst hl
          obtain ⟨d9, f9⟩ := h.cell 9 (.slice none 0 0) rfl
          obtain ⟨d10, f10⟩ := h.cell 10 (.slice none 0 0) rfl
          obtain ⟨d11, f11⟩ := h.cell 11 (.slice none 0 0) rfl
          obtain ⟨d12, f12⟩ := h.cell 12 (.slice none 0 0) rfl
          obtain ⟨d13, f13⟩ := h.cell 13 D.wt rfl
          obtain ⟨d14, f14⟩ := h.cell 14 D.we rfl
          have HF : Hid (WX w0 H N _) := ⟨role, _, h.settled⟩
          rw [h2, HT.out] at d13
          clear hlt hi h h1 h2 HI
          go_wp2
          go_ret
          exact ⟨rfl, HF.out⟩

end Go.Proofs.YtldgiecjnmkajaaGreatDoor
