/-
  OWN TEXT: looksEntries, looks and were, of the script's World.
  OWN TEXT: looks and were, of the script's World.
-/
import Derived.Test.YtldgiecjnmkajaaGreatDoorLookA
import Derived.Test.YtldgiecjnmkajaaGreatDoorRoleM
namespace Go.Proofs.YtldgiecjnmkajaaGreatDoor
open Go.RowKit Go.Lib

theorem bookCells_get : ∀ (bs : List Book) (i j : Nat) (b : Book), bs[i]? = some b → j < 7 → (bs.flatMap Book.cells)[i * 7 + j]? = b.cells[j]?
  | b' :: r, 0, j, b, h, hj => by
    cases h
    rw [List.flatMap_cons, Nat.zero_mul, Nat.zero_add, List.getElem?_append_left (by simpa [Book.cells] using hj)]
  | b' :: r, i + 1, j, b, h, hj => by
    rw [List.getElem?_cons_succ] at h
    have := bookCells_get r i j b h hj
    rw [List.flatMap_cons, List.getElem?_append_right (by simp [Book.cells]; omega), ← this]
    congr 1
    simp [Book.cells]
    omega

theorem WL.book {w0 W : World} {H : Obj} {N d : Nat} {role : Nat → Nat} {D : Wd} (h : WL w0 H N d role D W) {i : Nat} {b : Book} (hb : D.books[i]? = some b) : ∃ g cap, D.bk = .slice (some ⟨g, 0, none⟩) D.books.length cap ∧ g < W.heap.size ∧ D.books.length ≤ cap ∧ (∀ j x, j < 7 → b.cells[j]? = some x → W.cell? ⟨g, i * 7 + j, none⟩ = some x) := by
  rcases h.ob.1.2 with ⟨_, e⟩ | ⟨g, cap, cur, e1, e2, e3, e4, _⟩
  · rw [List.eq_nil_of_length_eq_zero e] at hb
    simp at hb
  · have hg : D.bk.ownBlock = some g := by rw [e1]; rfl
    refine ⟨g, cap, e1, (h.ob.1.lt g hg).2, e4, fun j x hj hx => ?_⟩
    have := h.ob.1.cells hg (i * 7 + j) x (by rw [bookCells_get D.books i j b hb hj]; exact hx)
    rw [Lib.add_plain, Nat.zero_add] at this
    exact this

/-- a marked list is looked at -/
theorem cold_all {role : Nat → Nat} {W : World} {v : Value} {n k : Nat} (h : ColdE role W v (List.replicate n (markE k))) : ∃ a cap, v = .slice a n cap ∧ ∀ W', Below W.heap.size W W' → Calls Tryz.prog 124 #[.slice a n cap, .agg #[.int .i64 (-(k : Int)), .int .i64 0, .string ⟨#[109, 97, 114, 107]⟩]] W' fun r w' => r = .returned (.bool true) ∧ Below W'.heap.size W' w' := by
  obtain ⟨a, cap, h1, h2, h3, h4⟩ := h.slAt
  rw [List.length_replicate] at h1 h2 h3
  refine ⟨a, cap, h1, fun W' hb => ?_⟩
  have := allE_any a cap (markE k) _ W' (h4.below hb (Nat.le_refl _)) (fun x hx => (List.mem_replicate.1 hx).2) (by rw [List.length_replicate]; unfold maxLen; omega)
  rw [List.length_replicate] at this
  exact this

set_option maxHeartbeats 4000000 in
set_option maxRecDepth 100000 in
theorem looksE {w0 W : World} {H : Obj} {N d : Nat} {role : Nat → Nat} {D : Wd} (h : WL w0 H N d role D W) (hN : N ≤ 2097152) :
    Calls Tryz.prog 68 #[.pointer (some ⟨w0.heap.size, 0, none⟩)] W fun e w' => e = .returned (.bool true) ∧ Below W.heap.size W w' := by
  have hs := h.size
  have hlen : (D.books.length : Int) ≤ 4194304 := by have := h.nb; omega
  obtain ⟨L, C, A0, hbk⟩ : ∃ L C A0, D.bk = .slice A0 L C ∧ L = D.books.length := by
    rcases h.ob.1.2 with ⟨e, e2⟩ | ⟨g, cap, cur, e1, _⟩
    · exact ⟨0, 0, none, e, e2.symm⟩
    · exact ⟨_, _, _, e1, rfl⟩
  obtain ⟨hbk, hL⟩ := hbk
  have c8 := (h.cell 8 D.bk rfl).1
  rw [hbk] at c8
  have HW := Lib.hid h
  have HL := Lib.hid hL
  have HK := Lib.hid hbk
  clear h hbk
  rw [← hL] at hlen
  clear hL
  go_enter Tryz.func68, Tryz.ntmps68
  go_wp2
  go_loopw [3] (fun vi wr => ∃ i : Nat, vi = .int .i64 (i : Int) ∧ i ≤ L ∧ Hid (Below W.heap.size W wr)) (fun vi _ => L - (RowKit.intOf vi).toNat)
  case atStart => exact ⟨0, rfl, Nat.zero_le _, Below.refl _ _⟩
  case round =>
    obtain ⟨i, rfl, hi, HB⟩ := hrel
    have hz := HB.out.size
    have d8 := (HB.out.cell (p := ⟨w0.heap.size, 8, none⟩) (by simp; omega)).trans c8
    by_cases hlt : i < L
    · obtain ⟨b, hb⟩ : ∃ b, D.books[i]? = some b := ⟨_, List.getElem?_eq_getElem (by rw [← HL.out]; exact hlt)⟩
      obtain ⟨g, cap, e1, e2, e3, e4⟩ := HW.out.book hb
      have hok := HW.out.books b (List.mem_of_getElem? hb)
      obtain ⟨m, l, g1, g2, g3, n⟩ := b
      have ok1 : ColdE role W l (List.replicate n (markE m)) := hok.l
      have ok2 : ColdE role W g1 (List.replicate (n + 1) (markE m)) := hok.g1
      have ok3 : ColdE role W g2 (List.replicate (n + 2) (markE m)) := hok.g2
      have ok4 : ColdE role W g3 (List.replicate (n + 3) (markE m)) := hok.g3
      clear hok
      obtain ⟨a1, p1, rfl, k1⟩ := cold_all ok1
      obtain ⟨a2, p2, rfl, k2⟩ := cold_all ok2
      obtain ⟨a3, p3, rfl, k3⟩ := cold_all ok3
      obtain ⟨a4, p4, rfl, k4⟩ := cold_all ok4
      have eK := HK.out
      rw [e1] at eK
      injection eK with eK1 eK2 eK3
      subst eK1
      subst eK3
      have r0 := (HB.out.cell (p := ⟨g, i * 7 + 0, none⟩) e2).trans (e4 0 _ (by omega) rfl)
      have r1 := (HB.out.cell (p := ⟨g, i * 7 + 1, none⟩) e2).trans (e4 1 _ (by omega) rfl)
      have r2 := (HB.out.cell (p := ⟨g, i * 7 + 2, none⟩) e2).trans (e4 2 _ (by omega) rfl)
      have r3 := (HB.out.cell (p := ⟨g, i * 7 + 3, none⟩) e2).trans (e4 3 _ (by omega) rfl)
      have r4 := (HB.out.cell (p := ⟨g, i * 7 + 4, none⟩) e2).trans (e4 4 _ (by omega) rfl)
      have r5 := (HB.out.cell (p := ⟨g, i * 7 + 5, none⟩) e2).trans (e4 5 _ (by omega) rfl)
      have r6 := (HB.out.cell (p := ⟨g, i * 7 + 6, none⟩) e2).trans (e4 6 _ (by omega) rfl)
      rw [Nat.add_zero] at r0
      have i1 : (i : Int) < (L : Int) := by omega
      have i2 : (i : Int) < (cap : Int) := by rw [HL.out] at hlt; omega
      have K1 := Lib.hid k1
      have K2 := Lib.hid k2
      have K3 := Lib.hid k3
      have K4 := Lib.hid k4
      clear k1 k2 k3 k4 ok1 ok2 ok3 ok4 hb e4 e1 eK2
      go_wp2_with fail
      go_at_call 124
      have B0 : Below wr.heap.size wr (wr.alloc (.cells #[.int .i64 (-(m : Int)), .int .i64 0, .string ⟨#[109, 97, 114, 107]⟩, .slice a1 n p1, .slice a2 (n + 1) p2, .slice a3 (n + 2) p3, .slice a4 (n + 3) p4] 245)) := (Below.refl _ _).alloc (Nat.le_refl _) _
      refine (K1.out _ (HB.out.trans (B0.mono (by omega)))).mono (fun e w1 hpost => ?_)
      obtain ⟨rfl, hb1⟩ := hpost
      have hz1 := hb1.size
      simp at hz1
      have s0 := (hb1.cell (p := ⟨wr.heap.size, 0, none⟩) (by simp)).trans (World.cell?_alloc_new (w := wr) ..)
      have s1 := (hb1.cell (p := ⟨wr.heap.size, 1, none⟩) (by simp)).trans (World.cell?_alloc_new (w := wr) ..)
      have s2 := (hb1.cell (p := ⟨wr.heap.size, 2, none⟩) (by simp)).trans (World.cell?_alloc_new (w := wr) ..)
      have s4 := (hb1.cell (p := ⟨wr.heap.size, 4, none⟩) (by simp)).trans (World.cell?_alloc_new (w := wr) ..)
      have s5 := (hb1.cell (p := ⟨wr.heap.size, 5, none⟩) (by simp)).trans (World.cell?_alloc_new (w := wr) ..)
      have s6 := (hb1.cell (p := ⟨wr.heap.size, 6, none⟩) (by simp)).trans (World.cell?_alloc_new (w := wr) ..)
      simp at s0 s1 s2 s4 s5 s6
      have B1 := Lib.hid (HB.out.trans ((B0.trans (hb1.mono (by simp))).mono (by omega)))
      clear hb1 B0 r0 r1 r2 r3 r4 r5 r6 d8
      go_wp2_with fail
      go_at_call 124
      refine (K2.out _ B1.out).mono (fun e w2 hpost => ?_)
      obtain ⟨rfl, hb2⟩ := hpost
      have hz2 := hb2.size
      replace s0 := (hb2.cell (p := ⟨wr.heap.size, 0, none⟩) (by simp; omega)).trans s0
      replace s1 := (hb2.cell (p := ⟨wr.heap.size, 1, none⟩) (by simp; omega)).trans s1
      replace s2 := (hb2.cell (p := ⟨wr.heap.size, 2, none⟩) (by simp; omega)).trans s2
      replace s5 := (hb2.cell (p := ⟨wr.heap.size, 5, none⟩) (by simp; omega)).trans s5
      replace s6 := (hb2.cell (p := ⟨wr.heap.size, 6, none⟩) (by simp; omega)).trans s6
      have B2 := Lib.hid (B1.out.trans (hb2.mono (by omega)))
      clear hb2 s4 B1
      go_wp2_with fail
      go_at_call 124
      refine (K3.out _ B2.out).mono (fun e w3 hpost => ?_)
      obtain ⟨rfl, hb3⟩ := hpost
      have hz3 := hb3.size
      replace s0 := (hb3.cell (p := ⟨wr.heap.size, 0, none⟩) (by simp; omega)).trans s0
      replace s1 := (hb3.cell (p := ⟨wr.heap.size, 1, none⟩) (by simp; omega)).trans s1
      replace s2 := (hb3.cell (p := ⟨wr.heap.size, 2, none⟩) (by simp; omega)).trans s2
      replace s6 := (hb3.cell (p := ⟨wr.heap.size, 6, none⟩) (by simp; omega)).trans s6
      have B3 := Lib.hid (B2.out.trans (hb3.mono (by omega)))
      clear hb3 s5 B2
      go_wp2_with fail
      go_at_call 124
      refine (K4.out _ B3.out).mono (fun e w4 hpost => ?_)
      obtain ⟨rfl, hb4⟩ := hpost
      have B4 := Lib.hid (B3.out.trans (hb4.mono (by omega)))
      clear hb4 B3 s0 s1 s2 s6 K1 K2 K3 K4
      go_wp2
      go_roundw
      case rel => exact ⟨i + 1, by go_num, by omega, B4⟩
      case measure => simp [RowKit.intOf]; omega
    · have hii : i = L := by omega
      subst hii
      clear hlt hi
      go_wp2
      go_ret
      exact ⟨rfl, HB.out⟩

end Go.Proofs.YtldgiecjnmkajaaGreatDoor
namespace Go.Proofs.YtldgiecjnmkajaaGreatDoor
open Go.RowKit Go.Lib

set_option maxRecDepth 100000 in
theorem looksActsG (K : Nat) (W : World) (c6 : W.cell? ⟨K, 6, none⟩ = some (.slice none 0 0)) :
    Calls Tryz.prog 66 #[.pointer (some ⟨K, 0, none⟩)] W fun e w' => e = .returned (.bool true) ∧ w' = W := by
  go_enter Tryz.func66, Tryz.ntmps66
  go_wp2
  go_loop [3] (fun i => i = .int .i64 0) (fun _ => 0)
  case atStart => rfl
  case round =>
    subst hrel
    go_wp2
    go_ret
    exact ⟨rfl, rfl⟩
set_option maxRecDepth 100000 in
theorem looksFilesG (K : Nat) (W : World) (c7 : W.cell? ⟨K, 7, none⟩ = some (.slice none 0 0)) :
    Calls Tryz.prog 67 #[.pointer (some ⟨K, 0, none⟩)] W fun e w' => e = .returned (.bool true) ∧ w' = W := by
  go_enter Tryz.func67, Tryz.ntmps67
  go_wp2
  go_loop [3] (fun i => i = .int .i64 0) (fun _ => 0)
  case atStart => rfl
  case round =>
    subst hrel
    go_wp2
    go_ret
    exact ⟨rfl, rfl⟩

set_option maxRecDepth 100000 in
theorem looksL {w0 W : World} {H : Obj} {N d : Nat} {role : Nat → Nat} {D : Wd} (h : WL w0 H N d role D W) (hN : N ≤ 2097152) :
    Calls Tryz.prog 35 #[.pointer (some ⟨w0.heap.size, 0, none⟩)] W fun e w' => e = .returned (.bool true) ∧ Below W.heap.size W w' := by
  have h1 := looksActsG w0.heap.size W (h.cell 6 (.slice none 0 0) rfl).1
  have h2 := looksFilesG w0.heap.size W (h.cell 7 (.slice none 0 0) rfl).1
  have h3 := looksE h hN
  clear h
  go_enter Tryz.func35, Tryz.ntmps35
  go_wp2_with fail
  go_at_call 66
  refine h1.mono (fun e w1 hpost => ?_)
  obtain ⟨rfl, hw1⟩ := hpost
  subst w1
  go_wp2_with fail
  go_at_call 67
  refine h2.mono (fun e w1 hpost => ?_)
  obtain ⟨rfl, hw1⟩ := hpost
  subst w1
  go_wp2_with fail
  go_at_call 68
  refine h3.mono (fun e w1 hpost => ?_)
  obtain ⟨rfl, hw1⟩ := hpost
  go_wp2
  go_ret
  exact ⟨rfl, hw1⟩

theorem WL.wait {w0 W : World} {H : Obj} {N d : Nat} {role : Nat → Nat} {D : Wd} (h : WL w0 H N d role D W) {i : Nat} {x : Wait} (hx : D.waits[i]? = some x) : ∃ g cap g' cap', D.wt = .slice (some ⟨g, 0, none⟩) D.waits.length cap ∧ g < W.heap.size ∧ role g = 5 ∧ D.waits.length ≤ cap ∧ W.cell? ⟨g, i, none⟩ = some x.val ∧ D.we = .slice (some ⟨g', 0, none⟩) D.waits.length cap' ∧ g' < W.heap.size ∧ D.waits.length ≤ cap' ∧ W.cell? ⟨g', i, none⟩ = some x.was := by
  have hne : D.waits.length ≠ 0 := fun e => by
    rw [List.eq_nil_of_length_eq_zero e] at hx
    simp at hx
  rcases h.ow.1.2 with ⟨_, e⟩ | ⟨g, cap, cur, e1, e2, e3, e4, _⟩
  · exact absurd e hne
  · rcases h.oe.1.2 with ⟨_, e⟩ | ⟨g', cap', cur', e1', e2', e3', e4', _⟩
    · exact absurd e hne
    · have hg : D.wt.ownBlock = some g := by rw [e1]; rfl
      have hg' : D.we.ownBlock = some g' := by rw [e1']; rfl
      have q := h.ow.1.cells hg i x.val (by rw [List.getElem?_map, hx]; rfl)
      have q' := h.oe.1.cells hg' i x.was (by rw [List.getElem?_map, hx]; rfl)
      rw [Lib.add_plain, Nat.zero_add] at q q'
      exact ⟨g, cap, g', cap', e1, (h.ow.1.lt g hg).2, h.ow.2 g hg, e4, q, e1', (h.oe.1.lt g' hg').2, e4', q'⟩

theorem WL.wtForm {w0 W : World} {H : Obj} {N d : Nat} {role : Nat → Nat} {D : Wd} (h : WL w0 H N d role D W) : ∃ a c, D.wt = .slice a D.waits.length c := by
  rcases h.ow.1.2 with ⟨e, e2⟩ | ⟨g, cap, cur, e1, _⟩
  · exact ⟨none, 0, by rw [e, e2]⟩
  · exact ⟨_, _, e1⟩

/-- a list that waits is as it was -/
theorem wait_same {role : Nat → Nat} {i B : Nat} {W : World} {x : Wait} (h : x.Ok role i B W) : ∃ a c a' c', x.val = .slice a x.xs.length c ∧ x.was = .slice a' x.xs.length c' ∧ ∀ W', Below W.heap.size W W' → Calls Tryz.prog 114 #[.slice a x.xs.length c, .slice a' x.xs.length c'] W' fun r w' => r = .returned (.bool true) ∧ Below W'.heap.size W' w' := by
  obtain ⟨a', c', h1, h2, h3, h4⟩ := h.was.slAt
  obtain ⟨a, c, e⟩ : ∃ a c, x.val = .slice a x.xs.length c := by
    rcases h.own.1.2 with ⟨e, e2⟩ | ⟨g, cap, cur, e1, _⟩
    · exact ⟨none, 0, by rw [e, e2]⟩
    · exact ⟨_, _, e1⟩
  refine ⟨a, c, a', c', e, h1, fun W' hb => ?_⟩
  have ho := h.own.1
  rw [e] at ho
  obtain ⟨q1, q2, _⟩ := slAt_of_owns ho rfl
  have := h.len
  exact sameE_any a a' c c' x.xs W' (q1.below hb (Nat.le_refl _)) (h4.below hb (Nat.le_refl _)) (by unfold maxLen; omega)

set_option maxHeartbeats 4000000 in
set_option maxRecDepth 100000 in
theorem wereL {w0 W : World} {H : Obj} {N : Nat} {role : Nat → Nat} {D : Wd} (h : WL w0 H N 0 role D W) (hN : N ≤ 2097152) :
    Calls Tryz.prog 62 #[.pointer (some ⟨w0.heap.size, 0, none⟩)] W fun e w' => e = .returned (.bool true) ∧ Below W.heap.size W w' := by
  have hs := h.size
  have hlen : (D.waits.length : Int) ≤ 4194304 := by have := h.nb; omega
  obtain ⟨A0, C, hwt⟩ := h.wtForm
  have c9 := (h.cell 9 (.slice none 0 0) rfl).1
  have c11 := (h.cell 11 (.slice none 0 0) rfl).1
  have c13 := (h.cell 13 D.wt rfl).1
  have c14 := (h.cell 14 D.we rfl).1
  rw [hwt] at c13
  obtain ⟨L, hL⟩ : ∃ L, L = D.waits.length := ⟨_, rfl⟩
  rw [← hL] at hlen c13
  have HW := Lib.hid h
  have HL := Lib.hid hL
  have HK := Lib.hid hwt
  clear h hwt hL
  go_enter Tryz.func62, Tryz.ntmps62
  go_wp2
  go_loop [3] (fun i => i = .int .i64 0) (fun _ => 0)
  case atStart => rfl
  case round =>
    subst hrel
    go_wp2
    go_loop [5] (fun i => i = .int .i64 0) (fun _ => 0)
    case atStart => rfl
    case round =>
      subst hrel
      go_wp2
      go_loopw [7] (fun vi wr => ∃ i : Nat, vi = .int .i64 (i : Int) ∧ i ≤ L ∧ Hid (Below W.heap.size W wr)) (fun vi _ => L - (RowKit.intOf vi).toNat)
      case atStart => exact ⟨0, rfl, Nat.zero_le _, Below.refl _ _⟩
      case round =>
        obtain ⟨i, rfl, hi, HB⟩ := hrel
        have hz := HB.out.size
        have d13 := (HB.out.cell (p := ⟨w0.heap.size, 13, none⟩) (by simp; omega)).trans c13
        by_cases hlt : i < L
        · obtain ⟨x, hx⟩ : ∃ x, D.waits[i]? = some x := ⟨_, List.getElem?_eq_getElem (by rw [← HL.out]; exact hlt)⟩
          obtain ⟨g, cap, g', cap', e1, e2, e3, e4, e5, e6, e7, e8, e9⟩ := HW.out.wait hx
          obtain ⟨a, c, a', c', v1, v2, k1⟩ := wait_same (HW.out.waits i x (Nat.zero_le _) hx)
          rw [v1] at e5
          rw [v2] at e9
          rw [e6, ← HL.out] at c14
          have eK := HK.out
          rw [e1] at eK
          injection eK with eK1 eK2 eK3
          subst eK1
          subst eK3
          have Z0 : ∀ z : Later wr.heap.size wr, Below W.heap.size W z.w := fun z => HB.out.trans (z.h.mono hz)
          have hNE := Later.some wr.heap.size wr
          have z13 : ∀ z : Later wr.heap.size wr, z.w.cell? ⟨w0.heap.size, 13, none⟩ = some (.slice (some ⟨g, 0, none⟩) L cap) := fun z => ((Z0 z).cell (p := ⟨w0.heap.size, 13, none⟩) (by simp; omega)).trans c13
          have z14 : ∀ z : Later wr.heap.size wr, z.w.cell? ⟨w0.heap.size, 14, none⟩ = some (.slice (some ⟨g', 0, none⟩) L cap') := fun z => ((Z0 z).cell (p := ⟨w0.heap.size, 14, none⟩) (by simp; omega)).trans c14
          have zg : ∀ z : Later wr.heap.size wr, z.w.cell? ⟨g, i, none⟩ = some (.slice a x.xs.length c) := fun z => ((Z0 z).cell (p := ⟨g, i, none⟩) e2).trans e5
          have zg' : ∀ z : Later wr.heap.size wr, z.w.cell? ⟨g', i, none⟩ = some (.slice a' x.xs.length c') := fun z => ((Z0 z).cell (p := ⟨g', i, none⟩) e7).trans e9
          have kz : ∀ z : Later wr.heap.size wr, Calls Tryz.prog 114 #[.slice a x.xs.length c, .slice a' x.xs.length c'] z.w fun r w' => r = .returned (.bool true) ∧ Below z.w.heap.size z.w w' := fun z => k1 _ (Z0 z)
          have HZ := Lib.hid Z0
          have i1 : (i : Int) < (L : Int) := by omega
          have i0 : (0 : Int) ≤ (i : Int) := by omega
          have i2 : (i : Int) < (cap : Int) := by rw [HL.out] at hlt; omega
          have i3 : (i : Int) < (cap' : Int) := by rw [HL.out] at hlt; omega
          generalize x.xs.length = X at *
          clear Z0 k1 v1 v2 e1 e5 e6 e9 eK2 hx c13 c14
          go_upto_region 18 with fail
          refine wp_region_later wr.heap.size (by kernel_rfl) (by kernel_rfl) ?_
          repeat (go_big_quiet_step ((go_at_call 114; exact Later.calls _ (Nat.le_refl _) (kz _))))
          refine wpQuiet_nil ?_
          intro _ hw'
          obtain ⟨z, rfl⟩ := hw'
          have HF := Lib.hid (HZ.out z)
          clear kz HZ
          go_wp2
          go_roundw
          case rel => exact ⟨i + 1, by go_num, by omega, HF⟩
          case measure => simp [RowKit.intOf]; omega
        · have hii : i = L := by omega
          subst hii
          clear hlt hi
          go_wp2
          go_ret
          exact ⟨rfl, HB.out⟩

end Go.Proofs.YtldgiecjnmkajaaGreatDoor
