/-
  OWN TEXT: lists.parseHead, lists.parseEntry.
-/
import Derived.Test.YtldgiecjnmkajaaGreatDoorListWalkE
import Derived.RegionTactic
import Derived.BigRegion
namespace Go.Proofs.YtldgiecjnmkajaaGreatDoor
open Go.RowKit

/-- lists.parseHead where the line has not two parts -/
theorem parseHead_parts (s : ByteArray) (hs : s.size ≤ 400) (w : World) (hE : Env w) (hp : (Mb.splitC 32 s.data.toList).length ≠ 2) :
    Calls Tryz.prog 315 #[.string s] w fun e w' => e = .returned (.tuple #[.agg #[.int .i64 0, .int .i64 0, .slice none 0 0], .bool false]) ∧ Below w.heap.size w w' := by
  have HE1 : ∀ o, Env (w.alloc o) := fun o => hE.below ((Below.refl _ _).alloc (Nat.le_refl _) o) (Nat.le_refl _)
  have g := fun o => split_any s 32 (by omega) (w.alloc o) (HE1 o)
  have hn : (((Mb.splitC 32 s.data.toList).length : Int) != 2) = true := by rw [bne_iff_ne]; omega
  generalize (Mb.splitC 32 s.data.toList) = L at *
  clear HE1
  go_enter Tryz.func315, Tryz.ntmps315
  go_wp2_with fail
  refine (g _).mono ?_
  rintro e' w' ⟨rfl, rfl⟩
  clear g
  go_wp2
  refine bodyPost_ret (v := .tuple #[.agg #[.int .i64 0, .int .i64 0, .slice none 0 0], .bool false]) (by simp [results, Tryz.results315, go_sem]) rfl ⟨rfl, ?_⟩
  exact ((Below.refl _ _).alloc (Nat.le_refl _) _).alloc (by simp) _

/-- the two parts as numbers -/
theorem parseHead_ok (s : ByteArray) (hs : s.size ≤ 400) (w : World) (hE : Env w) (p q : List UInt8) (hp : Mb.splitC 32 s.data.toList = [p, q]) (x y : Int) (hx : Lib.atoiAll p = .ok x) (hy : Lib.atoiAll q = .ok y) (lp : p.length ≤ 400) (lq : q.length ≤ 400) :
    Calls Tryz.prog 315 #[.string s] w fun e w' => e = .returned (.tuple #[.agg #[.int .i64 x, .int .i64 y, .slice none 0 0], .bool true]) ∧ Below w.heap.size w w' := by
  have HE1 : ∀ o, Env (w.alloc o) := fun o => hE.below ((Below.refl _ _).alloc (Nat.le_refl _) o) (Nat.le_refl _)
  have g := fun o => split_any s 32 (by omega) (w.alloc o) (HE1 o)
  rw [hp] at g
  simp only [List.length_cons, List.length_nil, List.map_cons, List.map_nil] at g
  obtain ⟨bp, Hbp, Hbp'⟩ := named_bytes p
  obtain ⟨bq, Hbq, Hbq'⟩ := named_bytes q
  rw [← Hbp.out, ← Hbq.out] at g
  have g1 := fun W => atoi_ok bp (by rw [Lib.size_eq, Hbp'.out]; omega) x (by rw [Hbp'.out]; exact hx) W
  have g2 := fun W => atoi_ok bq (by rw [Lib.size_eq, Hbq'.out]; omega) y (by rw [Hbq'.out]; exact hy) W
  clear hx hy hp HE1
  go_enter Tryz.func315, Tryz.ntmps315
  go_wp2_with fail
  refine (g _).mono ?_
  rintro e' w' ⟨rfl, rfl⟩
  clear g
  go_wp2_with fail
  refine (g1 _).mono ?_
  rintro e' w1 ⟨rfl, hb1⟩
  clear g1
  have q1 := hb1.cell (p := ⟨w.heap.size + 1, 1, none⟩) (by simp)
  have a0 := hb1.cell (p := ⟨w.heap.size, 0, none⟩) (by simp; omega)
  have a1 := hb1.cell (p := ⟨w.heap.size, 1, none⟩) (by simp; omega)
  have a2 := hb1.cell (p := ⟨w.heap.size, 2, none⟩) (by simp; omega)
  have f0 := hb1.frozen (p := ⟨w.heap.size, 0, none⟩) (by simp; omega)
  have f1 := hb1.frozen (p := ⟨w.heap.size, 1, none⟩) (by simp; omega)
  have f2 := hb1.frozen (p := ⟨w.heap.size, 2, none⟩) (by simp; omega)
  have hs1 := hb1.size
  simp at q1 a0 a1 a2 f0 f1 f2 hs1
  have hB1 := ((((Below.refl w.heap.size w).alloc (Nat.le_refl _) _).alloc (by simp) _).trans (hb1.mono (by simp; omega)))
  have HB1 : Hid (Below w.heap.size w w1) := hB1
  clear hb1 hB1
  go_wp2_with fail
  refine (g2 _).mono ?_
  rintro e' w2 ⟨rfl, hb2⟩
  clear g2
  have a0 := (hb2.cell (p := ⟨w.heap.size, 0, none⟩) (by simp; omega)).trans a0
  have a1 := (hb2.cell (p := ⟨w.heap.size, 1, none⟩) (by simp; omega)).trans a1
  have a2 := (hb2.cell (p := ⟨w.heap.size, 2, none⟩) (by simp; omega)).trans a2
  have f0 := (hb2.frozen (p := ⟨w.heap.size, 0, none⟩) (by simp; omega)).trans f0
  have f1 := (hb2.frozen (p := ⟨w.heap.size, 1, none⟩) (by simp; omega)).trans f1
  have f2 := (hb2.frozen (p := ⟨w.heap.size, 2, none⟩) (by simp; omega)).trans f2
  have hs2 := hb2.size
  have HB2 : Hid (Below w.heap.size w w2) := HB1.out.trans (hb2.mono (by omega))
  clear hb2
  go_wp2
  have b0 := World.cell?_setCell_same w2 ⟨w.heap.size, 0, none⟩ (.int .i64 x) a0
  have b1 := World.cell?_setCell_same (w2.setCell ⟨w.heap.size, 0, none⟩ (.int .i64 x)) ⟨w.heap.size, 1, none⟩ (.int .i64 y) ((World.cell?_setCell_other _ _ _ _ (by simp)).trans a1)
  have b2 := World.cell?_setCell_same ((w2.setCell ⟨w.heap.size, 0, none⟩ (.int .i64 x)).setCell ⟨w.heap.size, 1, none⟩ (.int .i64 y)) ⟨w.heap.size, 2, none⟩ (.slice none 0 0) ((World.cell?_setCell_other _ _ _ _ (by simp)).trans ((World.cell?_setCell_other _ _ _ _ (by simp)).trans a2))
  go_region
  go_wp2
  refine bodyPost_ret (v := .tuple #[.agg #[.int .i64 x, .int .i64 y, .slice none 0 0], .bool true]) (by simp [results, Tryz.results315, go_sem, b0, b1, b2]) rfl ⟨rfl, ?_⟩
  exact (((HB2.out.setCell (by simp) _).setCell (by simp) _).setCell (by simp) _).drew

theorem parseHead_ob (s : ByteArray) (hs : s.size ≤ 400) (w : World) (hE : Env w) (p q : List UInt8) (hp : Mb.splitC 32 s.data.toList = [p, q]) (x : Int) (hx : Lib.atoiAll p = .ok x) (hy : ∀ v, Lib.atoiAll q ≠ .ok v) (lp : p.length ≤ 400) (lq : q.length ≤ 400) :
    Calls Tryz.prog 315 #[.string s] w fun e w' => (∃ x y, e = .returned (.tuple #[.agg #[.int .i64 x, .int .i64 y, .slice none 0 0], .bool false])) ∧ Below w.heap.size w w' := by
  have HE1 : ∀ o, Env (w.alloc o) := fun o => hE.below ((Below.refl _ _).alloc (Nat.le_refl _) o) (Nat.le_refl _)
  have g := fun o => split_any s 32 (by omega) (w.alloc o) (HE1 o)
  rw [hp] at g
  simp only [List.length_cons, List.length_nil, List.map_cons, List.map_nil] at g
  obtain ⟨bp, Hbp, Hbp'⟩ := named_bytes p
  obtain ⟨bq, Hbq, Hbq'⟩ := named_bytes q
  rw [← Hbp.out, ← Hbq.out] at g
  have g1 := fun W => atoi_ok bp (by rw [Lib.size_eq, Hbp'.out]; omega) x (by rw [Hbp'.out]; exact hx) W
  have g2 := fun W (hW : Env W) => atoi_bad bq (by rw [Lib.size_eq, Hbq'.out]; omega) (by rw [Hbq'.out]; exact hy) W hW
  clear hx hy hp HE1
  go_enter Tryz.func315, Tryz.ntmps315
  go_wp2_with fail
  refine (g _).mono ?_
  rintro e' w' ⟨rfl, rfl⟩
  clear g
  go_wp2_with fail
  refine (g1 _).mono ?_
  rintro e' w1 ⟨rfl, hb1⟩
  clear g1
  have q1 := hb1.cell (p := ⟨w.heap.size + 1, 1, none⟩) (by simp)
  have a0 := hb1.cell (p := ⟨w.heap.size, 0, none⟩) (by simp; omega)
  have a1 := hb1.cell (p := ⟨w.heap.size, 1, none⟩) (by simp; omega)
  have a2 := hb1.cell (p := ⟨w.heap.size, 2, none⟩) (by simp; omega)
  have f0 := hb1.frozen (p := ⟨w.heap.size, 0, none⟩) (by simp; omega)
  have f1 := hb1.frozen (p := ⟨w.heap.size, 1, none⟩) (by simp; omega)
  have f2 := hb1.frozen (p := ⟨w.heap.size, 2, none⟩) (by simp; omega)
  have hs1 := hb1.size
  simp at q1 a0 a1 a2 f0 f1 f2 hs1
  have hB1 := ((((Below.refl w.heap.size w).alloc (Nat.le_refl _) _).alloc (by simp) _).trans (hb1.mono (by simp; omega)))
  have HB1 : Hid (Below w.heap.size w w1) := hB1
  clear hb1 hB1
  go_wp2_with fail
  refine (g2 _ (hE.below HB1.out (Nat.le_refl _))).mono ?_
  rintro e' w2 ⟨⟨y, N2, rfl⟩, hb2⟩
  clear g2
  have a0 := (hb2.cell (p := ⟨w.heap.size, 0, none⟩) (by simp; omega)).trans a0
  have a1 := (hb2.cell (p := ⟨w.heap.size, 1, none⟩) (by simp; omega)).trans a1
  have a2 := (hb2.cell (p := ⟨w.heap.size, 2, none⟩) (by simp; omega)).trans a2
  have f0 := (hb2.frozen (p := ⟨w.heap.size, 0, none⟩) (by simp; omega)).trans f0
  have f1 := (hb2.frozen (p := ⟨w.heap.size, 1, none⟩) (by simp; omega)).trans f1
  have f2 := (hb2.frozen (p := ⟨w.heap.size, 2, none⟩) (by simp; omega)).trans f2
  have hs2 := hb2.size
  have HB2 : Hid (Below w.heap.size w w2) := HB1.out.trans (hb2.mono (by omega))
  clear hb2
  go_wp2
  have b0 := World.cell?_setCell_same w2 ⟨w.heap.size, 0, none⟩ (.int .i64 x) a0
  have b1 := World.cell?_setCell_same (w2.setCell ⟨w.heap.size, 0, none⟩ (.int .i64 x)) ⟨w.heap.size, 1, none⟩ (.int .i64 y) ((World.cell?_setCell_other _ _ _ _ (by simp)).trans a1)
  have b2 := World.cell?_setCell_same ((w2.setCell ⟨w.heap.size, 0, none⟩ (.int .i64 x)).setCell ⟨w.heap.size, 1, none⟩ (.int .i64 y)) ⟨w.heap.size, 2, none⟩ (.slice none 0 0) ((World.cell?_setCell_other _ _ _ _ (by simp)).trans ((World.cell?_setCell_other _ _ _ _ (by simp)).trans a2))
  go_region
  go_wp2
  refine bodyPost_ret (v := .tuple #[.agg #[.int .i64 x, .int .i64 y, .slice none 0 0], .bool false]) (by simp [results, Tryz.results315, go_sem, b0, b1, b2]) rfl ⟨⟨x, y, rfl⟩, ?_⟩
  exact (((HB2.out.setCell (by simp) _).setCell (by simp) _).setCell (by simp) _).drew

theorem parseHead_bo (s : ByteArray) (hs : s.size ≤ 400) (w : World) (hE : Env w) (p q : List UInt8) (hp : Mb.splitC 32 s.data.toList = [p, q]) (hx : ∀ v, Lib.atoiAll p ≠ .ok v) (y : Int) (hy : Lib.atoiAll q = .ok y) (lp : p.length ≤ 400) (lq : q.length ≤ 400) :
    Calls Tryz.prog 315 #[.string s] w fun e w' => (∃ x y, e = .returned (.tuple #[.agg #[.int .i64 x, .int .i64 y, .slice none 0 0], .bool false])) ∧ Below w.heap.size w w' := by
  have HE1 : ∀ o, Env (w.alloc o) := fun o => hE.below ((Below.refl _ _).alloc (Nat.le_refl _) o) (Nat.le_refl _)
  have g := fun o => split_any s 32 (by omega) (w.alloc o) (HE1 o)
  rw [hp] at g
  simp only [List.length_cons, List.length_nil, List.map_cons, List.map_nil] at g
  obtain ⟨bp, Hbp, Hbp'⟩ := named_bytes p
  obtain ⟨bq, Hbq, Hbq'⟩ := named_bytes q
  rw [← Hbp.out, ← Hbq.out] at g
  have g1 := fun W (hW : Env W) => atoi_bad bp (by rw [Lib.size_eq, Hbp'.out]; omega) (by rw [Hbp'.out]; exact hx) W hW
  have g2 := fun W => atoi_ok bq (by rw [Lib.size_eq, Hbq'.out]; omega) y (by rw [Hbq'.out]; exact hy) W
  have HE2 : ∀ o o', Env ((w.alloc o).alloc o') := fun o o' => (HE1 o).below ((Below.refl _ _).alloc (Nat.le_refl _) o') (Nat.le_refl _)
  clear hx hy hp HE1
  go_enter Tryz.func315, Tryz.ntmps315
  go_wp2_with fail
  refine (g _).mono ?_
  rintro e' w' ⟨rfl, rfl⟩
  clear g
  go_wp2_with fail
  refine (g1 _ (HE2 _ _)).mono ?_
  rintro e' w1 ⟨⟨x, N1, rfl⟩, hb1⟩
  clear g1
  have q1 := hb1.cell (p := ⟨w.heap.size + 1, 1, none⟩) (by simp)
  have a0 := hb1.cell (p := ⟨w.heap.size, 0, none⟩) (by simp; omega)
  have a1 := hb1.cell (p := ⟨w.heap.size, 1, none⟩) (by simp; omega)
  have a2 := hb1.cell (p := ⟨w.heap.size, 2, none⟩) (by simp; omega)
  have f0 := hb1.frozen (p := ⟨w.heap.size, 0, none⟩) (by simp; omega)
  have f1 := hb1.frozen (p := ⟨w.heap.size, 1, none⟩) (by simp; omega)
  have f2 := hb1.frozen (p := ⟨w.heap.size, 2, none⟩) (by simp; omega)
  have hs1 := hb1.size
  simp at q1 a0 a1 a2 f0 f1 f2 hs1
  have hB1 := ((((Below.refl w.heap.size w).alloc (Nat.le_refl _) _).alloc (by simp) _).trans (hb1.mono (by simp; omega)))
  have HB1 : Hid (Below w.heap.size w w1) := hB1
  clear hb1 hB1
  go_wp2_with fail
  refine (g2 _).mono ?_
  rintro e' w2 ⟨rfl, hb2⟩
  clear g2
  have a0 := (hb2.cell (p := ⟨w.heap.size, 0, none⟩) (by simp; omega)).trans a0
  have a1 := (hb2.cell (p := ⟨w.heap.size, 1, none⟩) (by simp; omega)).trans a1
  have a2 := (hb2.cell (p := ⟨w.heap.size, 2, none⟩) (by simp; omega)).trans a2
  have f0 := (hb2.frozen (p := ⟨w.heap.size, 0, none⟩) (by simp; omega)).trans f0
  have f1 := (hb2.frozen (p := ⟨w.heap.size, 1, none⟩) (by simp; omega)).trans f1
  have f2 := (hb2.frozen (p := ⟨w.heap.size, 2, none⟩) (by simp; omega)).trans f2
  have hs2 := hb2.size
  have HB2 : Hid (Below w.heap.size w w2) := HB1.out.trans (hb2.mono (by omega))
  clear hb2
  go_wp2
  have b0 := World.cell?_setCell_same w2 ⟨w.heap.size, 0, none⟩ (.int .i64 x) a0
  have b1 := World.cell?_setCell_same (w2.setCell ⟨w.heap.size, 0, none⟩ (.int .i64 x)) ⟨w.heap.size, 1, none⟩ (.int .i64 y) ((World.cell?_setCell_other _ _ _ _ (by simp)).trans a1)
  have b2 := World.cell?_setCell_same ((w2.setCell ⟨w.heap.size, 0, none⟩ (.int .i64 x)).setCell ⟨w.heap.size, 1, none⟩ (.int .i64 y)) ⟨w.heap.size, 2, none⟩ (.slice none 0 0) ((World.cell?_setCell_other _ _ _ _ (by simp)).trans ((World.cell?_setCell_other _ _ _ _ (by simp)).trans a2))
  go_region
  go_wp2
  refine bodyPost_ret (v := .tuple #[.agg #[.int .i64 x, .int .i64 y, .slice none 0 0], .bool false]) (by simp [results, Tryz.results315, go_sem, b0, b1, b2]) rfl ⟨⟨x, y, rfl⟩, ?_⟩
  exact (((HB2.out.setCell (by simp) _).setCell (by simp) _).setCell (by simp) _).drew

theorem parseHead_bb (s : ByteArray) (hs : s.size ≤ 400) (w : World) (hE : Env w) (p q : List UInt8) (hp : Mb.splitC 32 s.data.toList = [p, q]) (hx : ∀ v, Lib.atoiAll p ≠ .ok v) (hy : ∀ v, Lib.atoiAll q ≠ .ok v) (lp : p.length ≤ 400) (lq : q.length ≤ 400) :
    Calls Tryz.prog 315 #[.string s] w fun e w' => (∃ x y, e = .returned (.tuple #[.agg #[.int .i64 x, .int .i64 y, .slice none 0 0], .bool false])) ∧ Below w.heap.size w w' := by
  have HE1 : ∀ o, Env (w.alloc o) := fun o => hE.below ((Below.refl _ _).alloc (Nat.le_refl _) o) (Nat.le_refl _)
  have g := fun o => split_any s 32 (by omega) (w.alloc o) (HE1 o)
  rw [hp] at g
  simp only [List.length_cons, List.length_nil, List.map_cons, List.map_nil] at g
  obtain ⟨bp, Hbp, Hbp'⟩ := named_bytes p
  obtain ⟨bq, Hbq, Hbq'⟩ := named_bytes q
  rw [← Hbp.out, ← Hbq.out] at g
  have g1 := fun W (hW : Env W) => atoi_bad bp (by rw [Lib.size_eq, Hbp'.out]; omega) (by rw [Hbp'.out]; exact hx) W hW
  have g2 := fun W (hW : Env W) => atoi_bad bq (by rw [Lib.size_eq, Hbq'.out]; omega) (by rw [Hbq'.out]; exact hy) W hW
  have HE2 : ∀ o o', Env ((w.alloc o).alloc o') := fun o o' => (HE1 o).below ((Below.refl _ _).alloc (Nat.le_refl _) o') (Nat.le_refl _)
  clear hx hy hp HE1
  go_enter Tryz.func315, Tryz.ntmps315
  go_wp2_with fail
  refine (g _).mono ?_
  rintro e' w' ⟨rfl, rfl⟩
  clear g
  go_wp2_with fail
  refine (g1 _ (HE2 _ _)).mono ?_
  rintro e' w1 ⟨⟨x, N1, rfl⟩, hb1⟩
  clear g1
  have q1 := hb1.cell (p := ⟨w.heap.size + 1, 1, none⟩) (by simp)
  have a0 := hb1.cell (p := ⟨w.heap.size, 0, none⟩) (by simp; omega)
  have a1 := hb1.cell (p := ⟨w.heap.size, 1, none⟩) (by simp; omega)
  have a2 := hb1.cell (p := ⟨w.heap.size, 2, none⟩) (by simp; omega)
  have f0 := hb1.frozen (p := ⟨w.heap.size, 0, none⟩) (by simp; omega)
  have f1 := hb1.frozen (p := ⟨w.heap.size, 1, none⟩) (by simp; omega)
  have f2 := hb1.frozen (p := ⟨w.heap.size, 2, none⟩) (by simp; omega)
  have hs1 := hb1.size
  simp at q1 a0 a1 a2 f0 f1 f2 hs1
  have hB1 := ((((Below.refl w.heap.size w).alloc (Nat.le_refl _) _).alloc (by simp) _).trans (hb1.mono (by simp; omega)))
  have HB1 : Hid (Below w.heap.size w w1) := hB1
  clear hb1 hB1
  go_wp2_with fail
  refine (g2 _ (hE.below HB1.out (Nat.le_refl _))).mono ?_
  rintro e' w2 ⟨⟨y, N2, rfl⟩, hb2⟩
  clear g2
  have a0 := (hb2.cell (p := ⟨w.heap.size, 0, none⟩) (by simp; omega)).trans a0
  have a1 := (hb2.cell (p := ⟨w.heap.size, 1, none⟩) (by simp; omega)).trans a1
  have a2 := (hb2.cell (p := ⟨w.heap.size, 2, none⟩) (by simp; omega)).trans a2
  have f0 := (hb2.frozen (p := ⟨w.heap.size, 0, none⟩) (by simp; omega)).trans f0
  have f1 := (hb2.frozen (p := ⟨w.heap.size, 1, none⟩) (by simp; omega)).trans f1
  have f2 := (hb2.frozen (p := ⟨w.heap.size, 2, none⟩) (by simp; omega)).trans f2
  have hs2 := hb2.size
  have HB2 : Hid (Below w.heap.size w w2) := HB1.out.trans (hb2.mono (by omega))
  clear hb2
  go_wp2
  have b0 := World.cell?_setCell_same w2 ⟨w.heap.size, 0, none⟩ (.int .i64 x) a0
  have b1 := World.cell?_setCell_same (w2.setCell ⟨w.heap.size, 0, none⟩ (.int .i64 x)) ⟨w.heap.size, 1, none⟩ (.int .i64 y) ((World.cell?_setCell_other _ _ _ _ (by simp)).trans a1)
  have b2 := World.cell?_setCell_same ((w2.setCell ⟨w.heap.size, 0, none⟩ (.int .i64 x)).setCell ⟨w.heap.size, 1, none⟩ (.int .i64 y)) ⟨w.heap.size, 2, none⟩ (.slice none 0 0) ((World.cell?_setCell_other _ _ _ _ (by simp)).trans ((World.cell?_setCell_other _ _ _ _ (by simp)).trans a2))
  go_region
  go_wp2
  refine bodyPost_ret (v := .tuple #[.agg #[.int .i64 x, .int .i64 y, .slice none 0 0], .bool false]) (by simp [results, Tryz.results315, go_sem, b0, b1, b2]) rfl ⟨⟨x, y, rfl⟩, ?_⟩
  exact (((HB2.out.setCell (by simp) _).setCell (by simp) _).setCell (by simp) _).drew

theorem splitC_len (c : UInt8) : ∀ (l : List UInt8), ∀ p ∈ Mb.splitC c l, p.length ≤ l.length
  | [], p, hp => by simp [Mb.splitC] at hp; subst hp; simp
  | b :: r, p, hp => by
    have ih := splitC_len c r
    unfold Mb.splitC at hp
    split at hp
    · rw [List.mem_cons] at hp
      rcases hp with rfl | hp
      · simp
      · have := ih p hp; simp only [List.length_cons]; omega
    · split at hp
      · rw [List.mem_singleton] at hp; subst hp; simp
      · rename_i h t he
        rw [List.mem_cons] at hp
        rcases hp with rfl | hp
        · have := ih h (by rw [he]; simp); simp only [List.length_cons]; omega
        · have := ih p (by rw [he]; simp [hp]); simp only [List.length_cons]; omega

theorem ok_or (E : Lib.NumEnd Int) : (∃ v, E = .ok v) ∨ ∀ v, E ≠ .ok v := by
  cases E with
  | ok v => exact Or.inl ⟨v, rfl⟩
  | _ => exact Or.inr (fun v h => by cases h)

/-- lists.parseHead -/
theorem parseHead_some (s : ByteArray) (hs : s.size ≤ 400) (w : World) (hE : Env w) (x y : Int) (h : Mb.parseHeadL s.data.toList = some (x, y)) :
    Calls Tryz.prog 315 #[.string s] w fun e w' => e = .returned (.tuple #[.agg #[.int .i64 x, .int .i64 y, .slice none 0 0], .bool true]) ∧ Below w.heap.size w w' := by
  have hl : s.data.toList.length ≤ 400 := by rw [← Lib.size_eq]; exact hs
  have hlen := splitC_len 32 s.data.toList
  unfold Mb.parseHeadL at h
  split at h
  · rename_i p q hp
    have lp := hlen p (by rw [hp]; simp)
    have lq := hlen q (by rw [hp]; simp)
    split at h
    · rename_i x' y' hx hy
      cases h
      exact parseHead_ok s hs w hE p q hp x y hx hy (by omega) (by omega)
    · cases h
  · cases h

theorem parseHead_none (s : ByteArray) (hs : s.size ≤ 400) (w : World) (hE : Env w) (h : Mb.parseHeadL s.data.toList = none) :
    Calls Tryz.prog 315 #[.string s] w fun e w' => (∃ x y, e = .returned (.tuple #[.agg #[.int .i64 x, .int .i64 y, .slice none 0 0], .bool false])) ∧ Below w.heap.size w w' := by
  have hl : s.data.toList.length ≤ 400 := by rw [← Lib.size_eq]; exact hs
  have hlen := splitC_len 32 s.data.toList
  by_cases h2 : (Mb.splitC 32 s.data.toList).length = 2
  · obtain ⟨p, q, hp⟩ : ∃ p q, Mb.splitC 32 s.data.toList = [p, q] := by
      match hL : Mb.splitC 32 s.data.toList, h2 with
      | [p, q], _ => exact ⟨p, q, rfl⟩
    have lp := hlen p (by rw [hp]; simp)
    have lq := hlen q (by rw [hp]; simp)
    rcases ok_or (Lib.atoiAll p) with ⟨x, hx⟩ | hx
    · rcases ok_or (Lib.atoiAll q) with ⟨y, hy⟩ | hy
      · unfold Mb.parseHeadL at h
        rw [hp] at h
        simp only [hx, hy] at h
        cases h
      · exact parseHead_ob s hs w hE p q hp x hx hy (by omega) (by omega)
    · rcases ok_or (Lib.atoiAll q) with ⟨y, hy⟩ | hy
      · exact parseHead_bo s hs w hE p q hp hx y hy (by omega) (by omega)
      · exact parseHead_bb s hs w hE p q hp hx hy (by omega) (by omega)
  · exact (parseHead_parts s hs w hE h2).mono fun e w' ⟨he, hb⟩ => ⟨⟨0, 0, he⟩, hb⟩

end Go.Proofs.YtldgiecjnmkajaaGreatDoor
