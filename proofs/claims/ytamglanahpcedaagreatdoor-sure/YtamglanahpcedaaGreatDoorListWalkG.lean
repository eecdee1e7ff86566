/-
  OWN TEXT: lists.parseEntry.
-/
import Derived.Test.YtamglanahpcedaaGreatDoorListEF
import Derived.Deep.RegionWith
namespace Go.Proofs.YtamglanahpcedaaGreatDoor
open Go.RowKit

/-- lists.parseEntry where the line has not three parts -/
theorem parseEntry_parts (s : ByteArray) (hs : s.size ≤ 400) (w : World) (hE : Env w) (hp : (Mb.splitC 32 s.data.toList).length ≠ 3) :
    Calls Tryz.prog 174 #[.string s] w fun e w' => e = .returned (.tuple #[.agg #[.int .i64 0, .int .i64 0, .string ⟨#[]⟩], .bool false]) ∧ Below w.heap.size w w' := by
  have HE1 : ∀ o, Env (w.alloc o) := fun o => hE.below ((Below.refl _ _).alloc (Nat.le_refl _) o) (Nat.le_refl _)
  have g := fun o => split_any s 32 (by omega) (w.alloc o) (HE1 o)
  have hn : (((Mb.splitC 32 s.data.toList).length : Int) != 3) = true := by rw [bne_iff_ne]; omega
  generalize (Mb.splitC 32 s.data.toList) = L at *
  clear HE1
  go_enter Tryz.func174, Tryz.ntmps174
  go_wp2_with fail
  refine (g _).mono ?_
  rintro e' w' ⟨rfl, rfl⟩
  clear g
  go_wp2
  refine bodyPost_ret (v := .tuple #[.agg #[.int .i64 0, .int .i64 0, .string ⟨#[]⟩], .bool false]) (by simp [results, Tryz.results174, go_sem]) rfl ⟨rfl, ?_⟩
  exact ((Below.refl _ _).alloc (Nat.le_refl _) _).alloc (by simp) _

/-- the two parts as numbers -/
theorem parseEntry_ok (s : ByteArray) (hs : s.size ≤ 400) (w : World) (hE : Env w) (p q r : List UInt8) (hp : Mb.splitC 32 s.data.toList = [p, q, r]) (x y : Int) (hx : Lib.atoiAll p = .ok x) (hy : Lib.atoiAll q = .ok y) (lp : p.length ≤ 400) (lq : q.length ≤ 400) (lr : r.length ≤ 400) :
    Calls Tryz.prog 174 #[.string s] w fun e w' => e = .returned (.tuple #[.agg #[.int .i64 x, .int .i64 y, .string ⟨(Mb.meant r).toArray⟩], .bool true]) ∧ Below w.heap.size w w' := by
  have HE1 : ∀ o, Env (w.alloc o) := fun o => hE.below ((Below.refl _ _).alloc (Nat.le_refl _) o) (Nat.le_refl _)
  have g := fun o => split_any s 32 (by omega) (w.alloc o) (HE1 o)
  rw [hp] at g
  simp only [List.length_cons, List.length_nil, List.map_cons, List.map_nil] at g
  obtain ⟨bp, Hbp, Hbp'⟩ := named_bytes p
  obtain ⟨bq, Hbq, Hbq'⟩ := named_bytes q
  obtain ⟨br, Hbr, Hbr'⟩ := named_bytes r
  obtain ⟨bf, Hbf, Hbf'⟩ := named_bytes (Mb.meant r)
  rw [← Hbp.out, ← Hbq.out, ← Hbr.out] at g
  have gm : ∀ W, Calls Tryz.prog 192 #[.string br] W fun e w' => e = .returned (.string bf) ∧ Below W.heap.size W w' := fun W => by
    have := meant_any br W (by rw [Lib.size_eq, Hbr'.out]; omega)
    rw [Hbr'.out, ← Hbf.out] at this
    exact this
  rw [← Hbf.out]
  have g1 := fun W => atoi_ok bp (by rw [Lib.size_eq, Hbp'.out]; omega) x (by rw [Hbp'.out]; exact hx) W
  have g2 := fun W => atoi_ok bq (by rw [Lib.size_eq, Hbq'.out]; omega) y (by rw [Hbq'.out]; exact hy) W
  clear hx hy hp HE1
  go_enter Tryz.func174, Tryz.ntmps174
  go_wp2_with fail
  refine (g _).mono ?_
  rintro e' w' ⟨rfl, rfl⟩
  clear g
  go_wp2_with fail
  refine (g1 _).mono ?_
  rintro e' w1 ⟨rfl, hb1⟩
  clear g1
  have q1 := hb1.cell (p := ⟨w.heap.size + 1, 1, none⟩) (by simp)
  have q2 := hb1.cell (p := ⟨w.heap.size + 1, 2, none⟩) (by simp)
  have a0 := hb1.cell (p := ⟨w.heap.size, 0, none⟩) (by simp; omega)
  have a1 := hb1.cell (p := ⟨w.heap.size, 1, none⟩) (by simp; omega)
  have a2 := hb1.cell (p := ⟨w.heap.size, 2, none⟩) (by simp; omega)
  have f0 := hb1.frozen (p := ⟨w.heap.size, 0, none⟩) (by simp; omega)
  have f1 := hb1.frozen (p := ⟨w.heap.size, 1, none⟩) (by simp; omega)
  have f2 := hb1.frozen (p := ⟨w.heap.size, 2, none⟩) (by simp; omega)
  have hs1 := hb1.size
  simp at q1 q2 a0 a1 a2 f0 f1 f2 hs1
  have hB1 := ((((Below.refl w.heap.size w).alloc (Nat.le_refl _) _).alloc (by simp) _).trans (hb1.mono (by simp; omega)))
  have HB1 : Hid (Below w.heap.size w w1) := hB1
  clear hb1 hB1
  go_wp2_with fail
  refine (g2 _).mono ?_
  rintro e' w2 ⟨rfl, hb2⟩
  clear g2
  have q2 := (hb2.cell (p := ⟨w.heap.size + 1, 2, none⟩) (by simp; omega)).trans q2
  have a0 := (hb2.cell (p := ⟨w.heap.size, 0, none⟩) (by simp; omega)).trans a0
  have a1 := (hb2.cell (p := ⟨w.heap.size, 1, none⟩) (by simp; omega)).trans a1
  have a2 := (hb2.cell (p := ⟨w.heap.size, 2, none⟩) (by simp; omega)).trans a2
  have f0 := (hb2.frozen (p := ⟨w.heap.size, 0, none⟩) (by simp; omega)).trans f0
  have f1 := (hb2.frozen (p := ⟨w.heap.size, 1, none⟩) (by simp; omega)).trans f1
  have f2 := (hb2.frozen (p := ⟨w.heap.size, 2, none⟩) (by simp; omega)).trans f2
  have hs2 := hb2.size
  have HB2 : Hid (Below w.heap.size w w2) := HB1.out.trans (hb2.mono (by omega))
  clear hb2
  go_wp2
  have nf : ∀ w3, Below w2.heap.size w2 w3 → w3.cell? ⟨w.heap.size, 0, none⟩ = some (.int .i64 0) ∧ w3.cell? ⟨w.heap.size, 1, none⟩ = some (.int .i64 0) ∧ w3.cell? ⟨w.heap.size, 2, none⟩ = some (.string ⟨#[]⟩) ∧ w3.frozen? ⟨w.heap.size, 0, none⟩ = false ∧ w3.frozen? ⟨w.heap.size, 1, none⟩ = false ∧ w3.frozen? ⟨w.heap.size, 2, none⟩ = false := fun w3 h3 =>
    ⟨(h3.cell (p := ⟨w.heap.size, 0, none⟩) (by simp; omega)).trans a0, (h3.cell (p := ⟨w.heap.size, 1, none⟩) (by simp; omega)).trans a1, (h3.cell (p := ⟨w.heap.size, 2, none⟩) (by simp; omega)).trans a2, (h3.frozen (p := ⟨w.heap.size, 0, none⟩) (by simp; omega)).trans f0, (h3.frozen (p := ⟨w.heap.size, 1, none⟩) (by simp; omega)).trans f1, (h3.frozen (p := ⟨w.heap.size, 2, none⟩) (by simp; omega)).trans f2⟩
  have NF : Hid (∀ w3, Below w2.heap.size w2 w3 → w3.cell? ⟨w.heap.size, 0, none⟩ = some (.int .i64 0) ∧ w3.cell? ⟨w.heap.size, 1, none⟩ = some (.int .i64 0) ∧ w3.cell? ⟨w.heap.size, 2, none⟩ = some (.string ⟨#[]⟩) ∧ w3.frozen? ⟨w.heap.size, 0, none⟩ = false ∧ w3.frozen? ⟨w.heap.size, 1, none⟩ = false ∧ w3.frozen? ⟨w.heap.size, 2, none⟩ = false) := nf
  clear nf
  go_region_with (go_at_call 192; refine (gm _).mono ?_; rintro e' w3 ⟨rfl, hb3⟩; have hb4 : Below w2.heap.size w2 w3 := (Below.refl _ _).drew.trans hb3; obtain ⟨n0, n1, n2, m0, m1, m2⟩ := NF.out w3 hb4; clear hb3)
  have b0 := World.cell?_setCell_same w3 ⟨w.heap.size, 0, none⟩ (.int .i64 x) n0
  have b1 := World.cell?_setCell_same (w3.setCell ⟨w.heap.size, 0, none⟩ (.int .i64 x)) ⟨w.heap.size, 1, none⟩ (.int .i64 y) ((World.cell?_setCell_other _ _ _ _ (by simp)).trans n1)
  have b2 := World.cell?_setCell_same ((w3.setCell ⟨w.heap.size, 0, none⟩ (.int .i64 x)).setCell ⟨w.heap.size, 1, none⟩ (.int .i64 y)) ⟨w.heap.size, 2, none⟩ (.string bf) ((World.cell?_setCell_other _ _ _ _ (by simp)).trans ((World.cell?_setCell_other _ _ _ _ (by simp)).trans n2))
  go_wp2
  refine bodyPost_ret (v := .tuple #[.agg #[.int .i64 x, .int .i64 y, .string bf], .bool true]) (by simp [results, Tryz.results174, go_sem, b0, b1, b2]) rfl ⟨rfl, ?_⟩
  exact (((HB2.out.trans (hb4.mono (by omega))).setCell (by simp) _).setCell (by simp) _).setCell (by simp) _



theorem parseEntry_ob (s : ByteArray) (hs : s.size ≤ 400) (w : World) (hE : Env w) (p q r : List UInt8) (hp : Mb.splitC 32 s.data.toList = [p, q, r]) (x : Int) (hx : Lib.atoiAll p = .ok x) (hy : ∀ v, Lib.atoiAll q ≠ .ok v) (lp : p.length ≤ 400) (lq : q.length ≤ 400) (lr : r.length ≤ 400) :
    Calls Tryz.prog 174 #[.string s] w fun e w' => (∃ x y, e = .returned (.tuple #[.agg #[.int .i64 x, .int .i64 y, .string ⟨(Mb.meant r).toArray⟩], .bool false])) ∧ Below w.heap.size w w' := by
  have HE1 : ∀ o, Env (w.alloc o) := fun o => hE.below ((Below.refl _ _).alloc (Nat.le_refl _) o) (Nat.le_refl _)
  have g := fun o => split_any s 32 (by omega) (w.alloc o) (HE1 o)
  rw [hp] at g
  simp only [List.length_cons, List.length_nil, List.map_cons, List.map_nil] at g
  obtain ⟨bp, Hbp, Hbp'⟩ := named_bytes p
  obtain ⟨bq, Hbq, Hbq'⟩ := named_bytes q
  obtain ⟨br, Hbr, Hbr'⟩ := named_bytes r
  obtain ⟨bf, Hbf, Hbf'⟩ := named_bytes (Mb.meant r)
  rw [← Hbp.out, ← Hbq.out, ← Hbr.out] at g
  have gm : ∀ W, Calls Tryz.prog 192 #[.string br] W fun e w' => e = .returned (.string bf) ∧ Below W.heap.size W w' := fun W => by
    have := meant_any br W (by rw [Lib.size_eq, Hbr'.out]; omega)
    rw [Hbr'.out, ← Hbf.out] at this
    exact this
  rw [← Hbf.out]
  have g1 := fun W => atoi_ok bp (by rw [Lib.size_eq, Hbp'.out]; omega) x (by rw [Hbp'.out]; exact hx) W
  have g2 := fun W (hW : Env W) => atoi_bad bq (by rw [Lib.size_eq, Hbq'.out]; omega) (by rw [Hbq'.out]; exact hy) W hW
  clear hx hy hp HE1
  go_enter Tryz.func174, Tryz.ntmps174
  go_wp2_with fail
  refine (g _).mono ?_
  rintro e' w' ⟨rfl, rfl⟩
  clear g
  go_wp2_with fail
  refine (g1 _).mono ?_
  rintro e' w1 ⟨rfl, hb1⟩
  clear g1
  have q1 := hb1.cell (p := ⟨w.heap.size + 1, 1, none⟩) (by simp)
  have q2 := hb1.cell (p := ⟨w.heap.size + 1, 2, none⟩) (by simp)
  have a0 := hb1.cell (p := ⟨w.heap.size, 0, none⟩) (by simp; omega)
  have a1 := hb1.cell (p := ⟨w.heap.size, 1, none⟩) (by simp; omega)
  have a2 := hb1.cell (p := ⟨w.heap.size, 2, none⟩) (by simp; omega)
  have f0 := hb1.frozen (p := ⟨w.heap.size, 0, none⟩) (by simp; omega)
  have f1 := hb1.frozen (p := ⟨w.heap.size, 1, none⟩) (by simp; omega)
  have f2 := hb1.frozen (p := ⟨w.heap.size, 2, none⟩) (by simp; omega)
  have hs1 := hb1.size
  simp at q1 q2 a0 a1 a2 f0 f1 f2 hs1
  have hB1 := ((((Below.refl w.heap.size w).alloc (Nat.le_refl _) _).alloc (by simp) _).trans (hb1.mono (by simp; omega)))
  have HB1 : Hid (Below w.heap.size w w1) := hB1
  clear hb1 hB1
  go_wp2_with fail
  refine (g2 _ (hE.below HB1.out (Nat.le_refl _))).mono ?_
  rintro e' w2 ⟨⟨y, N2, rfl⟩, hb2⟩
  clear g2
  have q2 := (hb2.cell (p := ⟨w.heap.size + 1, 2, none⟩) (by simp; omega)).trans q2
  have a0 := (hb2.cell (p := ⟨w.heap.size, 0, none⟩) (by simp; omega)).trans a0
  have a1 := (hb2.cell (p := ⟨w.heap.size, 1, none⟩) (by simp; omega)).trans a1
  have a2 := (hb2.cell (p := ⟨w.heap.size, 2, none⟩) (by simp; omega)).trans a2
  have f0 := (hb2.frozen (p := ⟨w.heap.size, 0, none⟩) (by simp; omega)).trans f0
  have f1 := (hb2.frozen (p := ⟨w.heap.size, 1, none⟩) (by simp; omega)).trans f1
  have f2 := (hb2.frozen (p := ⟨w.heap.size, 2, none⟩) (by simp; omega)).trans f2
  have hs2 := hb2.size
  have HB2 : Hid (Below w.heap.size w w2) := HB1.out.trans (hb2.mono (by omega))
  clear hb2
  go_wp2
  have nf : ∀ w3, Below w2.heap.size w2 w3 → w3.cell? ⟨w.heap.size, 0, none⟩ = some (.int .i64 0) ∧ w3.cell? ⟨w.heap.size, 1, none⟩ = some (.int .i64 0) ∧ w3.cell? ⟨w.heap.size, 2, none⟩ = some (.string ⟨#[]⟩) ∧ w3.frozen? ⟨w.heap.size, 0, none⟩ = false ∧ w3.frozen? ⟨w.heap.size, 1, none⟩ = false ∧ w3.frozen? ⟨w.heap.size, 2, none⟩ = false := fun w3 h3 =>
    ⟨(h3.cell (p := ⟨w.heap.size, 0, none⟩) (by simp; omega)).trans a0, (h3.cell (p := ⟨w.heap.size, 1, none⟩) (by simp; omega)).trans a1, (h3.cell (p := ⟨w.heap.size, 2, none⟩) (by simp; omega)).trans a2, (h3.frozen (p := ⟨w.heap.size, 0, none⟩) (by simp; omega)).trans f0, (h3.frozen (p := ⟨w.heap.size, 1, none⟩) (by simp; omega)).trans f1, (h3.frozen (p := ⟨w.heap.size, 2, none⟩) (by simp; omega)).trans f2⟩
  have NF : Hid (∀ w3, Below w2.heap.size w2 w3 → w3.cell? ⟨w.heap.size, 0, none⟩ = some (.int .i64 0) ∧ w3.cell? ⟨w.heap.size, 1, none⟩ = some (.int .i64 0) ∧ w3.cell? ⟨w.heap.size, 2, none⟩ = some (.string ⟨#[]⟩) ∧ w3.frozen? ⟨w.heap.size, 0, none⟩ = false ∧ w3.frozen? ⟨w.heap.size, 1, none⟩ = false ∧ w3.frozen? ⟨w.heap.size, 2, none⟩ = false) := nf
  clear nf
  go_region_with (go_at_call 192; refine (gm _).mono ?_; rintro e' w3 ⟨rfl, hb3⟩; have hb4 : Below w2.heap.size w2 w3 := (Below.refl _ _).drew.trans hb3; obtain ⟨n0, n1, n2, m0, m1, m2⟩ := NF.out w3 hb4; clear hb3)
  have b0 := World.cell?_setCell_same w3 ⟨w.heap.size, 0, none⟩ (.int .i64 x) n0
  have b1 := World.cell?_setCell_same (w3.setCell ⟨w.heap.size, 0, none⟩ (.int .i64 x)) ⟨w.heap.size, 1, none⟩ (.int .i64 y) ((World.cell?_setCell_other _ _ _ _ (by simp)).trans n1)
  have b2 := World.cell?_setCell_same ((w3.setCell ⟨w.heap.size, 0, none⟩ (.int .i64 x)).setCell ⟨w.heap.size, 1, none⟩ (.int .i64 y)) ⟨w.heap.size, 2, none⟩ (.string bf) ((World.cell?_setCell_other _ _ _ _ (by simp)).trans ((World.cell?_setCell_other _ _ _ _ (by simp)).trans n2))
  go_wp2
  refine bodyPost_ret (v := .tuple #[.agg #[.int .i64 x, .int .i64 y, .string bf], .bool false]) (by simp [results, Tryz.results174, go_sem, b0, b1, b2]) rfl ⟨⟨x, y, rfl⟩, ?_⟩
  exact (((HB2.out.trans (hb4.mono (by omega))).setCell (by simp) _).setCell (by simp) _).setCell (by simp) _



theorem parseEntry_bo (s : ByteArray) (hs : s.size ≤ 400) (w : World) (hE : Env w) (p q r : List UInt8) (hp : Mb.splitC 32 s.data.toList = [p, q, r]) (hx : ∀ v, Lib.atoiAll p ≠ .ok v) (y : Int) (hy : Lib.atoiAll q = .ok y) (lp : p.length ≤ 400) (lq : q.length ≤ 400) (lr : r.length ≤ 400) :
    Calls Tryz.prog 174 #[.string s] w fun e w' => (∃ x y, e = .returned (.tuple #[.agg #[.int .i64 x, .int .i64 y, .string ⟨(Mb.meant r).toArray⟩], .bool false])) ∧ Below w.heap.size w w' := by
  have HE1 : ∀ o, Env (w.alloc o) := fun o => hE.below ((Below.refl _ _).alloc (Nat.le_refl _) o) (Nat.le_refl _)
  have g := fun o => split_any s 32 (by omega) (w.alloc o) (HE1 o)
  rw [hp] at g
  simp only [List.length_cons, List.length_nil, List.map_cons, List.map_nil] at g
  obtain ⟨bp, Hbp, Hbp'⟩ := named_bytes p
  obtain ⟨bq, Hbq, Hbq'⟩ := named_bytes q
  obtain ⟨br, Hbr, Hbr'⟩ := named_bytes r
  obtain ⟨bf, Hbf, Hbf'⟩ := named_bytes (Mb.meant r)
  rw [← Hbp.out, ← Hbq.out, ← Hbr.out] at g
  have gm : ∀ W, Calls Tryz.prog 192 #[.string br] W fun e w' => e = .returned (.string bf) ∧ Below W.heap.size W w' := fun W => by
    have := meant_any br W (by rw [Lib.size_eq, Hbr'.out]; omega)
    rw [Hbr'.out, ← Hbf.out] at this
    exact this
  rw [← Hbf.out]
  have g1 := fun W (hW : Env W) => atoi_bad bp (by rw [Lib.size_eq, Hbp'.out]; omega) (by rw [Hbp'.out]; exact hx) W hW
  have g2 := fun W => atoi_ok bq (by rw [Lib.size_eq, Hbq'.out]; omega) y (by rw [Hbq'.out]; exact hy) W
  have HE2 : ∀ o o', Env ((w.alloc o).alloc o') := fun o o' => (HE1 o).below ((Below.refl _ _).alloc (Nat.le_refl _) o') (Nat.le_refl _)
  clear hx hy hp HE1
  go_enter Tryz.func174, Tryz.ntmps174
  go_wp2_with fail
  refine (g _).mono ?_
  rintro e' w' ⟨rfl, rfl⟩
  clear g
  go_wp2_with fail
  refine (g1 _ (HE2 _ _)).mono ?_
  rintro e' w1 ⟨⟨x, N1, rfl⟩, hb1⟩
  clear g1
  have q1 := hb1.cell (p := ⟨w.heap.size + 1, 1, none⟩) (by simp)
  have q2 := hb1.cell (p := ⟨w.heap.size + 1, 2, none⟩) (by simp)
  have a0 := hb1.cell (p := ⟨w.heap.size, 0, none⟩) (by simp; omega)
  have a1 := hb1.cell (p := ⟨w.heap.size, 1, none⟩) (by simp; omega)
  have a2 := hb1.cell (p := ⟨w.heap.size, 2, none⟩) (by simp; omega)
  have f0 := hb1.frozen (p := ⟨w.heap.size, 0, none⟩) (by simp; omega)
  have f1 := hb1.frozen (p := ⟨w.heap.size, 1, none⟩) (by simp; omega)
  have f2 := hb1.frozen (p := ⟨w.heap.size, 2, none⟩) (by simp; omega)
  have hs1 := hb1.size
  simp at q1 q2 a0 a1 a2 f0 f1 f2 hs1
  have hB1 := ((((Below.refl w.heap.size w).alloc (Nat.le_refl _) _).alloc (by simp) _).trans (hb1.mono (by simp; omega)))
  have HB1 : Hid (Below w.heap.size w w1) := hB1
  clear hb1 hB1
  go_wp2_with fail
  refine (g2 _).mono ?_
  rintro e' w2 ⟨rfl, hb2⟩
  clear g2
  have q2 := (hb2.cell (p := ⟨w.heap.size + 1, 2, none⟩) (by simp; omega)).trans q2
  have a0 := (hb2.cell (p := ⟨w.heap.size, 0, none⟩) (by simp; omega)).trans a0
  have a1 := (hb2.cell (p := ⟨w.heap.size, 1, none⟩) (by simp; omega)).trans a1
  have a2 := (hb2.cell (p := ⟨w.heap.size, 2, none⟩) (by simp; omega)).trans a2
  have f0 := (hb2.frozen (p := ⟨w.heap.size, 0, none⟩) (by simp; omega)).trans f0
  have f1 := (hb2.frozen (p := ⟨w.heap.size, 1, none⟩) (by simp; omega)).trans f1
  have f2 := (hb2.frozen (p := ⟨w.heap.size, 2, none⟩) (by simp; omega)).trans f2
  have hs2 := hb2.size
  have HB2 : Hid (Below w.heap.size w w2) := HB1.out.trans (hb2.mono (by omega))
  clear hb2
  go_wp2
  have nf : ∀ w3, Below w2.heap.size w2 w3 → w3.cell? ⟨w.heap.size, 0, none⟩ = some (.int .i64 0) ∧ w3.cell? ⟨w.heap.size, 1, none⟩ = some (.int .i64 0) ∧ w3.cell? ⟨w.heap.size, 2, none⟩ = some (.string ⟨#[]⟩) ∧ w3.frozen? ⟨w.heap.size, 0, none⟩ = false ∧ w3.frozen? ⟨w.heap.size, 1, none⟩ = false ∧ w3.frozen? ⟨w.heap.size, 2, none⟩ = false := fun w3 h3 =>
    ⟨(h3.cell (p := ⟨w.heap.size, 0, none⟩) (by simp; omega)).trans a0, (h3.cell (p := ⟨w.heap.size, 1, none⟩) (by simp; omega)).trans a1, (h3.cell (p := ⟨w.heap.size, 2, none⟩) (by simp; omega)).trans a2, (h3.frozen (p := ⟨w.heap.size, 0, none⟩) (by simp; omega)).trans f0, (h3.frozen (p := ⟨w.heap.size, 1, none⟩) (by simp; omega)).trans f1, (h3.frozen (p := ⟨w.heap.size, 2, none⟩) (by simp; omega)).trans f2⟩
  have NF : Hid (∀ w3, Below w2.heap.size w2 w3 → w3.cell? ⟨w.heap.size, 0, none⟩ = some (.int .i64 0) ∧ w3.cell? ⟨w.heap.size, 1, none⟩ = some (.int .i64 0) ∧ w3.cell? ⟨w.heap.size, 2, none⟩ = some (.string ⟨#[]⟩) ∧ w3.frozen? ⟨w.heap.size, 0, none⟩ = false ∧ w3.frozen? ⟨w.heap.size, 1, none⟩ = false ∧ w3.frozen? ⟨w.heap.size, 2, none⟩ = false) := nf
  clear nf
  refine wp_region_any (by kernel_rfl) ?_
  change wpAny _ _ _ _ _ _ _ (World.drew _)
  refine wpAny_take (i := 0) (v := ?_) rfl (by kernel_rfl) (by kernel_rfl) (by kernel_rfl) (fun _ _ _ h => h) (Or.inl ⟨by rfl, ?_⟩) ?_
  rotate_left
  · intro w0; go_simp; rfl
  refine wpAny_take (i := 1) (v := ?_) rfl (by kernel_rfl) (by kernel_rfl) (by kernel_rfl) (fun _ _ _ h => h) (Or.inl ⟨by rfl, ?_⟩) ?_
  rotate_left
  · intro w0; go_simp; rfl
  refine wpAny_take (i := 2) (v := ?_) rfl (by kernel_rfl) (by kernel_rfl) (by kernel_rfl) (fun _ _ _ h => h) (Or.inl ⟨by rfl, ?_⟩) ?_
  rotate_left
  · intro w0; go_simp; rfl
  refine wpAny_take (i := 7) (v := ?_) rfl (by kernel_rfl) (by kernel_rfl) (by kernel_rfl) (fun _ _ _ h => h) (Or.inl ⟨by rfl, ?_⟩) ?_
  rotate_left
  · intro w0; go_simp; rfl
  refine wpAny_take (i := 3) (v := ?_) rfl (by kernel_rfl) (by kernel_rfl) (by kernel_rfl) (fun _ _ _ h => h) (Or.inl ⟨by rfl, ?_⟩) ?_
  rotate_left
  · intro w0; go_simp; rfl
  refine wpAny_take (i := 8) (v := ?_) rfl (by kernel_rfl) (by kernel_rfl) (by kernel_rfl) (fun _ _ _ h => h) (Or.inl ⟨by rfl, ?_⟩) ?_
  rotate_left
  · intro w0; go_simp; rfl
  refine wpAny_ready (rs := [4]) (by kernel_rfl) (by simp) ?_
  refine AllReady.cons rfl (fun K hK => ?_) AllReady.nil
  go_simp
  refine hK _ _ ?_
  clear hK K
  refine wpAny_ready (rs := [5]) (by kernel_rfl) (by simp) ?_
  refine AllReady.cons rfl (fun K hK => ?_) AllReady.nil
  go_simp
  refine (gm _).mono ?_
  rintro e' w3 ⟨rfl, hb3⟩
  have hb4 : Below w2.heap.size w2 w3 := (Below.refl _ _).drew.trans hb3
  obtain ⟨n0, n1, n2, m0, m1, m2⟩ := NF.out w3 hb4
  clear hb3
  refine hK _ _ ?_
  clear hK K
  refine wpAny_take (i := 6) (v := ?_) rfl (by kernel_rfl) (by kernel_rfl) (by kernel_rfl) (fun _ _ _ h => h) (Or.inl ⟨by rfl, ?_⟩) ?_
  rotate_left
  · intro w0; go_simp; rfl
  refine wpAny_take (i := 9) (v := ?_) rfl (by kernel_rfl) (by kernel_rfl) (by kernel_rfl) (fun _ _ _ h => h) (Or.inl ⟨by rfl, ?_⟩) ?_
  rotate_left
  · intro w0; go_simp; rfl
  refine wpAny_take (i := 10) (v := undef) rfl (by kernel_rfl) (by kernel_rfl) (by kernel_rfl) (fun _ _ _ h => h) (Or.inr ⟨by rfl, rfl⟩) ?_
  refine wpAny_take (i := 11) (v := undef) rfl (by kernel_rfl) (by kernel_rfl) (by kernel_rfl) (fun _ _ _ h => h) (Or.inr ⟨by rfl, rfl⟩) ?_
  refine wpAny_take (i := 12) (v := ?_) rfl (by kernel_rfl) (by kernel_rfl) (by kernel_rfl) (fun _ _ _ h => h) (Or.inl ⟨by rfl, ?_⟩) ?_
  rotate_left
  · intro w0; go_simp; rfl
  refine wpAny_ready (rs := [13]) (by kernel_rfl) (by simp) ?_
  refine AllReady.cons rfl (fun K hK => ?_) AllReady.nil
  go_simp
  refine hK _ _ ?_
  clear hK K
  refine wpAny_take (i := 14) (v := ?_) rfl (by kernel_rfl) (by kernel_rfl) (by kernel_rfl) (fun _ _ _ h => h) (Or.inl ⟨by rfl, ?_⟩) ?_
  rotate_left
  · intro w0; go_simp; rfl
  refine wpAny_done (by kernel_rfl) ?_ _
  have b0 := World.cell?_setCell_same w3 ⟨w.heap.size, 0, none⟩ (.int .i64 x) n0
  have b1 := World.cell?_setCell_same (w3.setCell ⟨w.heap.size, 0, none⟩ (.int .i64 x)) ⟨w.heap.size, 1, none⟩ (.int .i64 y) ((World.cell?_setCell_other _ _ _ _ (by simp)).trans n1)
  have b2 := World.cell?_setCell_same ((w3.setCell ⟨w.heap.size, 0, none⟩ (.int .i64 x)).setCell ⟨w.heap.size, 1, none⟩ (.int .i64 y)) ⟨w.heap.size, 2, none⟩ (.string bf) ((World.cell?_setCell_other _ _ _ _ (by simp)).trans ((World.cell?_setCell_other _ _ _ _ (by simp)).trans n2))
  go_wp2
  refine bodyPost_ret (v := .tuple #[.agg #[.int .i64 x, .int .i64 y, .string bf], .bool false]) (by simp [results, Tryz.results174, go_sem, b0, b1, b2]) rfl ⟨⟨x, y, rfl⟩, ?_⟩
  exact (((HB2.out.trans (hb4.mono (by omega))).setCell (by simp) _).setCell (by simp) _).setCell (by simp) _



theorem parseEntry_bb (s : ByteArray) (hs : s.size ≤ 400) (w : World) (hE : Env w) (p q r : List UInt8) (hp : Mb.splitC 32 s.data.toList = [p, q, r]) (hx : ∀ v, Lib.atoiAll p ≠ .ok v) (hy : ∀ v, Lib.atoiAll q ≠ .ok v) (lp : p.length ≤ 400) (lq : q.length ≤ 400) (lr : r.length ≤ 400) :
    Calls Tryz.prog 174 #[.string s] w fun e w' => (∃ x y, e = .returned (.tuple #[.agg #[.int .i64 x, .int .i64 y, .string ⟨(Mb.meant r).toArray⟩], .bool false])) ∧ Below w.heap.size w w' := by
  have HE1 : ∀ o, Env (w.alloc o) := fun o => hE.below ((Below.refl _ _).alloc (Nat.le_refl _) o) (Nat.le_refl _)
  have g := fun o => split_any s 32 (by omega) (w.alloc o) (HE1 o)
  rw [hp] at g
  simp only [List.length_cons, List.length_nil, List.map_cons, List.map_nil] at g
  obtain ⟨bp, Hbp, Hbp'⟩ := named_bytes p
  obtain ⟨bq, Hbq, Hbq'⟩ := named_bytes q
  obtain ⟨br, Hbr, Hbr'⟩ := named_bytes r
  obtain ⟨bf, Hbf, Hbf'⟩ := named_bytes (Mb.meant r)
  rw [← Hbp.out, ← Hbq.out, ← Hbr.out] at g
  have gm : ∀ W, Calls Tryz.prog 192 #[.string br] W fun e w' => e = .returned (.string bf) ∧ Below W.heap.size W w' := fun W => by
    have := meant_any br W (by rw [Lib.size_eq, Hbr'.out]; omega)
    rw [Hbr'.out, ← Hbf.out] at this
    exact this
  rw [← Hbf.out]
  have g1 := fun W (hW : Env W) => atoi_bad bp (by rw [Lib.size_eq, Hbp'.out]; omega) (by rw [Hbp'.out]; exact hx) W hW
  have g2 := fun W (hW : Env W) => atoi_bad bq (by rw [Lib.size_eq, Hbq'.out]; omega) (by rw [Hbq'.out]; exact hy) W hW
  have HE2 : ∀ o o', Env ((w.alloc o).alloc o') := fun o o' => (HE1 o).below ((Below.refl _ _).alloc (Nat.le_refl _) o') (Nat.le_refl _)
  clear hx hy hp HE1
  go_enter Tryz.func174, Tryz.ntmps174
  go_wp2_with fail
  refine (g _).mono ?_
  rintro e' w' ⟨rfl, rfl⟩
  clear g
  go_wp2_with fail
  refine (g1 _ (HE2 _ _)).mono ?_
  rintro e' w1 ⟨⟨x, N1, rfl⟩, hb1⟩
  clear g1
  have q1 := hb1.cell (p := ⟨w.heap.size + 1, 1, none⟩) (by simp)
  have q2 := hb1.cell (p := ⟨w.heap.size + 1, 2, none⟩) (by simp)
  have a0 := hb1.cell (p := ⟨w.heap.size, 0, none⟩) (by simp; omega)
  have a1 := hb1.cell (p := ⟨w.heap.size, 1, none⟩) (by simp; omega)
  have a2 := hb1.cell (p := ⟨w.heap.size, 2, none⟩) (by simp; omega)
  have f0 := hb1.frozen (p := ⟨w.heap.size, 0, none⟩) (by simp; omega)
  have f1 := hb1.frozen (p := ⟨w.heap.size, 1, none⟩) (by simp; omega)
  have f2 := hb1.frozen (p := ⟨w.heap.size, 2, none⟩) (by simp; omega)
  have hs1 := hb1.size
  simp at q1 q2 a0 a1 a2 f0 f1 f2 hs1
  have hB1 := ((((Below.refl w.heap.size w).alloc (Nat.le_refl _) _).alloc (by simp) _).trans (hb1.mono (by simp; omega)))
  have HB1 : Hid (Below w.heap.size w w1) := hB1
  clear hb1 hB1
  go_wp2_with fail
  refine (g2 _ (hE.below HB1.out (Nat.le_refl _))).mono ?_
  rintro e' w2 ⟨⟨y, N2, rfl⟩, hb2⟩
  clear g2
  have q2 := (hb2.cell (p := ⟨w.heap.size + 1, 2, none⟩) (by simp; omega)).trans q2
  have a0 := (hb2.cell (p := ⟨w.heap.size, 0, none⟩) (by simp; omega)).trans a0
  have a1 := (hb2.cell (p := ⟨w.heap.size, 1, none⟩) (by simp; omega)).trans a1
  have a2 := (hb2.cell (p := ⟨w.heap.size, 2, none⟩) (by simp; omega)).trans a2
  have f0 := (hb2.frozen (p := ⟨w.heap.size, 0, none⟩) (by simp; omega)).trans f0
  have f1 := (hb2.frozen (p := ⟨w.heap.size, 1, none⟩) (by simp; omega)).trans f1
  have f2 := (hb2.frozen (p := ⟨w.heap.size, 2, none⟩) (by simp; omega)).trans f2
  have hs2 := hb2.size
  have HB2 : Hid (Below w.heap.size w w2) := HB1.out.trans (hb2.mono (by omega))
  clear hb2
  go_wp2
  have nf : ∀ w3, Below w2.heap.size w2 w3 → w3.cell? ⟨w.heap.size, 0, none⟩ = some (.int .i64 0) ∧ w3.cell? ⟨w.heap.size, 1, none⟩ = some (.int .i64 0) ∧ w3.cell? ⟨w.heap.size, 2, none⟩ = some (.string ⟨#[]⟩) ∧ w3.frozen? ⟨w.heap.size, 0, none⟩ = false ∧ w3.frozen? ⟨w.heap.size, 1, none⟩ = false ∧ w3.frozen? ⟨w.heap.size, 2, none⟩ = false := fun w3 h3 =>
    ⟨(h3.cell (p := ⟨w.heap.size, 0, none⟩) (by simp; omega)).trans a0, (h3.cell (p := ⟨w.heap.size, 1, none⟩) (by simp; omega)).trans a1, (h3.cell (p := ⟨w.heap.size, 2, none⟩) (by simp; omega)).trans a2, (h3.frozen (p := ⟨w.heap.size, 0, none⟩) (by simp; omega)).trans f0, (h3.frozen (p := ⟨w.heap.size, 1, none⟩) (by simp; omega)).trans f1, (h3.frozen (p := ⟨w.heap.size, 2, none⟩) (by simp; omega)).trans f2⟩
  have NF : Hid (∀ w3, Below w2.heap.size w2 w3 → w3.cell? ⟨w.heap.size, 0, none⟩ = some (.int .i64 0) ∧ w3.cell? ⟨w.heap.size, 1, none⟩ = some (.int .i64 0) ∧ w3.cell? ⟨w.heap.size, 2, none⟩ = some (.string ⟨#[]⟩) ∧ w3.frozen? ⟨w.heap.size, 0, none⟩ = false ∧ w3.frozen? ⟨w.heap.size, 1, none⟩ = false ∧ w3.frozen? ⟨w.heap.size, 2, none⟩ = false) := nf
  clear nf
  refine wp_region_any (by kernel_rfl) ?_
  change wpAny _ _ _ _ _ _ _ (World.drew _)
  refine wpAny_take (i := 0) (v := ?_) rfl (by kernel_rfl) (by kernel_rfl) (by kernel_rfl) (fun _ _ _ h => h) (Or.inl ⟨by rfl, ?_⟩) ?_
  rotate_left
  · intro w0; go_simp; rfl
  refine wpAny_take (i := 1) (v := ?_) rfl (by kernel_rfl) (by kernel_rfl) (by kernel_rfl) (fun _ _ _ h => h) (Or.inl ⟨by rfl, ?_⟩) ?_
  rotate_left
  · intro w0; go_simp; rfl
  refine wpAny_take (i := 2) (v := ?_) rfl (by kernel_rfl) (by kernel_rfl) (by kernel_rfl) (fun _ _ _ h => h) (Or.inl ⟨by rfl, ?_⟩) ?_
  rotate_left
  · intro w0; go_simp; rfl
  refine wpAny_take (i := 7) (v := ?_) rfl (by kernel_rfl) (by kernel_rfl) (by kernel_rfl) (fun _ _ _ h => h) (Or.inl ⟨by rfl, ?_⟩) ?_
  rotate_left
  · intro w0; go_simp; rfl
  refine wpAny_take (i := 3) (v := ?_) rfl (by kernel_rfl) (by kernel_rfl) (by kernel_rfl) (fun _ _ _ h => h) (Or.inl ⟨by rfl, ?_⟩) ?_
  rotate_left
  · intro w0; go_simp; rfl
  refine wpAny_take (i := 8) (v := ?_) rfl (by kernel_rfl) (by kernel_rfl) (by kernel_rfl) (fun _ _ _ h => h) (Or.inl ⟨by rfl, ?_⟩) ?_
  rotate_left
  · intro w0; go_simp; rfl
  refine wpAny_ready (rs := [4]) (by kernel_rfl) (by simp) ?_
  refine AllReady.cons rfl (fun K hK => ?_) AllReady.nil
  go_simp
  refine hK _ _ ?_
  clear hK K
  refine wpAny_ready (rs := [5]) (by kernel_rfl) (by simp) ?_
  refine AllReady.cons rfl (fun K hK => ?_) AllReady.nil
  go_simp
  refine (gm _).mono ?_
  rintro e' w3 ⟨rfl, hb3⟩
  have hb4 : Below w2.heap.size w2 w3 := (Below.refl _ _).drew.trans hb3
  obtain ⟨n0, n1, n2, m0, m1, m2⟩ := NF.out w3 hb4
  clear hb3
  refine hK _ _ ?_
  clear hK K
  refine wpAny_take (i := 6) (v := ?_) rfl (by kernel_rfl) (by kernel_rfl) (by kernel_rfl) (fun _ _ _ h => h) (Or.inl ⟨by rfl, ?_⟩) ?_
  rotate_left
  · intro w0; go_simp; rfl
  refine wpAny_take (i := 9) (v := ?_) rfl (by kernel_rfl) (by kernel_rfl) (by kernel_rfl) (fun _ _ _ h => h) (Or.inl ⟨by rfl, ?_⟩) ?_
  rotate_left
  · intro w0; go_simp; rfl
  refine wpAny_take (i := 10) (v := undef) rfl (by kernel_rfl) (by kernel_rfl) (by kernel_rfl) (fun _ _ _ h => h) (Or.inr ⟨by rfl, rfl⟩) ?_
  refine wpAny_take (i := 11) (v := undef) rfl (by kernel_rfl) (by kernel_rfl) (by kernel_rfl) (fun _ _ _ h => h) (Or.inr ⟨by rfl, rfl⟩) ?_
  refine wpAny_take (i := 12) (v := ?_) rfl (by kernel_rfl) (by kernel_rfl) (by kernel_rfl) (fun _ _ _ h => h) (Or.inl ⟨by rfl, ?_⟩) ?_
  rotate_left
  · intro w0; go_simp; rfl
  refine wpAny_ready (rs := [13]) (by kernel_rfl) (by simp) ?_
  refine AllReady.cons rfl (fun K hK => ?_) AllReady.nil
  go_simp
  refine hK _ _ ?_
  clear hK K
  refine wpAny_take (i := 14) (v := ?_) rfl (by kernel_rfl) (by kernel_rfl) (by kernel_rfl) (fun _ _ _ h => h) (Or.inl ⟨by rfl, ?_⟩) ?_
  rotate_left
  · intro w0; go_simp; rfl
  refine wpAny_done (by kernel_rfl) ?_ _
  have b0 := World.cell?_setCell_same w3 ⟨w.heap.size, 0, none⟩ (.int .i64 x) n0
  have b1 := World.cell?_setCell_same (w3.setCell ⟨w.heap.size, 0, none⟩ (.int .i64 x)) ⟨w.heap.size, 1, none⟩ (.int .i64 y) ((World.cell?_setCell_other _ _ _ _ (by simp)).trans n1)
  have b2 := World.cell?_setCell_same ((w3.setCell ⟨w.heap.size, 0, none⟩ (.int .i64 x)).setCell ⟨w.heap.size, 1, none⟩ (.int .i64 y)) ⟨w.heap.size, 2, none⟩ (.string bf) ((World.cell?_setCell_other _ _ _ _ (by simp)).trans ((World.cell?_setCell_other _ _ _ _ (by simp)).trans n2))
  go_wp2
  refine bodyPost_ret (v := .tuple #[.agg #[.int .i64 x, .int .i64 y, .string bf], .bool false]) (by simp [results, Tryz.results174, go_sem, b0, b1, b2]) rfl ⟨⟨x, y, rfl⟩, ?_⟩
  exact (((HB2.out.trans (hb4.mono (by omega))).setCell (by simp) _).setCell (by simp) _).setCell (by simp) _



/-- lists.parseEntry -/
theorem parseEntry_some (s : ByteArray) (hs : s.size ≤ 400) (w : World) (hE : Env w) (x : Mb.Ent) (h : Mb.parseEntL s.data.toList = some x) :
    Calls Tryz.prog 174 #[.string s] w fun e w' => e = .returned (.tuple #[.agg #[.int .i64 x.key, .int .i64 x.uid, .string ⟨x.flags.toArray⟩], .bool true]) ∧ Below w.heap.size w w' := by
  have hl : s.data.toList.length ≤ 400 := by rw [← Lib.size_eq]; exact hs
  have hlen := splitC_len 32 s.data.toList
  unfold Mb.parseEntL at h
  split at h
  · rename_i p q r hp
    have lp := hlen p (by rw [hp]; simp)
    have lq := hlen q (by rw [hp]; simp)
    have lr := hlen r (by rw [hp]; simp)
    split at h
    · rename_i x' y' hx hy
      cases h
      exact parseEntry_ok s hs w hE p q r hp x' y' hx hy (by omega) (by omega) (by omega)
    · cases h
  · cases h

theorem parseEntry_none (s : ByteArray) (hs : s.size ≤ 400) (w : World) (hE : Env w) (h : Mb.parseEntL s.data.toList = none) :
    Calls Tryz.prog 174 #[.string s] w fun e w' => (∃ x y f, e = .returned (.tuple #[.agg #[.int .i64 x, .int .i64 y, .string f], .bool false])) ∧ Below w.heap.size w w' := by
  have hl : s.data.toList.length ≤ 400 := by rw [← Lib.size_eq]; exact hs
  have hlen := splitC_len 32 s.data.toList
  by_cases h2 : (Mb.splitC 32 s.data.toList).length = 3
  · obtain ⟨p, q, r, hp⟩ : ∃ p q r, Mb.splitC 32 s.data.toList = [p, q, r] := by
      match hL : Mb.splitC 32 s.data.toList, h2 with
      | [p, q, r], _ => exact ⟨p, q, r, rfl⟩
    have lp := hlen p (by rw [hp]; simp)
    have lq := hlen q (by rw [hp]; simp)
    have lr := hlen r (by rw [hp]; simp)
    rcases ok_or (Lib.atoiAll p) with ⟨x, hx⟩ | hx
    · rcases ok_or (Lib.atoiAll q) with ⟨y, hy⟩ | hy
      · unfold Mb.parseEntL at h
        rw [hp] at h
        simp only [hx, hy] at h
        cases h
      · exact (parseEntry_ob s hs w hE p q r hp x hx hy (by omega) (by omega) (by omega)).mono fun e w' ⟨⟨a, b, he⟩, hb⟩ => ⟨⟨a, b, _, he⟩, hb⟩
    · rcases ok_or (Lib.atoiAll q) with ⟨y, hy⟩ | hy
      · exact (parseEntry_bo s hs w hE p q r hp hx y hy (by omega) (by omega) (by omega)).mono fun e w' ⟨⟨a, b, he⟩, hb⟩ => ⟨⟨a, b, _, he⟩, hb⟩
      · exact (parseEntry_bb s hs w hE p q r hp hx hy (by omega) (by omega) (by omega)).mono fun e w' ⟨⟨a, b, he⟩, hb⟩ => ⟨⟨a, b, _, he⟩, hb⟩
  · exact (parseEntry_parts s hs w hE h2).mono fun e w' ⟨he, hb⟩ => ⟨⟨0, 0, _, he⟩, hb⟩

end Go.Proofs.YtamglanahpcedaaGreatDoor
