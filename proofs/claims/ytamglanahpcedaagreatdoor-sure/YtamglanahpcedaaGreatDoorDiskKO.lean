/-
  OWN TEXT: rows of a disk that grow.
  OWN TEXT: all but one block below a mark as it was; a variable made and filled.
-/
import Derived.Test.YtamglanahpcedaaGreatDoorFileM
import Derived.Test.YtamglanahpcedaaGreatDoorDiskNext
import Derived.Test.YtamglanahpcedaaGreatDoorDiskSF
namespace Go.Proofs.YtamglanahpcedaaGreatDoor
open Go.RowKit Go.Lib

theorem node_make {d : ByteArray} {n : Int} {w : World} : (Instr.build 50 #[(0, .string d), (1, .int .i64 n)]).run Tryz.prog w = .ok (.agg #[.string d, .int .i64 n]) w := by go_simp
theorem named_make {d : ByteArray} {n : Int} {w : World} : (Instr.build 52 #[(0, .string d), (1, .int .i64 n)]).run Tryz.prog w = .ok (.agg #[.string d, .int .i64 n]) w := by go_simp
theorem node_build {d : ByteArray} {n : Int} {w : World} :
    (Instr.buildSlice 44 1 #[(0, .agg #[.string d, .int .i64 n])]).run Tryz.prog w = .ok (.slice (some ⟨w.heap.size, 0, none⟩) 1 1) (w.alloc (.cells #[.string d, .int .i64 n] 50)) := by go_simp
theorem named_build {d : ByteArray} {n : Int} {w : World} :
    (Instr.buildSlice 43 1 #[(0, .agg #[.string d, .int .i64 n])]).run Tryz.prog w = .ok (.slice (some ⟨w.heap.size, 0, none⟩) 1 1) (w.alloc (.cells #[.string d, .int .i64 n] 52)) := by go_simp
theorem elem_node : ElemOf Tryz.prog 44 50 2 24 := by
  obtain ⟨i, h1, h2, h3, h4⟩ := info_parts Tryz.info_node
  exact ⟨i, _, Tryz.underlying44, h1, h2, h3, h4, rfl⟩
theorem elem_named : ElemOf Tryz.prog 43 52 2 24 := by
  obtain ⟨i, h1, h2, h3, h4⟩ := info_parts Tryz.info_named
  exact ⟨i, _, Tryz.underlying43, h1, h2, h3, h4, rfl⟩
theorem node_load {b o : Nat} {d : ByteArray} {n : Int} {w : World} (c0 : w.cell? ⟨b, o, none⟩ = some (.string d)) (c1 : w.cell? ⟨b, o + 1, none⟩ = some (.int .i64 n)) :
    (Instr.loadAt 50 (.pointer (some ⟨b, o, none⟩))).run Tryz.prog w = .ok (.agg #[.string d, .int .i64 n]) w := by go_simp

section
variable {role : Nat → Nat} {B K : Nat} {V : DkV} {D : Mb.Dk} {w w1 : World}
theorem DkAt.below (h : DkAt role B K V D w) (hb : Below w.heap.size w w1) : DkAt role B K V D w1 := h.kept (Chg.of_below role 0 hb)
theorem DkAt.growD (h : DkAt role B K V D w) (hg : w.grownBy w1 V.d.ownBlock) {g n cap : Nat} {ns : List Mb.Nd} (hn : ns.length = n) (ho : w1.ownsRow B 50 2 (.slice (some ⟨g, 0, none⟩) n cap) n (ndCells ns)) (hl : V.d.ownBlock = some g ∨ g = w.heap.size) :
    DkAt (ext role w.heap.size 4) B K { V with d := .slice (some ⟨g, 0, none⟩) n cap } { D with nodes := ns } (w1.setCell ⟨K, 2, none⟩ (.slice (some ⟨g, 0, none⟩) n cap)) := by
  subst hn
  have hold : ∀ b, V.d.ownBlock = some b → ext role w.heap.size 4 b = 4 := fun b hb => by rw [ext_old _ _ _ _ (h.od.lt b hb).2.1]; exact h.od.2 b hb
  have hr : ext role w.heap.size 4 g = 4 := by
    rcases hl with hl | hl
    · exact hold g hl
    · exact ext_new _ _ _ _ (by omega)
  exact (h.role (ext_old role w.heap.size 4)).setD (Chg.of_grown hg hold) ⟨ho, fun b hb => by injection hb with hb; rw [← hb]; exact hr⟩
theorem DkAt.growN (h : DkAt role B K V D w) (hg : w.grownBy w1 V.n.ownBlock) {g n cap : Nat} {ns : List Mb.Nm} (hn : ns.length = n) (ho : w1.ownsRow B 52 2 (.slice (some ⟨g, 0, none⟩) n cap) n (nmCells ns)) (hl : V.n.ownBlock = some g ∨ g = w.heap.size) :
    DkAt (ext role w.heap.size 2) B K { V with n := .slice (some ⟨g, 0, none⟩) n cap } { D with names := ns } (w1.setCell ⟨K, 0, none⟩ (.slice (some ⟨g, 0, none⟩) n cap)) := by
  subst hn
  have hold : ∀ b, V.n.ownBlock = some b → ext role w.heap.size 2 b = 2 := fun b hb => by rw [ext_old _ _ _ _ (h.on.lt b hb).2.1]; exact h.on.2 b hb
  have hr : ext role w.heap.size 2 g = 2 := by
    rcases hl with hl | hl
    · exact hold g hl
    · exact ext_new _ _ _ _ (by omega)
  exact (h.role (ext_old role w.heap.size 2)).setN (Chg.of_grown hg hold) ⟨ho, fun b hb => by injection hb with hb; rw [← hb]; exact hr⟩
/-- a copy of the names -/
theorem DkAt.newS (h : DkAt role B K V D w) (hg : w.grownBy w1 none) {x : Value} {ns : List Mb.Nm} (ho : w1.ownsRow w.heap.size 52 2 x ns.length (nmCells ns)) (hB : B ≤ w.heap.size) :
    DkAt (ext role w.heap.size 3) B K { V with s := x } { D with sure := ns } (w1.setCell ⟨K, 1, none⟩ x) :=
  (h.role (ext_old role w.heap.size 3)).setS (Chg.of_grown hg (fun b hb => by cases hb)) ⟨owns_base ho hB, fun b hb => ext_new _ _ _ _ (owns_row_ge ho b hb)⟩
theorem DkAt.cellsK (h : DkAt role B K V D w) : w.cell? ⟨K, 0, none⟩ = some V.n ∧ w.cell? ⟨K, 1, none⟩ = some V.s ∧ w.cell? ⟨K, 2, none⟩ = some V.d ∧ w.cell? ⟨K, 3, none⟩ = some V.i ∧ w.cell? ⟨K, 4, none⟩ = some V.m ∧ ∀ o, w.frozen? ⟨K, o, none⟩ = false :=
  ⟨by simp [World.cell?, h.blk], by simp [World.cell?, h.blk], by simp [World.cell?, h.blk], by simp [World.cell?, h.blk], by simp [World.cell?, h.blk], fun o => by simp [World.frozen?, h.blk]⟩
end
/-- names to be copied from -/
theorem names_src {w : World} {B : Nat} {v : Value} {xs : List Mb.Nm} (h : w.ownsRow B 52 2 v xs.length (nmCells xs)) :
    (xs.length = 0 ∧ v = .slice none 0 0) ∨ ∃ ad c, v = .slice (some ad) xs.length c ∧ ∀ j u, (nmCells xs)[j]? = some u → w.cell? (ad.add j) = some u := by
  rcases h.2 with ⟨e1, e2⟩ | ⟨g, c, cur, e1, _⟩
  · exact Or.inl ⟨e2, e1⟩
  · exact Or.inr ⟨⟨g, 0, none⟩, c, e1, h.cells (g := g) (by rw [e1]; rfl)⟩
theorem nmCells_one (xs : List Mb.Nm) : ∀ u ∈ nmCells xs, u.oneCell' = true := by
  intro u hu
  unfold nmCells at hu
  simp only [List.mem_flatMap] at hu
  obtain ⟨x, _, hx⟩ := hu
  simp at hx
  rcases hx with rfl | rfl <;> rfl
theorem nmCells_length (xs : List Mb.Nm) : (nmCells xs).length = xs.length * 2 := by
  induction xs with
  | nil => rfl
  | cons x r ih => simp only [nmCells, List.flatMap_cons, List.length_append, List.length_cons, List.length_nil] at ih ⊢; omega
end Go.Proofs.YtamglanahpcedaaGreatDoor
namespace Go.Proofs.YtamglanahpcedaaGreatDoor
open Go.RowKit Go.Lib

theorem run_alloc {P : Program} {a : Act} {w w' : World} {oi : Oper} {v : Value} {t : TypeId} (ho : oi.op = .alloc t) (hf : (Instr.alloc t true (.tuple #[])).run P w = .ok v w') : (execOp a.eval oi).run P w = .ok (.value v) w' := by
  unfold execOp; simp only [ho, Sem.run_bind, hf, Result.andThen, Sem.run_pure]
theorem node_alloc {w : World} : (Instr.alloc 50 true (.tuple #[])).run Tryz.prog w = .ok (.pointer (some ⟨w.heap.size, 0, none⟩)) (w.alloc (.cells #[.string ⟨#[]⟩, .int .i64 0] 50)) := by go_simp
theorem node_store {w : World} {b : Nat} {d : ByteArray} {n : Int} {u0 u1 : Value} {t : TypeId} (h : w.heap[b]? = some (.cells #[u0, u1] t (0, 0))) :
    (Instr.storeAt 50 (.pointer (some ⟨b, 0, none⟩)) (.agg #[.string d, .int .i64 n])).run Tryz.prog w = .ok () ((w.setCell ⟨b, 0, none⟩ (.string d)).setCell ⟨b, 1, none⟩ (.int .i64 n)) := by
  have c0 : w.cell? ⟨b, 0, none⟩ = some u0 := by simp [World.cell?, h]
  have c1 : w.cell? ⟨b, 1, none⟩ = some u1 := by simp [World.cell?, h]
  have f0 : w.frozen? ⟨b, 0, none⟩ = false := by simp [World.frozen?, h]
  have f1 : w.frozen? ⟨b, 1, none⟩ = false := by simp [World.frozen?, h]
  go_simp

/-- blocks below N are as they were, but for one -/
structure BelowBut (X N : Nat) (w w' : World) : Prop where
  os : w'.os = w.os
  tape : w'.tape = w.tape
  output : w'.output = w.output
  size : w.heap.size ≤ w'.heap.size
  block : ∀ b, b < N → b ≠ X → w'.heap[b]? = w.heap[b]?
section
variable {X N : Nat} {a w w' : World}
theorem BelowBut.refl (X N : Nat) (w : World) : BelowBut X N w w := ⟨rfl, rfl, rfl, Nat.le_refl _, fun _ _ _ => rfl⟩
theorem BelowBut.step (h : BelowBut X N a w) (k : Below N w w') : BelowBut X N a w' := ⟨k.os.trans h.os, k.tape.trans h.tape, k.output.trans h.output, Nat.le_trans h.size k.size, fun b h1 h2 => (k.block b h1).trans (h.block b h1 h2)⟩
theorem BelowBut.only (h : BelowBut X N a w) (k : OnlyAt X w w') : BelowBut X N a w' := ⟨k.os.trans h.os, k.tape.trans h.tape, k.output.trans h.output, by rw [k.size]; exact h.size, fun b h1 h2 => (k.block b h2).trans (h.block b h1 h2)⟩
theorem BelowBut.below (h : BelowBut X N a w) (hX : X ≤ N) {M : Nat} (hM : M ≤ X) : Below M a w := ⟨h.os, h.tape, h.output, h.size, fun b hb => h.block b (by omega) (by omega)⟩
theorem BelowBut.cell (h : BelowBut X N a w) {p : Addr} (h1 : p.block < N) (h2 : p.block ≠ X) : w.cell? p = a.cell? p := World.cell?_of_block (w := a) (h.block p.block h1 h2)
theorem Below.two {N : Nat} {w : World} (hN : N ≤ w.heap.size) (u v : Value) (o : Obj) : Below N w (((w.drew.alloc o).setCell ⟨w.heap.size, 0, none⟩ u).setCell ⟨w.heap.size, 1, none⟩ v) :=
  ((((Below.refl N w).drew).alloc hN o).setCell hN _).setCell hN _
end
/-- a row whose block is as it was -/
theorem owns_block {w w' : World} {B : Nat} {t : TypeId} {size n : Nat} {v : Value} {xs : List Value} (hb : ∀ b, v.ownBlock = some b → w'.heap[b]? = w.heap[b]?) (h : w.ownsRow B t size v n xs) : w'.ownsRow B t size v n xs := by
  refine ⟨h.1, ?_⟩
  rcases h.2 with h1 | ⟨g, c, cur, h1, h2, h3, h4⟩
  · exact Or.inl h1
  · exact Or.inr ⟨g, c, cur, h1, h2, (hb g (by rw [h1]; rfl)).trans h3, h4⟩
end Go.Proofs.YtamglanahpcedaaGreatDoor
