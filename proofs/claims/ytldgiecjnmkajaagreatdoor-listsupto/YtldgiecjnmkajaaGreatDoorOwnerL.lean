/-
  OWN TEXT: a step on what the caller has (owner), of the script's World.
-/
import Derived.Test.YtldgiecjnmkajaaGreatDoorRoleM
import Derived.Test.YtldgiecjnmkajaaGreatDoorOwnerA
import Derived.Test.YtldgiecjnmkajaaGreatDoorOwnerB
import Derived.Test.YtldgiecjnmkajaaGreatDoorOwnerC
namespace Go.Proofs.YtldgiecjnmkajaaGreatDoor
open Go.RowKit Go.Lib

theorem ownerL {w0 W : World} {H : Obj} {N : Nat} (hX : WX w0 H N W) (hN : N ≤ 2097152) (k a b : Int) (s t : ByteArray) (hs : s.size ≤ 1048576) (hk : k < 7) :
    Calls Tryz.prog 58 #[.pointer (some ⟨w0.heap.size, 0, none⟩), .agg #[.int .i64 k, .int .i64 a, .int .i64 b, .string s, .string t]] W fun e w' => e = .returned (.tuple #[]) ∧ WX w0 H (N + 1) w' := by
  obtain ⟨role, D, h⟩ := hX
  have hz := h.size
  have bx : ∀ {W' : World} (o : Obj), Below W'.heap.size W' (W'.alloc o) := fun o => (Below.refl _ _).alloc (Nat.le_refl _) o
  have hc : (k < 1 ∨ k = 6) ∨ k = 1 ∨ k = 2 ∨ k = 3 ∨ k = 4 ∨ k = 5 := by omega
  rcases hc with hc | rfl | rfl | rfl | rfl | rfl
  · refine (ownerG_none (h.cell 4 (.slice none 0 0) rfl).1 k a b s t hc).mono ?_
    rintro e w' ⟨rfl, rfl⟩
    exact ⟨rfl, role, D, (h.below (bx _)).more (by omega)⟩
  · obtain ⟨c0, f0⟩ := h.cell 0 (.int .i64 D.e) rfl
    obtain ⟨c1, f1⟩ := h.cell 1 (.int .i64 D.n) rfl
    refine (ownerG_head c0 c1 f0 f1 a b s t).mono ?_
    rintro e w' ⟨rfl, rfl⟩
    exact ⟨rfl, role, _, ((h.setHead a b).below (bx _)).more (by omega)⟩
  · obtain ⟨c2, f2⟩ := h.cell 2 D.v rfl
    have hnv := h.nv
    refine (ownerG_entry (K := w0.heap.size) (B := w0.heap.size + 2) (by omega) hz c2 f2 h.ov.1 (by omega) a b s t).mono ?_
    rintro e w' ⟨rfl, gg, cap, w1, rfl, ho, hg, hat⟩
    have hb := h.below (((bx (boxOf 2 a b s t)).trans ((bx (.cells #[.int .i64 a, .int .i64 b, .string s] 221)).mono (by simp))).drew)
    have hes : entCells (D.es ++ [(⟨a, b, s.data.toList⟩ : Mb.Ent)]) = entCells D.es ++ [.int .i64 a, .int .i64 b, .string s] := entCells_snoc D.es ⟨a, b, s.data.toList⟩
    have hsz : ((W.alloc (boxOf 2 a b s t)).alloc (.cells #[.int .i64 a, .int .i64 b, .string s] 221)).drew.heap.size = W.heap.size + 2 := by
      show ((W.alloc (boxOf 2 a b s t)).alloc (.cells #[.int .i64 a, .int .i64 b, .string s] 221)).heap.size = _
      simp
    refine ⟨rfl, _, _, hb.grow_v (N' := N + 1) hg ?_ (by omega) ⟨a, b, s.data.toList⟩ (by show s.data.toList.length ≤ _; rw [← Lib.size_eq]; exact hs) ?_ (by simp; omega)⟩
    · rw [hsz]
      exact hat.elim (fun e => Or.inl e.symm) (fun e => Or.inr (by rw [e]; rfl))
    · rw [hes]
      simpa using ho
  · obtain ⟨c2, f2⟩ := h.cell 2 D.v rfl
    refine (ownerG_bare c2 f2 a b s t).mono ?_
    rintro e w' ⟨rfl, rfl⟩
    exact ⟨rfl, role, _, (h.setBare.below (bx _)).more (by omega)⟩
  · obtain ⟨c3, f3⟩ := h.cell 3 D.f rfl
    have hnf := h.nf
    refine (ownerG_file (K := w0.heap.size) (B := w0.heap.size + 2) (by omega) hz c3 f3 h.of.1 (by omega) a b s t).mono ?_
    rintro e w' ⟨rfl, gg, cap, w1, rfl, ho, hg, hat⟩
    have hb := h.below (((bx (boxOf 4 a b s t)).trans ((bx (.cells #[.string s, .string t] 54)).mono (by simp))).drew)
    have hsz : ((W.alloc (boxOf 4 a b s t)).alloc (.cells #[.string s, .string t] 54)).drew.heap.size = W.heap.size + 2 := by
      show ((W.alloc (boxOf 4 a b s t)).alloc (.cells #[.string s, .string t] 54)).heap.size = _
      simp
    refine ⟨rfl, _, _, hb.grow_f (N' := N + 1) hg ?_ (by omega) (D.fn + 1) _ ho (by omega)⟩
    rw [hsz]
    exact hat.elim (fun e => Or.inl e.symm) (fun e => Or.inr (by rw [e]; rfl))
  · obtain ⟨c3, f3⟩ := h.cell 3 D.f rfl
    refine (ownerG_nofiles c3 f3 a b s t).mono ?_
    rintro e w' ⟨rfl, rfl⟩
    exact ⟨rfl, role, _, (h.setNone.below (bx _)).more (by omega)⟩

end Go.Proofs.YtldgiecjnmkajaaGreatDoor
