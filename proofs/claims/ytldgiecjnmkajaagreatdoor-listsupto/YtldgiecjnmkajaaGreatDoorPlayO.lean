/-
  OWN TEXT: steps in a row; the opening.
-/
import Derived.Test.YtldgiecjnmkajaaGreatDoorPlayZ
namespace Go.Proofs.YtldgiecjnmkajaaGreatDoor
open Go.RowKit Go.Lib

/-- steps that lie in a row -/
def OpsAt (W : World) (b off : Nat) (xs : List OpT) : Prop :=
  ∀ i o, xs[i]? = some o → W.cell? ⟨b, off + i * 5, none⟩ = some (.int .i64 o.kind) ∧ W.cell? ⟨b, off + i * 5 + 1, none⟩ = some (.int .i64 o.a) ∧ W.cell? ⟨b, off + i * 5 + 2, none⟩ = some (.int .i64 o.b) ∧ W.cell? ⟨b, off + i * 5 + 3, none⟩ = some (.string o.s) ∧ W.cell? ⟨b, off + i * 5 + 4, none⟩ = some (.string o.t)

def opCells (o : OpT) : List Value := [.int .i64 o.kind, .int .i64 o.a, .int .i64 o.b, .string o.s, .string o.t]

def em : ByteArray := ⟨#[]⟩
/-- the opening's steps -/
def headOps : List OpT := [
  ⟨7, 0, 0, ⟨#[65]⟩, em⟩, ⟨7, 0, 0, ⟨#[32]⟩, em⟩, ⟨8, 0, 0, ⟨#[61, 52, 49, 61]⟩, em⟩, ⟨8, 0, 0, ⟨#[61, 54, 49, 61]⟩, em⟩,
  ⟨1, 1, 2, em, em⟩, ⟨9, 0, 0, em, em⟩, ⟨2, 1, 2, em, em⟩, ⟨9, 0, 0, em, em⟩, ⟨10, 0, 0, ⟨#[49, 32, 49, 10, 53, 55, 51, 57, 56, 10]⟩, em⟩, ⟨10, 0, 0, ⟨#[49, 32, 49, 10, 53, 55, 51, 57, 57, 10]⟩, em⟩,
  ⟨4, 0, 0, ⟨#[105, 110, 47, 108, 105, 115, 116]⟩, ⟨#[49, 32, 49, 10, 53, 55, 51, 57, 56, 10]⟩⟩, ⟨11, 0, 0, em, em⟩, ⟨12, 0, 0, em, em⟩, ⟨13, 0, 0, ⟨#[105, 110]⟩, ⟨#[97]⟩⟩, ⟨13, 0, 0, ⟨#[111, 117, 116]⟩, ⟨#[97]⟩⟩,
  ⟨14, 0, 0, ⟨#[97, 32, 79, 80, 69, 78, 32, 105, 110, 10]⟩, em⟩, ⟨14, 0, 0, ⟨#[98, 32, 71, 69, 84, 32, 49, 32, 85, 70, 83, 84, 10]⟩, em⟩, ⟨3, 0, 0, em, em⟩, ⟨5, 0, 0, em, em⟩]
def headObj : Obj := .cells (headOps.flatMap opCells).toArray 92

set_option maxHeartbeats 4000000 in
set_option maxRecDepth 100000 in
theorem opening_any (w : World) :
    Calls Tryz.prog 32 #[] w fun e w' => e = .returned (.slice (some ⟨w.heap.size, 0, none⟩) 19 19) ∧ w' = w.alloc headObj := by
  go_enter Tryz.func32, Tryz.ntmps32
  go_wp2
  go_ret
  exact ⟨rfl, rfl⟩

/-- steps by their slice's address -/
def OpsSl (w : World) (a : Option Addr) (xs : List OpT) : Prop := (xs = []) ∨ ∃ b off, a = some ⟨b, off, none⟩ ∧ b < w.heap.size ∧ OpsAt w b off xs

theorem OpsAt.below {w w' : World} {B b off : Nat} {xs : List OpT} (h : OpsAt w b off xs) (hb : Below B w w') (hB : b < B) : OpsAt w' b off xs := by
  intro i o ho
  obtain ⟨h0, h1, h2, h3, h4⟩ := h i o ho
  exact ⟨(hb.cell (p := ⟨b, _, none⟩) hB).trans h0, (hb.cell (p := ⟨b, _, none⟩) hB).trans h1, (hb.cell (p := ⟨b, _, none⟩) hB).trans h2, (hb.cell (p := ⟨b, _, none⟩) hB).trans h3, (hb.cell (p := ⟨b, _, none⟩) hB).trans h4⟩

theorem head_cells (i : Nat) (o : OpT) (h : headOps[i]? = some o) (j : Nat) (hj : j < 5) : (headOps.flatMap opCells)[i * 5 + j]? = (opCells o)[j]? := by
  have hi : i < 19 := by
    have := (List.getElem?_eq_some_iff.1 h).1
    have hl : headOps.length = 19 := rfl
    omega
  have hall : ∀ i : Fin 19, ∀ j : Fin 5, (headOps.flatMap opCells)[i.val * 5 + j.val]? = (headOps[i.val]?).bind (fun o => (opCells o)[j.val]?) := by
    intro i j
    rcases i with ⟨i, hi⟩
    rcases j with ⟨j, hj⟩
    have h1 : i = 0 ∨ i = 1 ∨ i = 2 ∨ i = 3 ∨ i = 4 ∨ i = 5 ∨ i = 6 ∨ i = 7 ∨ i = 8 ∨ i = 9 ∨ i = 10 ∨ i = 11 ∨ i = 12 ∨ i = 13 ∨ i = 14 ∨ i = 15 ∨ i = 16 ∨ i = 17 ∨ i = 18 := by omega
    have h2 : j = 0 ∨ j = 1 ∨ j = 2 ∨ j = 3 ∨ j = 4 := by omega
    rcases h1 with rfl | rfl | rfl | rfl | rfl | rfl | rfl | rfl | rfl | rfl | rfl | rfl | rfl | rfl | rfl | rfl | rfl | rfl | rfl <;> rcases h2 with rfl | rfl | rfl | rfl | rfl <;> rfl
  have := hall ⟨i, hi⟩ ⟨j, hj⟩
  simp only at this
  rw [this, h]
  rfl

end Go.Proofs.YtldgiecjnmkajaaGreatDoor
