/-
  OWN TEXT: what a script's World holds as long as no list has come out; the looks and marks of nothing.
-/
import Derived.Test.YtldgiecjnmkajaaGreatDoorRefWalkB
import Derived.Test.YtldgiecjnmkajaaGreatDoorNameWalkC
namespace Go.Proofs.YtldgiecjnmkajaaGreatDoor
open Go.RowKit Go.Lib

/-- a row that the caller has -/
def RowOk (W : World) (B : Nat) (t : TypeId) (size N : Nat) (v : Value) : Prop := ∃ n xs, n ≤ N ∧ W.ownsRow B t size v n xs

theorem RowOk.nil (W : World) (B : Nat) (t : TypeId) (size N : Nat) : RowOk W B t size N (.slice none 0 0) := ⟨0, [], Nat.zero_le _, World.ownsRow_nil _ _ _ _⟩
theorem RowOk.kept {W W' : World} {B : Nat} {t : TypeId} {size N : Nat} {v : Value} (h : RowOk W B t size N v) {row : Option Nat} (hg : W.grownBy W' row) (hr : v.ownBlock = none ∨ v.ownBlock ≠ row) : RowOk W' B t size N v := by
  obtain ⟨n, xs, hn, ho⟩ := h
  exact ⟨n, xs, hn, ho.kept hg hr⟩
theorem RowOk.more {W : World} {B : Nat} {t : TypeId} {size N N' : Nat} {v : Value} (h : RowOk W B t size N v) (hN : N ≤ N') : RowOk W B t size N' v := by
  obtain ⟨n, xs, hn, ho⟩ := h
  exact ⟨n, xs, by omega, ho⟩
theorem RowOk.lt {W : World} {B : Nat} {t : TypeId} {size N : Nat} {v : Value} (h : RowOk W B t size N v) : ∀ k, v.ownBlock = some k → B ≤ k ∧ k < W.heap.size := by
  obtain ⟨n, xs, hn, ho⟩ := h
  exact ho.lt

theorem none_or (v : Value) : v.ownBlock = none ∨ v.ownBlock ≠ (none : Option Nat) := by
  cases h : v.ownBlock with
  | none => exact Or.inl rfl
  | some b => exact Or.inr (by simp)

/-- rows of two kinds lie apart -/
theorem own_apart {W : World} {B : Nat} {t t' : TypeId} {size size' n n' : Nat} {v v' : Value} {xs xs' : List Value} (h : W.ownsRow B t size v n xs) (h' : W.ownsRow B t' size' v' n' xs') (ht : t ≠ t') : v.ownBlock = none ∨ v.ownBlock ≠ v'.ownBlock := by
  rcases h.2 with ⟨rfl, _⟩ | ⟨g, cap, cur, rfl, _, hg, _⟩
  · exact Or.inl rfl
  · right
    rcases h'.2 with ⟨rfl, _⟩ | ⟨g', cap', cur', rfl, _, hg', _⟩
    · simp [Value.ownBlock]
    · intro e
      simp only [Value.ownBlock, Option.some.injEq] at e
      subst e
      rw [hg] at hg'
      simp only [Option.some.injEq, Obj.cells.injEq] at hg'
      exact ht hg'.2.1

theorem heap_setCell_at {W : World} {K o : Nat} {cs : Array Value} {t : TypeId} {fr : Nat × Nat} (v : Value) (h : W.heap[K]? = some (.cells cs t fr)) : (W.setCell ⟨K, o, none⟩ v).heap[K]? = some (.cells (cs.setIfInBounds o v) t fr) := by
  simp [World.setCell, Array.getElem?_modify, h]
theorem grown_set (W : World) (K o : Nat) (v : Value) : W.grownBy (W.setCell ⟨K, o, none⟩ v) (some K) :=
  ⟨rfl, rfl, rfl, by simp, fun k _ hne => heap_setCell_other W _ k v (fun e => hne (by rw [e]))⟩

/-- the cells of a World without servers and without lists that came out -/
def worldCells (e n : Int) (v f : Value) : Array Value :=
  #[.int .i64 e, .int .i64 n, v, f, .slice none 0 0, .int .i64 0, .slice none 0 0, .slice none 0 0, .slice none 0 0, .slice none 0 0, .slice none 0 0, .slice none 0 0, .slice none 0 0, .slice none 0 0, .slice none 0 0]

/-- the World of a script, made right behind w0; behind it lies the opening -/
structure WI (w0 : World) (H : Obj) (N : Nat) (W : World) : Prop where
  low : Below w0.heap.size w0 W
  head : W.heap[w0.heap.size + 1]? = some H
  size : w0.heap.size + 2 ≤ W.heap.size
  blk : ∃ (e n : Int) (v f : Value), W.heap[w0.heap.size]? = some (.cells (worldCells e n v f) 89 (0, 0)) ∧ RowOk W (w0.heap.size + 2) 221 3 N v ∧ RowOk W (w0.heap.size + 2) 54 2 N f

theorem WI.more {w0 W : World} {H : Obj} {N N' : Nat} (h : WI w0 H N W) (hN : N ≤ N') : WI w0 H N' W := by
  obtain ⟨e, n, v, f, h1, h2, h3⟩ := h.blk
  exact ⟨h.low, h.head, h.size, ⟨e, n, v, f, h1, h2.more hN, h3.more hN⟩⟩

/-- what changes nothing that lay there -/
theorem WI.below {w0 W W' : World} {H : Obj} {N : Nat} (h : WI w0 H N W) (hb : Below W.heap.size W W') : WI w0 H N W' := by
  obtain ⟨e, n, v, f, h1, h2, h3⟩ := h.blk
  have hs := h.size
  have hg : W.grownBy W' none := ⟨hb.os, hb.tape, hb.output, hb.size, fun k hk _ => hb.block k hk⟩
  exact ⟨h.low.trans (hb.mono (by omega)), (hb.block _ (by omega)).trans h.head, Nat.le_trans hs hb.size,
    ⟨e, n, v, f, (hb.block _ (by omega)).trans h1, h2.kept hg (none_or _), h3.kept hg (none_or _)⟩⟩

/-- a cell of the World's own block is written -/
theorem WI.set {w0 W : World} {H : Obj} {N : Nat} (h : WI w0 H N W) (o : Nat) (x : Value)
    (hx : ∀ e n v f, (∃ e' n' v' f', (worldCells e n v f).setIfInBounds o x = worldCells e' n' v' f' ∧ (v' = v ∨ RowOk W (w0.heap.size + 2) 221 3 N v') ∧ (f' = f ∨ RowOk W (w0.heap.size + 2) 54 2 N f'))) :
    WI w0 H N (W.setCell ⟨w0.heap.size, o, none⟩ x) := by
  obtain ⟨e, n, v, f, h1, h2, h3⟩ := h.blk
  obtain ⟨e', n', v', f', he, hv, hf⟩ := hx e n v f
  have hg := grown_set W w0.heap.size o x
  have hlow : Below w0.heap.size W (W.setCell ⟨w0.heap.size, o, none⟩ x) := ⟨rfl, rfl, rfl, by simp, fun k hk => heap_setCell_other W _ k x (by simp; omega)⟩
  have far : ∀ {t size u}, RowOk W (w0.heap.size + 2) t size N u → RowOk (W.setCell ⟨w0.heap.size, o, none⟩ x) (w0.heap.size + 2) t size N u := fun {t size u} hr => hr.kept hg (by
    right
    intro hu
    have := (hr.lt _ hu).1
    omega)
  refine ⟨h.low.trans hlow, (heap_setCell_other W _ _ x (by simp)).trans h.head, by simpa using h.size, ⟨e', n', v', f', ?_, ?_, ?_⟩⟩
  · rw [heap_setCell_at x h1, he]
  · rcases hv with rfl | hv
    · exact far h2
    · exact far hv
  · rcases hf with rfl | hf
    · exact far h3
    · exact far hf

theorem WI.setSame {w0 W : World} {H : Obj} {N : Nat} (h : WI w0 H N W) (o : Nat) (x : Value) (hx : ∀ e n v f, (worldCells e n v f).setIfInBounds o x = worldCells e n v f) : WI w0 H N (W.setCell ⟨w0.heap.size, o, none⟩ x) :=
  h.set o x fun e n v f => ⟨e, n, v, f, hx e n v f, Or.inl rfl, Or.inl rfl⟩

/-- a cell of the World -/
theorem WI.cells {w0 W : World} {H : Obj} {N : Nat} (h : WI w0 H N W) : ∀ o x, 4 ≤ o → (∀ e n v f, (worldCells e n v f)[o]? = some x) → W.cell? ⟨w0.heap.size, o, none⟩ = some x ∧ W.frozen? ⟨w0.heap.size, o, none⟩ = false := by
  intro o x _ hx
  obtain ⟨e, n, v, f, h1, _, _⟩ := h.blk
  exact ⟨by simp [World.cell?, h1, hx], by simp [World.frozen?, h1]⟩

/-- the cells of the lists that came out: none -/
structure NoneOut (K : Nat) (W : World) : Prop where
  c4 : W.cell? ⟨K, 4, none⟩ = some (.slice none 0 0)
  c6 : W.cell? ⟨K, 6, none⟩ = some (.slice none 0 0)
  c7 : W.cell? ⟨K, 7, none⟩ = some (.slice none 0 0)
  c8 : W.cell? ⟨K, 8, none⟩ = some (.slice none 0 0)
  c9 : W.cell? ⟨K, 9, none⟩ = some (.slice none 0 0)
  c11 : W.cell? ⟨K, 11, none⟩ = some (.slice none 0 0)
  c13 : W.cell? ⟨K, 13, none⟩ = some (.slice none 0 0)
theorem WI.noneOut {w0 W : World} {H : Obj} {N : Nat} (h : WI w0 H N W) : NoneOut w0.heap.size W := by
  have hc : ∀ o x, 4 ≤ o → (∀ e n v f, (worldCells e n v f)[o]? = some x) → W.cell? ⟨w0.heap.size, o, none⟩ = some x := fun o x ho hx => (h.cells o x ho hx).1
  exact ⟨hc 4 _ (by omega) (fun _ _ _ _ => rfl), hc 6 _ (by omega) (fun _ _ _ _ => rfl), hc 7 _ (by omega) (fun _ _ _ _ => rfl), hc 8 _ (by omega) (fun _ _ _ _ => rfl), hc 9 _ (by omega) (fun _ _ _ _ => rfl), hc 11 _ (by omega) (fun _ _ _ _ => rfl), hc 13 _ (by omega) (fun _ _ _ _ => rfl)⟩

set_option maxRecDepth 100000 in
theorem were_none (K : Nat) (W : World) (h : NoneOut K W) :
    Calls Tryz.prog 62 #[.pointer (some ⟨K, 0, none⟩)] W fun e w' => e = .returned (.bool true) ∧ w' = W := by
  have c9 := h.c9
  have c11 := h.c11
  have c13 := h.c13
  clear h
  go_enter Tryz.func62, Tryz.ntmps62
  go_wp2
  go_loop [3] (fun i => i = .int .i64 0) (fun _ => 0)
  case atStart => rfl
  case round =>
    subst hrel
    go_wp2
    go_loop [5] (fun i => i = .int .i64 0) (fun _ => 0)
    case atStart => rfl
    case round =>
      subst hrel
      go_wp2
      go_loop [7] (fun i => i = .int .i64 0) (fun _ => 0)
      case atStart => rfl
      case round =>
        subst hrel
        go_wp2
        go_ret
        exact ⟨rfl, rfl⟩

end Go.Proofs.YtldgiecjnmkajaaGreatDoor
