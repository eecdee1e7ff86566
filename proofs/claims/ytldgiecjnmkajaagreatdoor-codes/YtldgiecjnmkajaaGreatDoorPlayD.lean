/-
  OWN TEXT: a step on what the caller has (owner): an entry more, a file more.
-/
import Derived.Test.YtldgiecjnmkajaaGreatDoorPlayC
namespace Go.Proofs.YtldgiecjnmkajaaGreatDoor
open Go.RowKit Go.Lib

attribute [local go_sem ↓] Go.wp_at_zero Go.wp_at_succ

theorem WI.drew {w0 W : World} {H : Obj} {N : Nat} (h : WI w0 H N W) : WI w0 H N W.drew := h.below ((Below.refl _ _).drew)

theorem set_set (w : World) (blk off : Nat) (v v' : Value) : (w.setCell ⟨blk, off, none⟩ v).setCell ⟨blk, off, none⟩ v' = w.setCell ⟨blk, off, none⟩ v' := by
  unfold World.setCell
  simp only
  congr 1
  apply Array.ext_getElem?
  intro j
  simp only [Array.getElem?_modify]
  by_cases hj : blk = j
  · simp only [hj, if_true, Option.map_map]
    congr 1
    funext o
    cases o <;> simp
  · simp only [hj, if_false]

/-- a row is made longer, and the World's cell holds the new one -/
theorem WI.appendEntries {w0 W W' : World} {H : Obj} {N N' m : Nat} {v x : Value} {xs : List Value} (h : WI w0 H N W) (hc : W.cell? ⟨w0.heap.size, 2, none⟩ = some v) (hg : W.grownBy W' v.ownBlock)
    (hx : W'.ownsRow (w0.heap.size + 2) 221 3 x m xs) (hm : m ≤ N') (hN : N ≤ N') : WI w0 H N' (W'.setCell ⟨w0.heap.size, 2, none⟩ x) := by
  obtain ⟨e, n, v0, f, h1, h2, h3⟩ := h.blk
  have hv : v0 = v := by
    have : W.cell? ⟨w0.heap.size, 2, none⟩ = some v0 := by simp [World.cell?, h1, worldCells]
    rw [this] at hc
    exact Option.some.inj hc
  subst hv
  have hs := h.size
  have hlo : ∀ k, k < w0.heap.size + 2 → W'.heap[k]? = W.heap[k]? := fun k hk => hg.block k (by omega) (fun e => by have := (h2.lt k e.symm).1; omega)
  obtain ⟨n2, xs2, hn2, ho2⟩ := h2
  obtain ⟨n3, xs3, hn3, ho3⟩ := h3
  have hf : RowOk W' (w0.heap.size + 2) 54 2 N f := ⟨n3, xs3, hn3, ho3.kept hg (own_apart ho3 ho2 (by decide))⟩
  have h' : WI w0 H N' (W'.setCell ⟨w0.heap.size, 2, none⟩ (.slice none 0 0)) := by
    have hw : ∃ e n v f, W'.heap[w0.heap.size]? = some (.cells (worldCells e n v f) 89 (0, 0)) := ⟨e, n, v0, f, (hlo _ (by omega)).trans h1⟩
    have hset := grown_set W' w0.heap.size 2 (.slice none 0 0)
    refine ⟨⟨?_, ?_, ?_, ?_, ?_⟩, ?_, ?_, ⟨e, n, .slice none 0 0, f, ?_, RowOk.nil _ _ _ _ _, ?_⟩⟩
    · exact hg.os.trans h.low.os
    · exact hg.tape.trans h.low.tape
    · exact hg.output.trans h.low.output
    · have := hg.size
      have := h.low.size
      simp only [World.size_setCell]
      omega
    · intro k hk
      rw [heap_setCell_other W' _ k _ (by simp; omega), hlo k (by omega)]
      exact h.low.block k hk
    · rw [heap_setCell_other W' _ _ _ (by simp), hlo _ (by omega)]
      exact h.head
    · have := hg.size
      simp only [World.size_setCell]
      omega
    · rw [heap_setCell_at _ ((hlo _ (by omega)).trans h1)]
      rfl
    · exact (hf.more hN).kept hset (by
        right
        intro e
        have := (hf.lt _ e).1
        omega)
  have h2' := h'.setEntries x ⟨m, xs, hm, hx.kept (grown_set W' w0.heap.size 2 (.slice none 0 0)) (by
    right
    intro e
    have := (hx.lt _ e).1
    omega)⟩
  have e : (W'.setCell ⟨w0.heap.size, 2, none⟩ (.slice none 0 0)).setCell ⟨w0.heap.size, 2, none⟩ x = W'.setCell ⟨w0.heap.size, 2, none⟩ x := set_set W' w0.heap.size 2 _ _
  rw [e] at h2'
  exact h2'

/-- a row is made longer, and the World's cell holds the new one -/
theorem WI.appendFiles {w0 W W' : World} {H : Obj} {N N' m : Nat} {v x : Value} {xs : List Value} (h : WI w0 H N W) (hc : W.cell? ⟨w0.heap.size, 3, none⟩ = some v) (hg : W.grownBy W' v.ownBlock)
    (hx : W'.ownsRow (w0.heap.size + 2) 54 2 x m xs) (hm : m ≤ N') (hN : N ≤ N') : WI w0 H N' (W'.setCell ⟨w0.heap.size, 3, none⟩ x) := by
  obtain ⟨e, n, f, v0, h1, h3, h2⟩ := h.blk
  have hv : v0 = v := by
    have : W.cell? ⟨w0.heap.size, 3, none⟩ = some v0 := by simp [World.cell?, h1, worldCells]
    rw [this] at hc
    exact Option.some.inj hc
  subst hv
  have hs := h.size
  have hlo : ∀ k, k < w0.heap.size + 2 → W'.heap[k]? = W.heap[k]? := fun k hk => hg.block k (by omega) (fun e => by have := (h2.lt k e.symm).1; omega)
  obtain ⟨n2, xs2, hn2, ho2⟩ := h2
  obtain ⟨n3, xs3, hn3, ho3⟩ := h3
  have hf : RowOk W' (w0.heap.size + 2) 221 3 N f := ⟨n3, xs3, hn3, ho3.kept hg (own_apart ho3 ho2 (by decide))⟩
  have h' : WI w0 H N' (W'.setCell ⟨w0.heap.size, 3, none⟩ (.slice none 0 0)) := by
    have hw : ∃ e n v f, W'.heap[w0.heap.size]? = some (.cells (worldCells e n v f) 89 (0, 0)) := ⟨e, n, f, v0, (hlo _ (by omega)).trans h1⟩
    have hset := grown_set W' w0.heap.size 3 (.slice none 0 0)
    refine ⟨⟨?_, ?_, ?_, ?_, ?_⟩, ?_, ?_, ⟨e, n, f, .slice none 0 0, ?_, ?_, RowOk.nil _ _ _ _ _⟩⟩
    · exact hg.os.trans h.low.os
    · exact hg.tape.trans h.low.tape
    · exact hg.output.trans h.low.output
    · have := hg.size
      have := h.low.size
      simp only [World.size_setCell]
      omega
    · intro k hk
      rw [heap_setCell_other W' _ k _ (by simp; omega), hlo k (by omega)]
      exact h.low.block k hk
    · rw [heap_setCell_other W' _ _ _ (by simp), hlo _ (by omega)]
      exact h.head
    · have := hg.size
      simp only [World.size_setCell]
      omega
    · rw [heap_setCell_at _ ((hlo _ (by omega)).trans h1)]
      rfl
    · exact (hf.more hN).kept hset (by
        right
        intro e
        have := (hf.lt _ e).1
        omega)
  have h2' := h'.setFiles x ⟨m, xs, hm, hx.kept (grown_set W' w0.heap.size 3 (.slice none 0 0)) (by
    right
    intro e
    have := (hx.lt _ e).1
    omega)⟩
  have e : (W'.setCell ⟨w0.heap.size, 3, none⟩ (.slice none 0 0)).setCell ⟨w0.heap.size, 3, none⟩ x = W'.setCell ⟨w0.heap.size, 3, none⟩ x := set_set W' w0.heap.size 3 _ _
  rw [e] at h2'
  exact h2'

set_option maxHeartbeats 16000000 in
set_option maxRecDepth 100000 in
theorem owner_file {w0 W : World} {H : Obj} {N : Nat} (h : WI w0 H N W) (hN : N ≤ 2814749767106) (a b : Int) (s t : ByteArray) :
    Calls Tryz.prog 58 #[.pointer (some ⟨w0.heap.size, 0, none⟩), .agg #[.int .i64 4, .int .i64 a, .int .i64 b, .string s, .string t]] W fun e w' => e = .returned (.tuple #[]) ∧ WI w0 H (N + 1) w' := by
  obtain ⟨i0, hi0, hz0, hz1, hz2⟩ := info_parts info_file
  obtain ⟨f, v, ho, -, ⟨n, xs, hn, hown⟩⟩ := h.own
  have c2 := ho.c3
  have f2 := ho.fr 3
  have hsz := h.size
  have H1 := Lib.hid ((h.box (boxOf 4 a b s t)).drew.box (.cells #[.string s, .string t] 54))
  have hvK : v.ownBlock ≠ some w0.heap.size := fun e => by have := (hown.lt _ e).1; omega
  have hvB : v.ownBlock ≠ some W.heap.size := fun e => by have := (hown.lt _ e).2; omega
  have hKW : w0.heap.size ≠ W.heap.size := by omega
  have b3 : (W.alloc (boxOf 4 a b s t)).cell? ⟨W.heap.size, 3, none⟩ = some (.string s) := by rw [boxOf, World.cell?_alloc_new]; rfl
  have b4 : (W.alloc (boxOf 4 a b s t)).cell? ⟨W.heap.size, 4, none⟩ = some (.string t) := by rw [boxOf, World.cell?_alloc_new]; rfl
  have hlt : w0.heap.size < W.heap.size := by omega
  have d2 : (W.alloc (boxOf 4 a b s t)).cell? ⟨w0.heap.size, 3, none⟩ = some v := by rw [World.cell?_alloc_past _ _ _ hlt]; exact c2
  have g2 : (W.alloc (boxOf 4 a b s t)).frozen? ⟨w0.heap.size, 3, none⟩ = false := by rw [World.frozen?_of_block (Go.heap_alloc_old W _ hlt)]; exact f2
  have hown1 := hown.alloc (boxOf 4 a b s t)
  have hs1 : (W.alloc (boxOf 4 a b s t)).heap.size = W.heap.size + 1 := by simp
  have hs2 : W.heap.size < (W.alloc (boxOf 4 a b s t)).heap.size := by omega
  have hs3 : w0.heap.size + 2 ≤ (W.alloc (boxOf 4 a b s t)).heap.size := by omega
  have hs4 : w0.heap.size < (W.alloc (boxOf 4 a b s t)).heap.size := by omega
  have hn1 : n + 1 ≤ maxLen := by unfold maxLen; omega
  have hby : (n + 1) * 32 ≤ 140737488355328 := by omega
  have hfa : ∀ o, ((W.alloc (boxOf 4 a b s t)).alloc o).drew.frozen? ⟨w0.heap.size, 3, none⟩ = false := fun o => (World.frozen?_of_block (Go.heap_alloc_old (W.alloc (boxOf 4 a b s t)) o hs4)).trans g2
  have hca : ∀ o, ((W.alloc (boxOf 4 a b s t)).alloc o).drew.cell? ⟨w0.heap.size, 3, none⟩ = some v := fun o => (World.cell?_of_block (Go.heap_alloc_old (W.alloc (boxOf 4 a b s t)) o hs4)).trans d2
  clear ho h c2 f2 hown hs1
  go_enter Tryz.func58, Tryz.ntmps58
  go_wp2_with fail
  change Code.wp _ _ _ _ (W.alloc (boxOf 4 a b s t))
  generalize W.alloc (boxOf 4 a b s t) = W1 at *
  generalize W.heap.size = P at *
  generalize hKK : w0.heap.size = K at *
  go_region_law
    ((refine step_append_lies _ (by rfl) _ _ _ (by rfl) (K + 2) 54 i0 _ 2 32 Tryz.underlying28 hi0 hz0 hz1 hz2 rfl (by omega) v n xs (by rfl) ((hown1.alloc _).drew)
        ⟨W1.heap.size, 0, none⟩ 1 1 [.string s, .string t] (by rfl) (by rfl) (World.news_of_block (cs := #[.string s, .string t]) (t := 54) (fr := (0, 0)) (heap_alloc_new W1 _)) (by simp [Value.oneCell'])
        (by omega) hn1 hby (by simp; omega) (W1.heap.size + 1) (by simp) ?_; intro gg cap w1 hown2 hgrow hat hlt2; have hc1 := (hgrow.cell_far (a := ⟨K, 3, none⟩) (by simp; omega) (Ne.symm hvK)).trans (hca _); have hf1 := (hgrow.frozen_far (a := ⟨K, 3, none⟩) (by simp; omega) (Ne.symm hvK)).trans (hfa _)))
  all_goals go_wp2
  all_goals go_end0
  all_goals exact ⟨rfl, by subst hKK; exact H1.out.appendFiles (hca _) hgrow hown2 (by omega) (by omega)⟩

end Go.Proofs.YtldgiecjnmkajaaGreatDoor
