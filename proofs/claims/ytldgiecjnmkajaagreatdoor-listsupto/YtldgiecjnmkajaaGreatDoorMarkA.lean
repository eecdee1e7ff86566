/-
  OWN TEXT: markEntries, said of the World's own block and rows.
-/
import Derived.Test.YtldgiecjnmkajaaGreatDoorMarkMath
namespace Go.Proofs.YtldgiecjnmkajaaGreatDoor
open Go.RowKit Go.Lib

theorem info_book : (Tryz.prog.info? 245).map (fun i => (i.zero, i.size, i.bytes)) = some (some (.agg #[.int .i64 0, .int .i64 0, .string ByteArray.empty, .slice none 0 0, .slice none 0 0, .slice none 0 0, .slice none 0 0]), 7, 128) := by kernel_rfl

/-- the World's block, and a list's -/
def onlyKL (K : Nat) (v : Value) : Nat → Nat := fun b => if b = K ∨ v.ownBlock = some b then 1 else 0
theorem onlyKL_K (K : Nat) (v : Value) : onlyKL K v K = 1 := if_pos (Or.inl rfl)
theorem onlyKL_l {K : Nat} {v : Value} {b : Nat} (h : v.ownBlock = some b) : onlyKL K v b = 1 := if_pos (Or.inr h)
theorem onlyKL_not {K : Nat} {v : Value} {b : Nat} (h : b ≠ K) (h2 : v.ownBlock ≠ some b) : onlyKL K v b = 0 := if_neg (fun e => e.elim h h2)

theorem mark_take (l : List Mb.Ent) (k : Nat) (x : Mb.Ent) (hk : k < l.length) : (List.replicate k x ++ l.drop k).set k x = List.replicate (k + 1) x ++ l.drop (k + 1) := by
  rw [List.set_append_right _ _ (by simp)]
  rw [List.drop_eq_getElem_cons hk]
  simp only [List.length_replicate, Nat.sub_self, List.set_cons_zero]
  rw [List.replicate_succ']
  simp

theorem owns_unfrozen {W : World} {B e size n c g : Nat} {xs : List Value} (h : W.ownsRow B e size (.slice (some ⟨g, 0, none⟩) n c) n xs) (o : Nat) : W.frozen? ⟨g, o, none⟩ = false := by
  rcases h.2 with ⟨e1, _⟩ | ⟨g', cap, cur, e1, e2, e3, _⟩
  · cases e1
  · injection e1 with q1 q2 q3
    injection q1 with q1
    injection q1 with q1 _ _
    subst q1
    simp [World.frozen?, e3]

/-- a box of three cells, of seven -/
theorem cells3 {W : World} {M : Nat} {a b c : Value} {t : TypeId} (h : W.heap[M]? = some (.cells #[a, b, c] t (0, 0))) : W.cell? ⟨M, 0, none⟩ = some a ∧ W.cell? ⟨M, 1, none⟩ = some b ∧ W.cell? ⟨M, 2, none⟩ = some c :=
  ⟨by simp [World.cell?, h], by simp [World.cell?, h], by simp [World.cell?, h]⟩
theorem cells7 {W : World} {M : Nat} {a b c d e f g : Value} {t : TypeId} (h : W.heap[M]? = some (.cells #[a, b, c, d, e, f, g] t (0, 0))) : W.cell? ⟨M, 0, none⟩ = some a ∧ W.cell? ⟨M, 1, none⟩ = some b ∧ W.cell? ⟨M, 2, none⟩ = some c ∧ W.cell? ⟨M, 3, none⟩ = some d ∧ W.cell? ⟨M, 4, none⟩ = some e ∧ W.cell? ⟨M, 5, none⟩ = some f ∧ W.cell? ⟨M, 6, none⟩ = some g :=
  ⟨by simp [World.cell?, h], by simp [World.cell?, h], by simp [World.cell?, h], by simp [World.cell?, h], by simp [World.cell?, h], by simp [World.cell?, h], by simp [World.cell?, h]⟩

/-- marks that are laid into a block of their own -/
theorem news_marks (w : World) (k m : Nat) (H : Nat) (hH : w.heap.size = H) (cs : Array Value) (hcs : cs.toList = entCells (List.replicate k (markE m))) (t : TypeId) : ∀ j u, (entCells (List.replicate k (markE m)))[j]? = some u → (w.alloc (.cells cs t)).cell? ((⟨H, 0, none⟩ : Addr).add j) = some u := by
  subst hH
  intro j u hj
  exact World.news_of_block (heap_alloc_new w _) j u (by rw [hcs]; exact hj)

theorem owns_set {w : World} {B e size n : Nat} {v : Value} {xs : List Value} (h : w.ownsRow B e size v n xs) {M o : Nat} (hne : v.ownBlock ≠ some M) (u : Value) : (w.setCell ⟨M, o, none⟩ u).ownsRow B e size v n xs := by
  refine ⟨h.1, ?_⟩
  rcases h.2 with h2 | ⟨g, c, cur, h1, h2, h3, h4⟩
  · exact Or.inl h2
  · refine Or.inr ⟨g, c, cur, h1, h2, ?_, h4⟩
    rw [Below.heap_setCell _ _ _ _ (by
      intro e
      apply hne
      rw [h1]
      exact congrArg some e)]
    exact h3

/-- how far markEntries has come, behind its loop: the mark's box, the book's box, the lists that were made -/
structure Stage (W : World) (K B M1 n m : Nat) (la : Option Addr) (lc : Nat) (w : World) (a b c : Value) (L : List (Value × Nat)) : Prop where
  chg : Chg (onlyKL K (.slice la n lc)) 1 W w
  kb : w.heap[K]? = (W.setCell ⟨K, 5, none⟩ (.int .i64 ((m + 1 : Nat) : Int))).heap[K]?
  m0 : w.heap[W.heap.size]? = some (.cells #[.int .i64 (-((m : Int) + 1)), .int .i64 0, .string ⟨#[109, 97, 114, 107]⟩] 221 (0, 0))
  m1 : w.heap[M1]? = some (.cells #[.int .i64 (-((m : Int) + 1)), .int .i64 0, .string ⟨#[109, 97, 114, 107]⟩, .slice la n lc, a, b, c] 245 (0, 0))
  own : ∀ p ∈ L, w.ownsRow B 221 3 p.1 p.2 (entCells (List.replicate p.2 (markE (m + 1)))) ∧ (p.1.ownBlock = (Value.slice la n lc).ownBlock ∨ ∃ g, p.1.ownBlock = some g ∧ M1 < g)

/-- one append more -/
theorem Stage.next {W : World} {K B M1 n m : Nat} {la : Option Addr} {lc : Nat} {w : World} {a b c : Value} {L : List (Value × Nat)} (h : Stage W K B M1 n m la lc w a b c L) (hK : K < W.heap.size) (hM : W.heap.size < M1) (hlK : (Value.slice la n lc).ownBlock ≠ some K) (hl0 : (Value.slice la n lc).ownBlock ≠ some W.heap.size) (hl1 : (Value.slice la n lc).ownBlock ≠ some M1)
    {X : Obj} {w' : World} (hg : (w.alloc X).grownBy w' (Value.slice la n lc).ownBlock) (hk : ∀ G k, (w.alloc X).ownsRow B 221 3 G k (entCells (List.replicate k (markE (m + 1)))) → w'.ownsRow B 221 3 G k (entCells (List.replicate k (markE (m + 1)))))
    {ga j gc : Nat} (ho : w'.ownsRow B 221 3 (.slice (some ⟨ga, 0, none⟩) j gc) j (entCells (List.replicate j (markE (m + 1))))) (hat : some ga = (Value.slice la n lc).ownBlock ∨ ga = w.heap.size + 1) :
    Stage W K B M1 n m la lc w' a b c ((.slice (some ⟨ga, 0, none⟩) j gc, j) :: L) := by
  have hs : M1 < w.heap.size := (Array.getElem?_eq_some_iff.1 h.m1).1
  have far : ∀ k, k < w.heap.size → (Value.slice la n lc).ownBlock ≠ some k → w'.heap[k]? = w.heap[k]? := fun k hk hne => (hg.block k (by simp; omega) (fun e => hne e.symm)).trans (Go.heap_alloc_old w X hk)
  refine ⟨(h.chg.alloc X).trans (Chg.of_grown hg (fun b hb => onlyKL_l hb)), (far K (by omega) hlK).trans h.kb, (far _ (by omega) hl0).trans h.m0, (far _ hs hl1).trans h.m1, ?_⟩
  intro p hp
  rcases List.mem_cons.1 hp with rfl | hp
  · refine ⟨ho, ?_⟩
    rcases hat with e | e
    · exact Or.inl e
    · exact Or.inr ⟨ga, rfl, by omega⟩
  · obtain ⟨h1, h2⟩ := h.own p hp
    exact ⟨hk _ _ (h1.alloc X), h2⟩
theorem Stage.put {W : World} {K B M1 n m : Nat} {la : Option Addr} {lc : Nat} {w : World} {a b c : Value} {L : List (Value × Nat)} (h : Stage W K B M1 n m la lc w a b c L) (hK : K < W.heap.size) (hM : W.heap.size < M1) (hl1 : (Value.slice la n lc).ownBlock ≠ some M1) (o : Nat) (v a' b' c' : Value)
    (hcs : (#[.int .i64 (-((m : Int) + 1)), .int .i64 0, .string ⟨#[109, 97, 114, 107]⟩, .slice la n lc, a, b, c] : Array Value).setIfInBounds o v = #[.int .i64 (-((m : Int) + 1)), .int .i64 0, .string ⟨#[109, 97, 114, 107]⟩, .slice la n lc, a', b', c']) : Stage W K B M1 n m la lc (w.setCell ⟨M1, o, none⟩ v) a' b' c' L := by
  refine ⟨⟨h.chg.os, h.chg.tape, h.chg.output, by simpa using h.chg.size, fun k hk hr => (Below.heap_setCell _ _ _ _ (by simp; omega)).trans (h.chg.block k hk hr)⟩, (Below.heap_setCell _ _ _ _ (by simp; omega)).trans h.kb, (Below.heap_setCell _ _ _ _ (by simp; omega)).trans h.m0, by rw [heap_set_at v h.m1, hcs], ?_⟩
  intro p hp
  obtain ⟨h1, h2⟩ := h.own p hp
  refine ⟨owns_set h1 (fun e => ?_) v, h2⟩
  rcases h2 with h2 | ⟨g, h2, h3⟩
  · exact hl1 (by rw [← h2]; exact e)
  · rw [h2] at e; cases e; omega

theorem near_l {S M1 ga n c : Nat} {v : Value} (hM : S < M1) (h : (Value.slice (some ⟨ga, 0, none⟩) n c).ownBlock = v.ownBlock ∨ ∃ g, (Value.slice (some ⟨ga, 0, none⟩) n c).ownBlock = some g ∧ M1 < g) : v.ownBlock = some ga ∨ S ≤ ga := by
  rcases h with h | ⟨g', h, h'⟩
  · exact Or.inl h.symm
  · simp only [Value.ownBlock, Option.some.injEq] at h
    exact Or.inr (by omega)

attribute [local go_sem ↓] Go.wp_at_zero Go.wp_at_succ

set_option maxHeartbeats 8000000 in
set_option maxRecDepth 100000 in
theorem mark_raw {W : World} {K B nb m n : Nat} {ba la : Option Addr} {bc lc : Nat} {bs : List Value} {xs : List Mb.Ent} (hn : xs.length = n) (hKB : K < B) (hB : B ≤ W.heap.size)
    (c5 : W.cell? ⟨K, 5, none⟩ = some (.int .i64 (m : Int))) (f5 : W.frozen? ⟨K, 5, none⟩ = false) (c8 : W.cell? ⟨K, 8, none⟩ = some (.slice ba nb bc)) (f8 : W.frozen? ⟨K, 8, none⟩ = false)
    (ob : W.ownsRow B 245 7 (.slice ba nb bc) nb bs) (ol : W.ownsRow B 221 3 (.slice la n lc) n (entCells xs))
    (hap : ∀ b, (Value.slice la n lc).ownBlock = some b → (Value.slice ba nb bc).ownBlock ≠ some b) (hm : m ≤ 4194304) (hnb : nb ≤ 4194304) (hn8 : n ≤ 8) :
    Calls Tryz.prog 65 #[.pointer (some ⟨K, 0, none⟩), .slice la n lc] W fun e w' => e = .returned (.tuple #[]) ∧ ∃ ga1 gc1 ga2 gc2 ga3 gc3 xa xc W4 W5,
      Chg (onlyKL K (.slice la n lc)) 1 W W4 ∧ W4.heap[K]? = (W.setCell ⟨K, 5, none⟩ (.int .i64 ((m + 1 : Nat) : Int))).heap[K]? ∧
      W4.ownsRow B 221 3 (.slice la n lc) n (entCells (List.replicate n (markE (m + 1)))) ∧
      W4.ownsRow B 221 3 (.slice (some ⟨ga1, 0, none⟩) (n + 1) gc1) (n + 1) (entCells (List.replicate (n + 1) (markE (m + 1)))) ∧
      W4.ownsRow B 221 3 (.slice (some ⟨ga2, 0, none⟩) (n + 2) gc2) (n + 2) (entCells (List.replicate (n + 2) (markE (m + 1)))) ∧
      W4.ownsRow B 221 3 (.slice (some ⟨ga3, 0, none⟩) (n + 3) gc3) (n + 3) (entCells (List.replicate (n + 3) (markE (m + 1)))) ∧
      (∀ g ∈ [ga1, ga2, ga3], (Value.slice la n lc).ownBlock = some g ∨ W.heap.size ≤ g) ∧
      W4.grownBy W5 (Value.slice ba nb bc).ownBlock ∧ W5.ownsRow B 245 7 (.slice (some ⟨xa, 0, none⟩) (nb + 1) xc) (nb + 1) (bs ++ [.int .i64 (-((m + 1 : Nat) : Int)), .int .i64 0, .string ⟨#[109, 97, 114, 107]⟩, .slice la n lc, .slice (some ⟨ga1, 0, none⟩) (n + 1) gc1, .slice (some ⟨ga2, 0, none⟩) (n + 2) gc2, .slice (some ⟨ga3, 0, none⟩) (n + 3) gc3]) ∧
      ((Value.slice ba nb bc).ownBlock = some xa ∨ xa = W4.heap.size) ∧ w' = W5.setCell ⟨K, 8, none⟩ (.slice (some ⟨xa, 0, none⟩) (nb + 1) xc) := by
  obtain ⟨i0, hi0, hz0, hz1, hz2⟩ := info_parts info_book
  obtain ⟨j0, hj0, hy0, hy1, hy2⟩ := info_parts info_entry
  have hKW : K < W.heap.size := by omega
  have hlK : (Value.slice la n lc).ownBlock ≠ some K := fun e => by have := (ol.lt _ e).1; omega
  have hbK : (Value.slice ba nb bc).ownBlock ≠ some K := fun e => by have := (ob.lt _ e).1; omega
  have im : (m : Int) ≤ 4194304 := by omega
  have inn : (n : Int) ≤ 8 := by omega
  have hKne : ¬ K = W.heap.size := by omega
  go_enter Tryz.func65, Tryz.ntmps65
  go_wp2
  have HOL := Lib.hid ol
  have HOB := Lib.hid ob
  have HAP := Lib.hid hap
  have HNX := Lib.hid hn
  have hW1 : Chg (onlyKL K (.slice la n lc)) 1 W ((W.setCell ⟨K, 5, none⟩ (.int .i64 ((m : Int) + 1))).alloc (.cells #[.int .i64 (-((m : Int) + 1)), .int .i64 0, .string ⟨#[109, 97, 114, 107]⟩] 221)) := ((Chg.refl _ _ _).setCell (p := ⟨K, 5, none⟩) (onlyKL_K K _) _).alloc _
  have hW2 : ((W.setCell ⟨K, 5, none⟩ (.int .i64 ((m : Int) + 1))).alloc (.cells #[.int .i64 (-((m : Int) + 1)), .int .i64 0, .string ⟨#[109, 97, 114, 107]⟩] 221)).heap[K]? = (W.setCell ⟨K, 5, none⟩ (.int .i64 ((m + 1 : Nat) : Int))).heap[K]? := Go.heap_alloc_old _ _ (by simpa using hKW)
  have hW3 : ((W.setCell ⟨K, 5, none⟩ (.int .i64 ((m : Int) + 1))).alloc (.cells #[.int .i64 (-((m : Int) + 1)), .int .i64 0, .string ⟨#[109, 97, 114, 107]⟩] 221)).heap[W.heap.size]? = some (.cells #[.int .i64 (-((m : Int) + 1)), .int .i64 0, .string ⟨#[109, 97, 114, 107]⟩] 221 (0, 0)) := by
    have := heap_alloc_new (W.setCell ⟨K, 5, none⟩ (.int .i64 ((m : Int) + 1))) (.cells #[.int .i64 (-((m : Int) + 1)), .int .i64 0, .string ⟨#[109, 97, 114, 107]⟩] 221)
    simpa using this
  have hW4 : ((W.setCell ⟨K, 5, none⟩ (.int .i64 ((m : Int) + 1))).alloc (.cells #[.int .i64 (-((m : Int) + 1)), .int .i64 0, .string ⟨#[109, 97, 114, 107]⟩] 221)).ownsRow B 221 3 (.slice la n lc) n (entCells (List.replicate 0 (markE (m + 1)) ++ xs.drop 0)) := (ownsRow_setCell_below ol hKB (a := ⟨K, 5, none⟩) _).alloc _
  have H1 := Lib.hid hW1
  have H2 := Lib.hid hW2
  have H3 := Lib.hid hW3
  have H4 := Lib.hid hW4
  have HC8 := Lib.hid c8
  have HF8 := Lib.hid f8
  clear hW1 hW2 hW3 hW4 ol ob hap hn c5 f5 c8 f8
  go_loopw [5] (fun vi wr => ∃ i : Nat, vi = .int .i64 (i : Int) ∧ i ≤ n ∧ Hid (Chg (onlyKL K (.slice la n lc)) 1 W wr) ∧ Hid (wr.heap[K]? = (W.setCell ⟨K, 5, none⟩ (.int .i64 ((m + 1 : Nat) : Int))).heap[K]?) ∧ Hid (wr.heap[W.heap.size]? = some (.cells #[.int .i64 (-((m : Int) + 1)), .int .i64 0, .string ⟨#[109, 97, 114, 107]⟩] 221 (0, 0))) ∧ Hid (wr.ownsRow B 221 3 (.slice la n lc) n (entCells (List.replicate i (markE (m + 1)) ++ xs.drop i)))) (fun vi _ => n - (RowKit.intOf vi).toNat)
  case atStart => exact ⟨0, rfl, Nat.zero_le _, H1, H2, H3, H4⟩
  case round =>
    clear H1 H2 H3 H4
    obtain ⟨i, rfl, hi, HC, HK, H0, HO⟩ := hrel
    have hsz : W.heap.size + 1 ≤ wr.heap.size := (Array.getElem?_eq_some_iff.1 H0.out).1
    obtain ⟨q0, q1, q2⟩ := cells3 H0.out
    by_cases hlt : i < n
    · obtain ⟨g, cap, e1, e2, e3⟩ := HOL.out.form (by omega)
      injection e1 with e1 _ _
      subst e1
      have hx : i < xs.length := by rw [HNX.out]; exact hlt
      have hcs := HO.out.cells (g := g) rfl
      obtain ⟨d0, d1, d2⟩ := entCells_get (List.replicate i (markE (m + 1)) ++ xs.drop i) i xs[i] (by
        rw [List.getElem?_append_right (by simp), List.length_replicate, Nat.sub_self, List.getElem?_drop, Nat.add_zero]
        exact List.getElem?_eq_getElem hx)
      have a0 := hcs _ _ d0
      have a1 := hcs _ _ d1
      have a2 := hcs _ _ d2
      rw [Lib.add_plain, Nat.zero_add] at a0 a1 a2
      have b0 := owns_unfrozen HO.out (i * 3)
      have b1 := owns_unfrozen HO.out (i * 3 + 1)
      have b2 := owns_unfrozen HO.out (i * 3 + 2)
      have hgK : ¬ g = K := by omega
      have hgM : ¬ g = W.heap.size := by omega
      have i1 : (i : Int) < (n : Int) := by omega
      have HO2 := Lib.hid (owns_stored HO.out i (markE (m + 1)))
      rw [mark_take xs i (markE (m + 1)) hx] at HO2
      have HC2 := Lib.hid (((HC.out.setCell (p := ⟨g, i * 3, none⟩) (onlyKL_l rfl) (.int .i64 (-((m : Int) + 1)))).setCell (p := ⟨g, i * 3 + 1, none⟩) (onlyKL_l rfl) (.int .i64 0)).setCell (p := ⟨g, i * 3 + 2, none⟩) (onlyKL_l rfl) (.string ⟨#[109, 97, 114, 107]⟩))
      have far : ∀ k, k ≠ g → (((wr.setCell ⟨g, i * 3, none⟩ (.int .i64 (-((m : Int) + 1)))).setCell ⟨g, i * 3 + 1, none⟩ (.int .i64 0)).setCell ⟨g, i * 3 + 2, none⟩ (.string ⟨#[109, 97, 114, 107]⟩)).heap[k]? = wr.heap[k]? := fun k hk => by
        rw [Below.heap_setCell _ _ _ _ (by simpa using hk), Below.heap_setCell _ _ _ _ (by simpa using hk), Below.heap_setCell _ _ _ _ (by simpa using hk)]
      have HK2 := Lib.hid ((far K (by omega)).trans HK.out)
      have H02 := Lib.hid ((far W.heap.size (by omega)).trans H0.out)
      clear far d0 d1 d2 hcs HC HK H0 HO
      go_wp2
      refine ⟨⟨i + 1, by first | rfl | (congr 1; omega), by omega, HC2, HK2, H02, HO2⟩, by simp [RowKit.intOf]; omega⟩
    · have hii : i = n := by omega
      subst hii
      have hO := HO.out
      rw [List.drop_of_length_le (by rw [HNX.out]; omega), List.append_nil] at hO
      have hMne : ¬ W.heap.size = wr.heap.size := by omega
      have hMne2 : ¬ wr.heap.size = W.heap.size := by omega
      have hBr : B ≤ wr.heap.size := by omega
      clear HO hlt hi
      have hS0 : Stage W K B wr.heap.size i m la lc (wr.alloc (.cells #[.int .i64 (-((m : Int) + 1)), .int .i64 0, .string ⟨#[109, 97, 114, 107]⟩, .slice la i lc, .slice none 0 0, .slice none 0 0, .slice none 0 0] 245)) (.slice none 0 0) (.slice none 0 0) (.slice none 0 0) [(.slice la i lc, i)] := by
        refine ⟨HC.out.alloc _, (Go.heap_alloc_old wr _ (by omega)).trans HK.out, (Go.heap_alloc_old wr _ (by omega)).trans H0.out, heap_alloc_new wr _, ?_⟩
        intro p hp
        rw [List.mem_singleton] at hp
        subst hp
        exact ⟨hO.alloc _, Or.inl rfl⟩
      have HS0 := Lib.hid hS0
      have hK0 : K < W.heap.size := hKW
      have hM0 : W.heap.size < wr.heap.size := by omega
      clear hS0
      have hlM : (Value.slice la i lc).ownBlock ≠ some W.heap.size := fun e => by have := (HOL.out.lt _ e).2; omega
      have hlM1 : (Value.slice la i lc).ownBlock ≠ some wr.heap.size := fun e => by have := (HOL.out.lt _ e).2; omega
      have hO1 := (hO.alloc (.cells #[.int .i64 (-((m : Int) + 1)), .int .i64 0, .string ⟨#[109, 97, 114, 107]⟩, .slice la i lc, .slice none 0 0, .slice none 0 0, .slice none 0 0] 245)).alloc (.cells #[.int .i64 (-((m : Int) + 1)), .int .i64 0, .string ⟨#[109, 97, 114, 107]⟩] 221)
      have hq0 : ∀ o, (wr.alloc o).cell? ⟨W.heap.size, 0, none⟩ = some (.int .i64 (-((m : Int) + 1))) := fun o => (World.cell?_of_block (a := ⟨W.heap.size, 0, none⟩) (Go.heap_alloc_old wr o hsz)).trans q0
      have hq1 : ∀ o, (wr.alloc o).cell? ⟨W.heap.size, 1, none⟩ = some (.int .i64 0) := fun o => (World.cell?_of_block (a := ⟨W.heap.size, 1, none⟩) (Go.heap_alloc_old wr o hsz)).trans q1
      have hq2 : ∀ o, (wr.alloc o).cell? ⟨W.heap.size, 2, none⟩ = some (.string ⟨#[109, 97, 114, 107]⟩) := fun o => (World.cell?_of_block (a := ⟨W.heap.size, 2, none⟩) (Go.heap_alloc_old wr o hsz)).trans q2
      go_wp2_with (at_builtin; refine wpList_append_marks rfl (.tmp 33) (.tmp 35) 78 rfl B 221 j0 _ 32 Tryz.underlying78 hj0 hy0 hy1 hy2 rfl (markE (m + 1)) la i lc rfl hO1 ⟨wr.heap.size + 1, 0, none⟩ 1 1 rfl (by decide) (news_marks _ 1 (m + 1) _ (by simp) #[.int .i64 (-((m : Int) + 1)), .int .i64 0, .string ⟨#[109, 97, 114, 107]⟩] rfl _) (by unfold maxLen; omega) (by omega) (by simp; omega) (wr.heap.size + 2) (by simp) ?_)
      intro ga1 gc1 w7 o7 g7 at7 k7
      have hsz7 : wr.heap.size + 2 ≤ w7.heap.size := by have := g7.size; simp at this; omega
      have S7 := HS0.out.next hK0 hM0 hlK hlM hlM1 g7 k7 o7 (by simpa using at7)
      obtain ⟨p0, p1, p2⟩ := cells3 S7.m0
      obtain ⟨r0, r1, r2, r3, r4, r5, r6⟩ := cells7 S7.m1
      have t4 := ent_unfrozen S7.m1 4
      have S7' := S7.put hK0 hM0 hlM1 4 (.slice (some ⟨ga1, 0, none⟩) (i + 1) gc1) (.slice (some ⟨ga1, 0, none⟩) (i + 1) gc1) (.slice none 0 0) (.slice none 0 0) rfl
      have hO2 := ((S7'.own (.slice la i lc, i) (by simp)).1).alloc (.cells #[.int .i64 (-((m : Int) + 1)), .int .i64 0, .string ⟨#[109, 97, 114, 107]⟩, .int .i64 (-((m : Int) + 1)), .int .i64 0, .string ⟨#[109, 97, 114, 107]⟩] 221)
      have HS7 := Lib.hid S7'
      clear S7 S7' g7 k7 o7 hO1 hq0 hq1 hq2 HS0 HC HK H0 q0 q1 q2 at7
      go_wp2_with (at_builtin; refine wpList_append_marks rfl (.tmp 38) (.tmp 41) 78 rfl B 221 j0 _ 32 Tryz.underlying78 hj0 hy0 hy1 hy2 rfl (markE (m + 1)) la i lc rfl hO2 ⟨w7.heap.size, 0, none⟩ 2 2 rfl (by decide) (news_marks _ 2 (m + 1) _ (by simp) #[.int .i64 (-((m : Int) + 1)), .int .i64 0, .string ⟨#[109, 97, 114, 107]⟩, .int .i64 (-((m : Int) + 1)), .int .i64 0, .string ⟨#[109, 97, 114, 107]⟩] rfl _) (by unfold maxLen; omega) (by omega) (by simp; omega) (w7.heap.size + 1) (by simp) ?_)
      intro ga2 gc2 w8 o8 g8 at8 k8
      have hsz8 : w7.heap.size + 1 ≤ w8.heap.size := by have := g8.size; simp at this; omega
      have S8 := HS7.out.next hK0 hM0 hlK hlM hlM1 g8 k8 o8 (by simpa using at8)
      obtain ⟨p0, p1, p2⟩ := cells3 S8.m0
      obtain ⟨r0, r1, r2, r3, r4, r5, r6⟩ := cells7 S8.m1
      have t5 := ent_unfrozen S8.m1 5
      have S8' := S8.put hK0 hM0 hlM1 5 (.slice (some ⟨ga2, 0, none⟩) (i + 2) gc2) (.slice (some ⟨ga1, 0, none⟩) (i + 1) gc1) (.slice (some ⟨ga2, 0, none⟩) (i + 2) gc2) (.slice none 0 0) rfl
      have hO3 := ((S8'.own (.slice la i lc, i) (by simp)).1).alloc (.cells #[.int .i64 (-((m : Int) + 1)), .int .i64 0, .string ⟨#[109, 97, 114, 107]⟩, .int .i64 (-((m : Int) + 1)), .int .i64 0, .string ⟨#[109, 97, 114, 107]⟩, .int .i64 (-((m : Int) + 1)), .int .i64 0, .string ⟨#[109, 97, 114, 107]⟩] 221)
      have HS8 := Lib.hid S8'
      clear S8 S8' g8 k8 o8 hO2 HS7 at8 t4
      go_wp2_with (at_builtin; refine wpList_append_marks rfl (.tmp 44) (.tmp 48) 78 rfl B 221 j0 _ 32 Tryz.underlying78 hj0 hy0 hy1 hy2 rfl (markE (m + 1)) la i lc rfl hO3 ⟨w8.heap.size, 0, none⟩ 3 3 rfl (by decide) (news_marks _ 3 (m + 1) _ (by simp) #[.int .i64 (-((m : Int) + 1)), .int .i64 0, .string ⟨#[109, 97, 114, 107]⟩, .int .i64 (-((m : Int) + 1)), .int .i64 0, .string ⟨#[109, 97, 114, 107]⟩, .int .i64 (-((m : Int) + 1)), .int .i64 0, .string ⟨#[109, 97, 114, 107]⟩] rfl _) (by unfold maxLen; omega) (by omega) (by simp; omega) (w8.heap.size + 1) (by simp) ?_)
      intro ga3 gc3 w9 o9 g9 at9 k9
      have hsz9 : w8.heap.size + 1 ≤ w9.heap.size := by have := g9.size; simp at this; omega
      have S9 := HS8.out.next hK0 hM0 hlK hlM hlM1 g9 k9 o9 (by simpa using at9)
      obtain ⟨r0, r1, r2, r3, r4, r5, r6⟩ := cells7 S9.m1
      have t6 := ent_unfrozen S9.m1 6
      have S9' := S9.put hK0 hM0 hlM1 6 (.slice (some ⟨ga3, 0, none⟩) (i + 3) gc3) (.slice (some ⟨ga1, 0, none⟩) (i + 1) gc1) (.slice (some ⟨ga2, 0, none⟩) (i + 2) gc2) (.slice (some ⟨ga3, 0, none⟩) (i + 3) gc3) rfl
      have HS9 := Lib.hid S9'
      clear S9 S9' g9 k9 o9 hO3 HS8 at9 t5 p0 p1 p2
      go_wp2_with fail
      have hob := ((show OwnR (onlyKL K (.slice la i lc)) 0 W B 245 7 (.slice ba nb bc) nb bs from ⟨HOB.out, fun b hb => onlyKL_not (fun e => hbK (by rw [← e]; exact hb)) (fun e => HAP.out b e hb)⟩).kept HS9.out.chg (by omega)).1
      have c8 := (World.cell?_of_block (a := ⟨K, 8, none⟩) HS9.out.kb).trans ((World.cell?_setCell_other W ⟨K, 5, none⟩ ⟨K, 8, none⟩ _ (by simp)).trans HC8.out)
      have f8 : (w9.setCell ⟨wr.heap.size, 6, none⟩ (.slice (some ⟨ga3, 0, none⟩) (i + 3) gc3)).frozen? ⟨K, 8, none⟩ = false := (World.frozen?_of_block (a := ⟨K, 8, none⟩) HS9.out.kb).trans (by simpa using HF8.out)
      obtain ⟨b0, b1, b2, b3, b4, b5, b6⟩ := cells7 HS9.out.m1
      have hsz4 : wr.heap.size < (w9.setCell ⟨wr.heap.size, 6, none⟩ (.slice (some ⟨ga3, 0, none⟩) (i + 3) gc3)).heap.size := by simp; omega
      clear r0 r1 r2 r3 r4 r5 r6 t6
      generalize hW4 : w9.setCell ⟨wr.heap.size, 6, none⟩ (.slice (some ⟨ga3, 0, none⟩) (i + 3) gc3) = W4 at *
      clear hW4
      have hK4 : K < W4.heap.size := by omega
      have hB4 : B ≤ W4.heap.size := by omega
      have hKa : ∀ o, (W4.alloc o).drew.cell? ⟨K, 8, none⟩ = some (.slice ba nb bc) := fun o => (World.cell?_of_block (a := ⟨K, 8, none⟩) (Go.heap_alloc_old W4 o hK4)).trans c8
      have hFa : ∀ o, (W4.alloc o).drew.frozen? ⟨K, 8, none⟩ = false := fun o => (World.frozen?_of_block (a := ⟨K, 8, none⟩) (Go.heap_alloc_old W4 o hK4)).trans f8
      have hn1 : nb + 1 ≤ maxLen := by unfold maxLen; omega
      have hMK : ¬ wr.heap.size = K := by omega
      go_region_law
        ((refine step_append_lies _ (by rfl) (.tmp 55) (.tmp 57) 84 (by rfl) B 245 i0 _ 7 128 Tryz.underlying84 hi0 hz0 hz1 hz2 rfl (by omega) (.slice ba nb bc) nb bs (by rfl) ((hob.alloc _).drew)
            ⟨W4.heap.size, 0, none⟩ 1 1 [.int .i64 (-((m : Int) + 1)), .int .i64 0, .string ⟨#[109, 97, 114, 107]⟩, .slice la i lc, .slice (some ⟨ga1, 0, none⟩) (i + 1) gc1, .slice (some ⟨ga2, 0, none⟩) (i + 2) gc2, .slice (some ⟨ga3, 0, none⟩) (i + 3) gc3] (by rfl) (by rfl) (World.news_of_block (cs := #[.int .i64 (-((m : Int) + 1)), .int .i64 0, .string ⟨#[109, 97, 114, 107]⟩, .slice la i lc, .slice (some ⟨ga1, 0, none⟩) (i + 1) gc1, .slice (some ⟨ga2, 0, none⟩) (i + 2) gc2, .slice (some ⟨ga3, 0, none⟩) (i + 3) gc3]) (t := 245) (fr := (0, 0)) (heap_alloc_new W4 _)) (by simp [Value.oneCell'])
            (by omega) hn1 (by omega) (by simp; omega) (W4.heap.size + 1) (by simp) ?_; intro xa xc W5 o5 g5 at5 lt5; have hc5 := (g5.cell_far (a := ⟨K, 8, none⟩) (by simp; omega) (Ne.symm hbK)).trans (hKa _); have hf5 := (g5.frozen_far (a := ⟨K, 8, none⟩) (by simp; omega) (Ne.symm hbK)).trans (hFa _)))
      all_goals go_wp2
      all_goals go_end0
      all_goals have how := HS9.out.own
      all_goals have q1 := how (.slice la i lc, i) (by simp)
      all_goals have q2 := how (.slice (some ⟨ga1, 0, none⟩) (i + 1) gc1, i + 1) (by simp)
      all_goals have q3 := how (.slice (some ⟨ga2, 0, none⟩) (i + 2) gc2, i + 2) (by simp)
      all_goals have q4 := how (.slice (some ⟨ga3, 0, none⟩) (i + 3) gc3, i + 3) (by simp)
      all_goals refine ⟨rfl, ga1, gc1, ga2, gc2, ga3, gc3, xa, xc, _, W5, (HS9.out.chg.alloc _).drew, (Go.heap_alloc_old W4 _ hK4).trans HS9.out.kb, (q1.1.alloc _).drew, (q2.1.alloc _).drew, (q3.1.alloc _).drew, (q4.1.alloc _).drew, ?_, g5, o5, ?_, rfl⟩
      all_goals try (exact at5.elim Or.inl (fun h => Or.inr (by rw [h]; simp)))
      all_goals intro g hg
      all_goals simp only [List.mem_cons, List.not_mem_nil, or_false] at hg
      all_goals rcases hg with rfl | rfl | rfl
      all_goals first | exact near_l hM0 q2.2 | exact near_l hM0 q3.2 | exact near_l hM0 q4.2

end Go.Proofs.YtldgiecjnmkajaaGreatDoor
