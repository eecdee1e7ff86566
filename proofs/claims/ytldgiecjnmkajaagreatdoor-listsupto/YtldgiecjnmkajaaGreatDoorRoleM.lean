/-
  OWN TEXT: what a script's World holds when lists of entries have come out: blocks have roles, and what changes blocks of one role leaves the others.
  OWN TEXT: a row of the script's World grows, and the World's cell holds the new one.
  OWN TEXT: a list that came out waits from now on.
-/
import Derived.Test.YtldgiecjnmkajaaGreatDoorListWalkI
import Derived.Deep.AppendLies
namespace Go.Proofs.YtldgiecjnmkajaaGreatDoor
open Go.RowKit Go.Lib

/-- only blocks of one role have changed -/
structure Chg (role : Nat → Nat) (r : Nat) (W W' : World) : Prop where
  os : W'.os = W.os
  tape : W'.tape = W.tape
  output : W'.output = W.output
  size : W.heap.size ≤ W'.heap.size
  block : ∀ k, k < W.heap.size → role k ≠ r → W'.heap[k]? = W.heap[k]?

theorem Chg.refl (role : Nat → Nat) (r : Nat) (W : World) : Chg role r W W := ⟨rfl, rfl, rfl, Nat.le_refl _, fun _ _ _ => rfl⟩
theorem Chg.trans {role : Nat → Nat} {r : Nat} {a b c : World} (h : Chg role r a b) (k : Chg role r b c) : Chg role r a c :=
  ⟨k.os.trans h.os, k.tape.trans h.tape, k.output.trans h.output, Nat.le_trans h.size k.size, fun i hi hr => (k.block i (Nat.lt_of_lt_of_le hi h.size) hr).trans (h.block i hi hr)⟩
theorem Chg.of_below {W W' : World} (role : Nat → Nat) (r : Nat) (h : Below W.heap.size W W') : Chg role r W W' := ⟨h.os, h.tape, h.output, h.size, fun k hk _ => h.block k hk⟩
theorem Chg.of_grown {W W' : World} {role : Nat → Nat} {r : Nat} {row : Option Nat} (h : W.grownBy W' row) (hr : ∀ b, row = some b → role b = r) : Chg role r W W' :=
  ⟨h.os, h.tape, h.output, h.size, fun k hk hne => h.block k hk (fun e => hne (hr k e.symm))⟩
theorem Chg.alloc {role : Nat → Nat} {r : Nat} {a w : World} (h : Chg role r a w) (o : Obj) : Chg role r a (w.alloc o) :=
  h.trans (Chg.of_below role r ((Below.refl _ _).alloc (Nat.le_refl _) o))
theorem Chg.drew {role : Nat → Nat} {r : Nat} {a w : World} (h : Chg role r a w) : Chg role r a w.drew := h.trans (Chg.of_below role r ((Below.refl _ _).drew))
theorem Chg.setCell {role : Nat → Nat} {r : Nat} {a w : World} (h : Chg role r a w) {p : Addr} (hp : role p.block = r) (u : Value) : Chg role r a (w.setCell p u) :=
  h.trans ⟨rfl, rfl, rfl, by simp, fun k _ hne => Below.heap_setCell _ _ _ _ (fun e => hne (by rw [e]; exact hp))⟩
theorem Chg.cell {role : Nat → Nat} {r : Nat} {W W' : World} (h : Chg role r W W') {p : Addr} (hp : p.block < W.heap.size) (hr : role p.block ≠ r) : W'.cell? p = W.cell? p := World.cell?_of_block (w := W) (h.block p.block hp hr)
theorem Chg.frozen {role : Nat → Nat} {r : Nat} {W W' : World} (h : Chg role r W W') {p : Addr} (hp : p.block < W.heap.size) (hr : role p.block ≠ r) : W'.frozen? p = W.frozen? p := World.frozen?_of_block (w := W) (h.block p.block hp hr)

/-- an owned row in a block of this role -/
def OwnR (role : Nat → Nat) (r : Nat) (W : World) (B : Nat) (t : TypeId) (size : Nat) (v : Value) (n : Nat) (xs : List Value) : Prop :=
  W.ownsRow B t size v n xs ∧ ∀ b, v.ownBlock = some b → role b = r

theorem OwnR.kept {role : Nat → Nat} {r r' : Nat} {W W' : World} {B : Nat} {t : TypeId} {size n : Nat} {v : Value} {xs : List Value} (h : OwnR role r W B t size v n xs) (hc : Chg role r' W W') (hne : r ≠ r') : OwnR role r W' B t size v n xs := by
  obtain ⟨⟨h1, h2⟩, h3⟩ := h
  refine ⟨⟨h1, ?_⟩, h3⟩
  rcases h2 with h2 | ⟨g, cap, cur, rfl, hb, hg, rest⟩
  · exact Or.inl h2
  · refine Or.inr ⟨g, cap, cur, rfl, hb, ?_, rest⟩
    have hlt : g < W.heap.size := (Array.getElem?_eq_some_iff.1 hg).1
    rw [hc.block g hlt (by rw [h3 g rfl]; exact hne)]
    exact hg
theorem OwnR.role {role role' : Nat → Nat} {r : Nat} {W : World} {B : Nat} {t : TypeId} {size n : Nat} {v : Value} {xs : List Value} (h : OwnR role r W B t size v n xs) (hr : ∀ b, b < W.heap.size → role' b = role b) : OwnR role' r W B t size v n xs :=
  ⟨h.1, fun b hb => by rw [hr b (h.1.lt b hb).2]; exact h.2 b hb⟩
theorem OwnR.nil (role : Nat → Nat) (r : Nat) (W : World) (B : Nat) (t : TypeId) (size : Nat) : OwnR role r W B t size (.slice none 0 0) 0 [] := ⟨World.ownsRow_nil _ _ _ _, fun b hb => by cases hb⟩
theorem OwnR.lt {role : Nat → Nat} {r : Nat} {W : World} {B : Nat} {t : TypeId} {size n : Nat} {v : Value} {xs : List Value} (h : OwnR role r W B t size v n xs) : ∀ b, v.ownBlock = some b → B ≤ b ∧ b < W.heap.size ∧ role b = r :=
  fun b hb => ⟨(h.1.lt b hb).1, (h.1.lt b hb).2, h.2 b hb⟩

/-- a list that nobody writes into any more -/
def ColdE (role : Nat → Nat) (W : World) (v : Value) (xs : List Mb.Ent) : Prop :=
  ∃ a cap, v = .slice a xs.length cap ∧ xs.length ≤ cap ∧ xs.length ≤ 1048576 ∧ (xs = [] ∨ ∃ b off, a = some ⟨b, off, none⟩ ∧ b < W.heap.size ∧ role b = 7 ∧ EntsAt W b off xs)

theorem ColdE.kept {role : Nat → Nat} {r : Nat} {W W' : World} {v : Value} {xs : List Mb.Ent} (h : ColdE role W v xs) (hc : Chg role r W W') (hne : r ≠ 7) : ColdE role W' v xs := by
  obtain ⟨a, cap, h1, h2, h3, h4⟩ := h
  refine ⟨a, cap, h1, h2, h3, ?_⟩
  rcases h4 with h4 | ⟨b, off, h5, h6, h7, h8⟩
  · exact Or.inl h4
  · refine Or.inr ⟨b, off, h5, Nat.lt_of_lt_of_le h6 hc.size, h7, fun i x hx => ?_⟩
    obtain ⟨c0, c1, c2⟩ := h8 i x hx
    have hk : ∀ o, W'.cell? ⟨b, o, none⟩ = W.cell? ⟨b, o, none⟩ := fun o => hc.cell (p := ⟨b, o, none⟩) h6 (by rw [h7]; exact Ne.symm hne)
    exact ⟨(hk _).trans c0, (hk _).trans c1, (hk _).trans c2⟩
theorem ColdE.role {role role' : Nat → Nat} {W : World} {v : Value} {xs : List Mb.Ent} (h : ColdE role W v xs) (hr : ∀ b, b < W.heap.size → role b = 7 → role' b = 7) : ColdE role' W v xs := by
  obtain ⟨a, cap, h1, h2, h3, h4⟩ := h
  refine ⟨a, cap, h1, h2, h3, ?_⟩
  rcases h4 with h4 | ⟨b, off, h5, h6, h7, h8⟩
  · exact Or.inl h4
  · exact Or.inr ⟨b, off, h5, h6, hr b h6 h7, h8⟩
theorem ColdE.nil (role : Nat → Nat) (W : World) : ColdE role W (.slice none 0 0) [] := ⟨none, 0, rfl, Nat.le_refl _, by decide, Or.inl rfl⟩
theorem ColdE.slAt {role : Nat → Nat} {W : World} {v : Value} {xs : List Mb.Ent} (h : ColdE role W v xs) : ∃ a cap, v = .slice a xs.length cap ∧ xs.length ≤ cap ∧ xs.length ≤ 1048576 ∧ SlAt W a xs := by
  obtain ⟨a, cap, h1, h2, h3, h4⟩ := h
  refine ⟨a, cap, h1, h2, h3, ?_⟩
  rcases h4 with h4 | ⟨b, off, h5, h6, _, h8⟩
  · exact Or.inl h4
  · exact Or.inr ⟨b, off, h5, h6, h8⟩

/-- a mark -/
def markE (m : Nat) : Mb.Ent := ⟨-(m : Int), 0, [109, 97, 114, 107]⟩

/-- a list that came out and was marked, and what was made of it -/
structure Book where
  m : Nat
  l : Value
  g1 : Value
  g2 : Value
  g3 : Value
  n : Nat
def Book.cells (b : Book) : List Value := [.int .i64 (-(b.m : Int)), .int .i64 0, .string ⟨#[109, 97, 114, 107]⟩, b.l, b.g1, b.g2, b.g3]
structure Book.Ok (role : Nat → Nat) (W : World) (b : Book) : Prop where
  l : ColdE role W b.l (List.replicate b.n (markE b.m))
  g1 : ColdE role W b.g1 (List.replicate (b.n + 1) (markE b.m))
  g2 : ColdE role W b.g2 (List.replicate (b.n + 2) (markE b.m))
  g3 : ColdE role W b.g3 (List.replicate (b.n + 3) (markE b.m))
theorem Book.Ok.kept {role : Nat → Nat} {r : Nat} {W W' : World} {b : Book} (h : b.Ok role W) (hc : Chg role r W W') (hne : r ≠ 7) : b.Ok role W' := ⟨h.l.kept hc hne, h.g1.kept hc hne, h.g2.kept hc hne, h.g3.kept hc hne⟩
theorem Book.Ok.role {role role' : Nat → Nat} {W : World} {b : Book} (h : b.Ok role W) (hr : ∀ b, b < W.heap.size → role b = 7 → role' b = 7) : b.Ok role' W := ⟨h.l.role hr, h.g1.role hr, h.g2.role hr, h.g3.role hr⟩

/-- a list that came out, and waits -/
structure Wait where
  val : Value
  was : Value
  xs : List Mb.Ent
structure Wait.Ok (role : Nat → Nat) (i : Nat) (B : Nat) (W : World) (x : Wait) : Prop where
  own : OwnR role (8 + i) W B 221 3 x.val x.xs.length (entCells x.xs)
  was : ColdE role W x.was x.xs
  len : x.xs.length ≤ 8
theorem Wait.Ok.kept {role : Nat → Nat} {i B r : Nat} {W W' : World} {x : Wait} (h : x.Ok role i B W) (hc : Chg role r W W') (hne : r < 7) : x.Ok role i B W' := ⟨h.own.kept hc (by omega), h.was.kept hc (by omega), h.len⟩
theorem Wait.Ok.keptW {role : Nat → Nat} {i j B : Nat} {W W' : World} {x : Wait} (h : x.Ok role i B W) (hc : Chg role (8 + j) W W') (hne : i ≠ j) : x.Ok role i B W' := ⟨h.own.kept hc (by omega), h.was.kept hc (by omega), h.len⟩
theorem Wait.Ok.role {role role' : Nat → Nat} {i B : Nat} {W : World} {x : Wait} (h : x.Ok role i B W) (hr : ∀ b, b < W.heap.size → role b = 7 → role' b = 7) (hr2 : ∀ b, b < W.heap.size → role b = 8 + i → role' b = 8 + i) : x.Ok role' i B W :=
  ⟨⟨h.own.1, fun b hb => hr2 b (h.own.1.lt b hb).2 (h.own.2 b hb)⟩, h.was.role hr, h.len⟩

/-- what the World's block tells -/
structure Wd where
  e : Int
  n : Int
  v : Value
  f : Value
  m : Nat
  bk : Value
  wt : Value
  we : Value
  es : List Mb.Ent
  fn : Nat
  fx : List Value
  books : List Book
  waits : List Wait
def Wd.cells (D : Wd) : Array Value :=
  #[.int .i64 D.e, .int .i64 D.n, D.v, D.f, .slice none 0 0, .int .i64 D.m, .slice none 0 0, .slice none 0 0, D.bk, .slice none 0 0, .slice none 0 0, .slice none 0 0, .slice none 0 0, D.wt, D.we]

/-- the World of a script, made right behind w0; behind it lies the opening; d of the lists that wait are marked already -/
structure WL (w0 : World) (H : Obj) (N : Nat) (d : Nat) (role : Nat → Nat) (D : Wd) (W : World) : Prop where
  low : Below w0.heap.size w0 W
  head : W.heap[w0.heap.size + 1]? = some H
  size : w0.heap.size + 2 ≤ W.heap.size
  blk : W.heap[w0.heap.size]? = some (.cells D.cells 89 (0, 0))
  rlow : ∀ k, k < w0.heap.size → role k = 0
  rworld : role w0.heap.size = 1
  rhead : role (w0.heap.size + 1) = 0
  ov : OwnR role 2 W (w0.heap.size + 2) 221 3 D.v D.es.length (entCells D.es)
  fv : ∀ x ∈ D.es, x.flags.length ≤ 1048576
  nv : D.es.length ≤ N
  of : OwnR role 3 W (w0.heap.size + 2) 54 2 D.f D.fn D.fx
  nf : D.fn ≤ N
  ob : OwnR role 4 W (w0.heap.size + 2) 245 7 D.bk D.books.length (D.books.flatMap Book.cells)
  ow : OwnR role 5 W (w0.heap.size + 2) 78 1 D.wt D.waits.length (D.waits.map (·.val))
  oe : OwnR role 6 W (w0.heap.size + 2) 78 1 D.we D.waits.length (D.waits.map (·.was))
  books : ∀ b ∈ D.books, b.Ok role W
  waits : ∀ i x, d ≤ i → D.waits[i]? = some x → x.Ok role i (w0.heap.size + 2) W
  dn : d ≤ D.waits.length
  nb : D.books.length + (D.waits.length - d) ≤ 2 * N
  m : D.m = D.books.length

theorem WL.more {w0 W : World} {H : Obj} {N N' d : Nat} {role : Nat → Nat} {D : Wd} (h : WL w0 H N d role D W) (hN : N ≤ N') : WL w0 H N' d role D W :=
  { h with nv := by have := h.nv; omega, nf := by have := h.nf; omega, nb := by have := h.nb; omega }

/-- blocks of a role that nothing here has were changed -/
theorem WL.other {w0 W W' : World} {H : Obj} {N d r : Nat} {role : Nat → Nat} {D : Wd} (h : WL w0 H N d role D W) (hc : Chg role r W W') (h0 : r ≠ 0) (h1 : r ≠ 1) (h2 : r ≠ 2) (h3 : r ≠ 3) (h4 : r ≠ 4) (h5 : r ≠ 5) (h6 : r ≠ 6) (h7 : r ≠ 7) (h8 : ∀ i, r = 8 + i → i < d) : WL w0 H N d role D W' := by
  have hs := h.size
  have hz := hc.size
  refine { h with low := ⟨hc.os.trans h.low.os, hc.tape.trans h.low.tape, hc.output.trans h.low.output, Nat.le_trans h.low.size hz, fun k hk => (hc.block k (by omega) (by rw [h.rlow k hk]; omega)).trans (h.low.block k hk)⟩, head := (hc.block _ (by omega) (by rw [h.rhead]; omega)).trans h.head, size := by omega, blk := (hc.block _ (by omega) (by rw [h.rworld]; omega)).trans h.blk, ov := h.ov.kept hc (Ne.symm h2), of := h.of.kept hc (Ne.symm h3), ob := h.ob.kept hc (Ne.symm h4), ow := h.ow.kept hc (Ne.symm h5), oe := h.oe.kept hc (Ne.symm h6), books := fun b hb => (h.books b hb).kept hc h7, waits := ?_ }
  intro i x hi hx
  have := h.waits i x hi hx
  refine ⟨this.own.kept hc (fun e => ?_), this.was.kept hc h7, this.len⟩
  have := h8 i e.symm
  omega

/-- nothing that lay there has changed -/
theorem WL.below {w0 W W' : World} {H : Obj} {N d : Nat} {role : Nat → Nat} {D : Wd} (h : WL w0 H N d role D W) (hb : Below W.heap.size W W') : WL w0 H N d role D W' := by
  have hs := h.size
  refine { h with low := h.low.trans (hb.mono (by omega)), head := (hb.block _ (by omega)).trans h.head, size := Nat.le_trans hs hb.size, blk := (hb.block _ (by omega)).trans h.blk, ov := h.ov.kept (Chg.of_below role 100 hb) (by omega), of := h.of.kept (Chg.of_below role 100 hb) (by omega), ob := h.ob.kept (Chg.of_below role 100 hb) (by omega), ow := h.ow.kept (Chg.of_below role 100 hb) (by omega), oe := h.oe.kept (Chg.of_below role 100 hb) (by omega), books := fun b hq => (h.books b hq).kept (Chg.of_below role 100 hb) (by omega), waits := fun i x hi hx => (h.waits i x hi hx).kept (Chg.of_below role 0 hb) (by omega) }

/-- new blocks get roles -/
theorem WL.role {w0 W : World} {H : Obj} {N d : Nat} {role role' : Nat → Nat} {D : Wd} (h : WL w0 H N d role D W) (hr : ∀ b, b < W.heap.size → role' b = role b) : WL w0 H N d role' D W := by
  have hs := h.size
  exact { h with rlow := fun k hk => (hr k (by omega)).trans (h.rlow k hk), rworld := (hr _ (by omega)).trans h.rworld, rhead := (hr _ (by omega)).trans h.rhead, ov := h.ov.role hr, of := h.of.role hr, ob := h.ob.role hr, ow := h.ow.role hr, oe := h.oe.role hr, books := fun b hb => (h.books b hb).role fun k hk hk2 => (hr k hk).trans hk2, waits := fun i x hi hx => (h.waits i x hi hx).role (fun k hk hk2 => (hr k hk).trans hk2) (fun k hk hk2 => (hr k hk).trans hk2) }

/-- cells of the World -/
theorem WL.cell {w0 W : World} {H : Obj} {N d : Nat} {role : Nat → Nat} {D : Wd} (h : WL w0 H N d role D W) (o : Nat) (x : Value) (hx : D.cells[o]? = some x) : W.cell? ⟨w0.heap.size, o, none⟩ = some x ∧ W.frozen? ⟨w0.heap.size, o, none⟩ = false :=
  ⟨by simp [World.cell?, h.blk, hx], by simp [World.frozen?, h.blk]⟩

/-- a World of some such kind -/
def WX (w0 : World) (H : Obj) (N : Nat) (W : World) : Prop := ∃ role D, WL w0 H N 0 role D W
theorem WX.more {w0 W : World} {H : Obj} {N N' : Nat} (h : WX w0 H N W) (hN : N ≤ N') : WX w0 H N' W := by
  obtain ⟨role, D, h⟩ := h
  exact ⟨role, D, h.more hN⟩
theorem WX.below {w0 W W' : World} {H : Obj} {N : Nat} (h : WX w0 H N W) (hb : Below W.heap.size W W') : WX w0 H N W' := by
  obtain ⟨role, D, h⟩ := h
  exact ⟨role, D, h.below hb⟩
theorem WX.box {w0 W : World} {H : Obj} {N : Nat} (h : WX w0 H N W) (o : Obj) : WX w0 H N (W.alloc o) := h.below ((Below.refl _ _).alloc (Nat.le_refl _) _)
theorem WX.low {w0 W : World} {H : Obj} {N : Nat} (h : WX w0 H N W) : Below w0.heap.size w0 W := by
  obtain ⟨role, D, h⟩ := h
  exact h.low
theorem WX.head {w0 W : World} {H : Obj} {N : Nat} (h : WX w0 H N W) : W.heap[w0.heap.size + 1]? = some H := by
  obtain ⟨role, D, h⟩ := h
  exact h.head

end Go.Proofs.YtldgiecjnmkajaaGreatDoor
namespace Go.Proofs.YtldgiecjnmkajaaGreatDoor
open Go.RowKit Go.Lib

theorem heap_set_at {W : World} {K o : Nat} {cs : Array Value} {t : TypeId} {fr : Nat × Nat} (v : Value) (h : W.heap[K]? = some (.cells cs t fr)) : (W.setCell ⟨K, o, none⟩ v).heap[K]? = some (.cells (cs.setIfInBounds o v) t fr) := by
  simp [World.setCell, Array.getElem?_modify, h]

/-- a World's facts but for its rows and lists -/
structure WB (w0 : World) (H : Obj) (role : Nat → Nat) (cs : Array Value) (W : World) : Prop where
  low : Below w0.heap.size w0 W
  head : W.heap[w0.heap.size + 1]? = some H
  size : w0.heap.size + 2 ≤ W.heap.size
  blk : W.heap[w0.heap.size]? = some (.cells cs 89 (0, 0))
  rlow : ∀ k, k < w0.heap.size → role k = 0
  rworld : role w0.heap.size = 1
  rhead : role (w0.heap.size + 1) = 0
theorem WL.wb {w0 W : World} {H : Obj} {N d : Nat} {role : Nat → Nat} {D : Wd} (h : WL w0 H N d role D W) : WB w0 H role D.cells W := ⟨h.low, h.head, h.size, h.blk, h.rlow, h.rworld, h.rhead⟩
theorem WB.chg {w0 W W' : World} {H : Obj} {role : Nat → Nat} {cs : Array Value} {r : Nat} (h : WB w0 H role cs W) (hc : Chg role r W W') (hr : 2 ≤ r) : WB w0 H role cs W' := by
  have hs := h.size
  have hz := hc.size
  exact { h with low := ⟨hc.os.trans h.low.os, hc.tape.trans h.low.tape, hc.output.trans h.low.output, Nat.le_trans h.low.size hz, fun k hk => (hc.block k (by omega) (by rw [h.rlow k hk]; omega)).trans (h.low.block k hk)⟩, head := (hc.block _ (by omega) (by rw [h.rhead]; omega)).trans h.head, size := by omega, blk := (hc.block _ (by omega) (by rw [h.rworld]; omega)).trans h.blk }
theorem WB.set {w0 W : World} {H : Obj} {role : Nat → Nat} {cs : Array Value} (h : WB w0 H role cs W) (o : Nat) (x : Value) : WB w0 H role (cs.setIfInBounds o x) (W.setCell ⟨w0.heap.size, o, none⟩ x) := by
  have hs := h.size
  exact { h with low := h.low.trans ⟨rfl, rfl, rfl, by simp, fun k hk => Below.heap_setCell _ _ _ _ (by simp; omega)⟩, head := (Below.heap_setCell _ _ _ _ (by simp)).trans h.head, size := by simpa using hs, blk := heap_set_at x h.blk }

theorem WL.setWorld {w0 W : World} {H : Obj} {N d : Nat} {role : Nat → Nat} {D : Wd} (h : WL w0 H N d role D W) (o : Nat) (x : Value) : Chg role 1 W (W.setCell ⟨w0.heap.size, o, none⟩ x) := (Chg.refl _ _ _).setCell h.rworld x

/-- the list's head is written -/
theorem WL.setHead {w0 W : World} {H : Obj} {N d : Nat} {role : Nat → Nat} {D : Wd} (h : WL w0 H N d role D W) (a b : Int) : WL w0 H N d role { D with e := a, n := b } ((W.setCell ⟨w0.heap.size, 0, none⟩ (.int .i64 a)).setCell ⟨w0.heap.size, 1, none⟩ (.int .i64 b)) := by
  have hb := (h.wb.set 0 (.int .i64 a)).set 1 (.int .i64 b)
  have hc : Chg role 1 W ((W.setCell ⟨w0.heap.size, 0, none⟩ (.int .i64 a)).setCell ⟨w0.heap.size, 1, none⟩ (.int .i64 b)) := ((Chg.refl _ _ _).setCell h.rworld _).setCell h.rworld _
  exact { low := hb.low, head := hb.head, size := hb.size, blk := hb.blk, rlow := h.rlow, rworld := h.rworld, rhead := h.rhead, ov := h.ov.kept hc (by omega), fv := h.fv, nv := h.nv, of := h.of.kept hc (by omega), nf := h.nf, ob := h.ob.kept hc (by omega), ow := h.ow.kept hc (by omega), oe := h.oe.kept hc (by omega), books := fun b hq => (h.books b hq).kept hc (by omega), waits := fun i x hi hx => (h.waits i x hi hx).kept hc (by omega), dn := h.dn, nb := h.nb, m := h.m }

/-- the caller's list is bare -/
theorem WL.setBare {w0 W : World} {H : Obj} {N d : Nat} {role : Nat → Nat} {D : Wd} (h : WL w0 H N d role D W) : WL w0 H N d role { D with v := .slice none 0 0, es := [] } (W.setCell ⟨w0.heap.size, 2, none⟩ (.slice none 0 0)) := by
  have hb := h.wb.set 2 (.slice none 0 0)
  have hc := h.setWorld 2 (.slice none 0 0)
  exact { low := hb.low, head := hb.head, size := hb.size, blk := hb.blk, rlow := h.rlow, rworld := h.rworld, rhead := h.rhead, ov := OwnR.nil _ _ _ _ _ _, fv := fun x hx => absurd hx List.not_mem_nil, nv := Nat.zero_le _, of := h.of.kept hc (by omega), nf := h.nf, ob := h.ob.kept hc (by omega), ow := h.ow.kept hc (by omega), oe := h.oe.kept hc (by omega), books := fun b hq => (h.books b hq).kept hc (by omega), waits := fun i x hi hx => (h.waits i x hi hx).kept hc (by omega), dn := h.dn, nb := h.nb, m := h.m }

/-- the caller has no files -/
theorem WL.setNone {w0 W : World} {H : Obj} {N d : Nat} {role : Nat → Nat} {D : Wd} (h : WL w0 H N d role D W) : WL w0 H N d role { D with f := .slice none 0 0, fn := 0, fx := [] } (W.setCell ⟨w0.heap.size, 3, none⟩ (.slice none 0 0)) := by
  have hb := h.wb.set 3 (.slice none 0 0)
  have hc := h.setWorld 3 (.slice none 0 0)
  exact { low := hb.low, head := hb.head, size := hb.size, blk := hb.blk, rlow := h.rlow, rworld := h.rworld, rhead := h.rhead, ov := h.ov.kept hc (by omega), fv := h.fv, nv := h.nv, of := OwnR.nil _ _ _ _ _ _, nf := Nat.zero_le _, ob := h.ob.kept hc (by omega), ow := h.ow.kept hc (by omega), oe := h.oe.kept hc (by omega), books := fun b hq => (h.books b hq).kept hc (by omega), waits := fun i x hi hx => (h.waits i x hi hx).kept hc (by omega), dn := h.dn, nb := h.nb, m := h.m }

/-- the lists that waited are marked: none waits any more -/
theorem WL.settled {w0 W : World} {H : Obj} {N : Nat} {role : Nat → Nat} {D : Wd} (h : WL w0 H N D.waits.length role D W) : WL w0 H N 0 role { D with wt := .slice none 0 0, we := .slice none 0 0, waits := [] } ((((((W.setCell ⟨w0.heap.size, 9, none⟩ (.slice none 0 0)).setCell ⟨w0.heap.size, 10, none⟩ (.slice none 0 0)).setCell ⟨w0.heap.size, 11, none⟩ (.slice none 0 0)).setCell ⟨w0.heap.size, 12, none⟩ (.slice none 0 0)).setCell ⟨w0.heap.size, 13, none⟩ (.slice none 0 0)).setCell ⟨w0.heap.size, 14, none⟩ (.slice none 0 0)) := by
  have hb := (((((h.wb.set 9 (.slice none 0 0)).set 10 (.slice none 0 0)).set 11 (.slice none 0 0)).set 12 (.slice none 0 0)).set 13 (.slice none 0 0)).set 14 (.slice none 0 0)
  have hc : Chg role 1 W ((((((W.setCell ⟨w0.heap.size, 9, none⟩ (.slice none 0 0)).setCell ⟨w0.heap.size, 10, none⟩ (.slice none 0 0)).setCell ⟨w0.heap.size, 11, none⟩ (.slice none 0 0)).setCell ⟨w0.heap.size, 12, none⟩ (.slice none 0 0)).setCell ⟨w0.heap.size, 13, none⟩ (.slice none 0 0)).setCell ⟨w0.heap.size, 14, none⟩ (.slice none 0 0)) := ((((((Chg.refl _ _ _).setCell h.rworld _).setCell h.rworld _).setCell h.rworld _).setCell h.rworld _).setCell h.rworld _).setCell h.rworld _
  exact { low := hb.low, head := hb.head, size := hb.size, blk := hb.blk, rlow := h.rlow, rworld := h.rworld, rhead := h.rhead, ov := h.ov.kept hc (by omega), fv := h.fv, nv := h.nv, of := h.of.kept hc (by omega), nf := h.nf, ob := h.ob.kept hc (by omega), ow := OwnR.nil _ _ _ _ _ _, oe := OwnR.nil _ _ _ _ _ _, books := fun b hq => (h.books b hq).kept hc (by omega), waits := fun i x _ hx => by simp at hx, dn := Nat.le_refl _, nb := by have := h.nb; simp; omega, m := h.m }

/-- roles with one more -/
def roleAt (role : Nat → Nat) (K r : Nat) : Nat → Nat := fun b => if b = K then r else role b
theorem roleAt_old {role : Nat → Nat} {K r b : Nat} (h : b < K) : roleAt role K r b = role b := if_neg (by omega)
theorem roleAt_new (role : Nat → Nat) (K r : Nat) : roleAt role K r K = r := if_pos rfl

theorem WL.grow_v {w0 W W' : World} {H : Obj} {N N' d : Nat} {role : Nat → Nat} {D : Wd} {x : Value} (h : WL w0 H N d role D W) (hg : W.grownBy W' D.v.ownBlock) (hat : x.ownBlock = D.v.ownBlock ∨ x.ownBlock = some W.heap.size) (hN : N ≤ N') (e : Mb.Ent) (he : e.flags.length ≤ 1048576) (hx : W'.ownsRow (w0.heap.size + 2) 221 3 x (D.es ++ [e]).length (entCells (D.es ++ [e]))) (hl : (D.es ++ [e]).length ≤ N') :
    WL w0 H N' d (roleAt role W.heap.size 2) { D with v := x, es := D.es ++ [e] } (W'.setCell ⟨w0.heap.size, 2, none⟩ x) := by
  have hs := h.size
  have h1 := h.role (role' := roleAt role W.heap.size 2) (fun b hb => roleAt_old hb)
  have hc : Chg (roleAt role W.heap.size 2) 2 W W' := Chg.of_grown hg h1.ov.2
  have hxr : ∀ b, x.ownBlock = some b → roleAt role W.heap.size 2 b = 2 := by
    intro b hb
    rcases hat with e | e
    · exact h1.ov.2 b (by rw [← e]; exact hb)
    · rw [e] at hb
      cases hb
      exact roleAt_new _ _ _
  have hb := (h1.wb.chg hc (by omega)).set 2 x
  have hcs : Chg (roleAt role W.heap.size 2) 1 W' (W'.setCell ⟨w0.heap.size, 2, none⟩ x) := (Chg.refl _ _ _).setCell h1.rworld x
  have q1 := h.nv
  have q2 := h.nf
  have q3 := h.nb
  have q4 := h.dn
  exact { low := hb.low, head := hb.head, size := hb.size, blk := hb.blk, rlow := h1.rlow, rworld := h1.rworld, rhead := h1.rhead, ov := (show OwnR (roleAt role W.heap.size 2) 2 W' (w0.heap.size + 2) 221 3 x _ _ from ⟨hx, hxr⟩).kept hcs (by omega), of := (h1.of.kept hc (by omega)).kept hcs (by omega), ob := (h1.ob.kept hc (by omega)).kept hcs (by omega), ow := (h1.ow.kept hc (by omega)).kept hcs (by omega), oe := (h1.oe.kept hc (by omega)).kept hcs (by omega), books := fun b hq => ((h1.books b hq).kept hc (by omega)).kept hcs (by omega), waits := fun i y hi hy => ((h1.waits i y hi hy).kept hc (by omega)).kept hcs (by omega), dn := h.dn, m := h.m, fv := fun y hy => (List.mem_append.1 hy).elim (h.fv y) (fun hq => by rw [List.mem_singleton.1 hq]; exact he), nv := hl, nf := by show D.fn ≤ N'; omega, nb := by show D.books.length + (D.waits.length - d) ≤ 2 * N'; omega }

theorem WL.grow_f {w0 W W' : World} {H : Obj} {N N' d : Nat} {role : Nat → Nat} {D : Wd} {x : Value} (h : WL w0 H N d role D W) (hg : W.grownBy W' D.f.ownBlock) (hat : x.ownBlock = D.f.ownBlock ∨ x.ownBlock = some W.heap.size) (hN : N ≤ N') (n : Nat) (xs : List Value) (hx : W'.ownsRow (w0.heap.size + 2) 54 2 x n xs) (hl : n ≤ N') :
    WL w0 H N' d (roleAt role W.heap.size 3) { D with f := x, fn := n, fx := xs } (W'.setCell ⟨w0.heap.size, 3, none⟩ x) := by
  have hs := h.size
  have h1 := h.role (role' := roleAt role W.heap.size 3) (fun b hb => roleAt_old hb)
  have hc : Chg (roleAt role W.heap.size 3) 3 W W' := Chg.of_grown hg h1.of.2
  have hxr : ∀ b, x.ownBlock = some b → roleAt role W.heap.size 3 b = 3 := by
    intro b hb
    rcases hat with e | e
    · exact h1.of.2 b (by rw [← e]; exact hb)
    · rw [e] at hb
      cases hb
      exact roleAt_new _ _ _
  have hb := (h1.wb.chg hc (by omega)).set 3 x
  have hcs : Chg (roleAt role W.heap.size 3) 1 W' (W'.setCell ⟨w0.heap.size, 3, none⟩ x) := (Chg.refl _ _ _).setCell h1.rworld x
  have q1 := h.nv
  have q2 := h.nf
  have q3 := h.nb
  have q4 := h.dn
  exact { low := hb.low, head := hb.head, size := hb.size, blk := hb.blk, rlow := h1.rlow, rworld := h1.rworld, rhead := h1.rhead, ov := (h1.ov.kept hc (by omega)).kept hcs (by omega), of := (show OwnR (roleAt role W.heap.size 3) 3 W' (w0.heap.size + 2) 54 2 x _ _ from ⟨hx, hxr⟩).kept hcs (by omega), ob := (h1.ob.kept hc (by omega)).kept hcs (by omega), ow := (h1.ow.kept hc (by omega)).kept hcs (by omega), oe := (h1.oe.kept hc (by omega)).kept hcs (by omega), books := fun b hq => ((h1.books b hq).kept hc (by omega)).kept hcs (by omega), waits := fun i y hi hy => ((h1.waits i y hi hy).kept hc (by omega)).kept hcs (by omega), dn := h.dn, m := h.m, fv := h.fv, nv := by show D.es.length ≤ N'; omega, nf := hl, nb := by show D.books.length + (D.waits.length - d) ≤ 2 * N'; omega }

end Go.Proofs.YtldgiecjnmkajaaGreatDoor
namespace Go.Proofs.YtldgiecjnmkajaaGreatDoor
open Go.RowKit Go.Lib

/-- roles, a row's block having this one -/
def roleSet (role : Nat → Nat) (v : Value) (r : Nat) : Nat → Nat := fun b => if v.ownBlock = some b then r else role b
theorem roleSet_pos {role : Nat → Nat} {v : Value} {r b : Nat} (h : v.ownBlock = some b) : roleSet role v r b = r := if_pos h
theorem roleSet_neg {role : Nat → Nat} {v : Value} {r b : Nat} (h : v.ownBlock ≠ some b) : roleSet role v r b = role b := if_neg h

theorem WL.keep {w0 W W1 W3 W4 : World} {H : Obj} {N N' : Nat} {role : Nat → Nat} {D : Wd} {x y l u : Value} {xs : List Mb.Ent} (h : WL w0 H N 0 role D W)
    (hl : OwnR role (8 + D.waits.length) W (w0.heap.size + 2) 221 3 l xs.length (entCells xs)) (h8 : xs.length ≤ 8)
    (hg1 : W.grownBy W1 D.wt.ownBlock) (hx : W1.ownsRow (w0.heap.size + 2) 78 1 x (D.waits.length + 1) (D.waits.map (·.val) ++ [l])) (hat1 : x.ownBlock = D.wt.ownBlock ∨ x.ownBlock = some W.heap.size)
    (hb3 : Below W1.heap.size (W1.setCell ⟨w0.heap.size, 13, none⟩ x) W3)
    (hu : ∃ a cap, u = .slice a xs.length cap ∧ xs.length ≤ cap ∧ (xs = [] ∧ a = none ∨ ∃ c, a = some ⟨c, 0, none⟩ ∧ W1.heap.size ≤ c ∧ c < W3.heap.size ∧ EntsAt W3 c 0 xs))
    (hg4 : W3.grownBy W4 D.we.ownBlock) (hy : W4.ownsRow (w0.heap.size + 2) 78 1 y (D.waits.length + 1) (D.waits.map (·.was) ++ [u])) (hat4 : y.ownBlock = D.we.ownBlock ∨ y.ownBlock = some W3.heap.size)
    (hN : N ≤ N') (hn : D.books.length + (D.waits.length + 1) ≤ 2 * N') :
    ∃ role', (∀ b, b < W.heap.size → role' b = role b) ∧ WL w0 H N' 0 role' { D with wt := x, we := y, waits := D.waits ++ [⟨l, u, xs⟩] } (W4.setCell ⟨w0.heap.size, 14, none⟩ y) := by
  have hs := h.size
  have z1 := hg1.size
  have z3 := hb3.size
  have z4 := hg4.size
  simp only [World.size_setCell] at z3
  have hxl := fun b hb => (hx.lt b hb).2
  have huc : ∀ b, u.ownBlock = some b → W1.heap.size ≤ b ∧ b < W3.heap.size := by
    obtain ⟨a, cap, rfl, _, hq⟩ := hu
    intro b hb
    rcases hq with ⟨_, rfl⟩ | ⟨c, rfl, h1, h2, _⟩
    · cases hb
    · simp only [Value.ownBlock, Option.some.injEq] at hb
      omega
  have old : ∀ b, b < W.heap.size → roleSet (roleSet (roleSet role x 5) u 7) y 6 b = role b := by
    intro b hb
    by_cases e1 : y.ownBlock = some b
    · rw [roleSet_pos e1]
      rcases hat4 with e | e
      · rw [e] at e1
        exact (h.oe.2 b e1).symm
      · rw [e] at e1; cases e1; omega
    · rw [roleSet_neg e1]
      by_cases e2 : u.ownBlock = some b
      · have := huc b e2; omega
      · rw [roleSet_neg e2]
        by_cases e3 : x.ownBlock = some b
        · rw [roleSet_pos e3]
          rcases hat1 with e | e
          · rw [e] at e3
            exact (h.ow.2 b e3).symm
          · rw [e] at e3; cases e3; omega
        · rw [roleSet_neg e3]
  have yr : ∀ b, y.ownBlock = some b → roleSet (roleSet (roleSet role x 5) u 7) y 6 b = 6 := fun b hb => roleSet_pos hb
  have yx : ∀ b, b < W3.heap.size → (∀ c, D.we.ownBlock = some c → c ≠ b) → y.ownBlock ≠ some b := by
    intro b hb hne e
    rcases hat4 with e1 | e1
    · rw [e1] at e; exact hne b e rfl
    · rw [e1] at e; cases e; omega
  have ur : ∀ b, u.ownBlock = some b → roleSet (roleSet (roleSet role x 5) u 7) y 6 b = 7 := fun b hb => by
    have := huc b hb
    rw [roleSet_neg (yx b this.2 (fun c hc => by have := (h.oe.lt c hc).2.1; omega)), roleSet_pos hb]
  have xr : ∀ b, x.ownBlock = some b → roleSet (roleSet (roleSet role x 5) u 7) y 6 b = 5 := fun b hb => by
    have hb1 := hxl b hb
    rw [roleSet_neg (yx b (by omega) (fun c hc e => ?_)), roleSet_neg (fun e => by have := huc b e; omega), roleSet_pos hb]
    subst e
    have hc' := h.oe.lt c hc
    rcases hat1 with e | e
    · rw [e] at hb
      have := h.ow.2 c hb
      omega
    · rw [e] at hb; cases hb; omega
  generalize roleSet (roleSet (roleSet role x 5) u 7) y 6 = R at old yr ur xr
  have h1 := h.role old
  have c1 : Chg R 5 W W1 := Chg.of_grown hg1 h1.ow.2
  have c2 : Chg R 1 W1 (W1.setCell ⟨w0.heap.size, 13, none⟩ x) := (Chg.refl _ _ _).setCell h1.rworld x
  have c3 : ∀ r, Chg R r (W1.setCell ⟨w0.heap.size, 13, none⟩ x) W3 := fun r => Chg.of_below R r (hb3.mono (by simp))
  have c4 : Chg R 6 W3 W4 := Chg.of_grown hg4 h1.oe.2
  have c5 : Chg R 1 W4 (W4.setCell ⟨w0.heap.size, 14, none⟩ y) := (Chg.refl _ _ _).setCell h1.rworld y
  have hb := ((((h1.wb.chg c1 (by omega)).set 13 x).chg (c3 100) (by omega)).chg c4 (by omega)).set 14 y
  have q1 := h.nv
  have q2 := h.nf
  have keepR : ∀ {r : Nat} {t : TypeId} {size n : Nat} {v : Value} {zs : List Value}, OwnR R r W (w0.heap.size + 2) t size v n zs → r ≠ 5 → r ≠ 1 → r ≠ 6 → OwnR R r (W4.setCell ⟨w0.heap.size, 14, none⟩ y) (w0.heap.size + 2) t size v n zs :=
    fun hr a b c => ((((hr.kept c1 a).kept c2 b).kept (c3 1) b).kept c4 c).kept c5 b
  have keepC : ∀ {v : Value} {zs : List Mb.Ent}, ColdE R W v zs → ColdE R (W4.setCell ⟨w0.heap.size, 14, none⟩ y) v zs :=
    fun hr => ((((hr.kept c1 (by omega)).kept c2 (by omega)).kept (c3 1) (by omega)).kept c4 (by omega)).kept c5 (by omega)
  refine ⟨R, old, { low := hb.low, head := hb.head, size := hb.size, blk := hb.blk, rlow := h1.rlow, rworld := h1.rworld, rhead := h1.rhead, ov := keepR h1.ov (by omega) (by omega) (by omega), fv := h.fv, nv := by show D.es.length ≤ N'; omega, of := keepR h1.of (by omega) (by omega) (by omega), nf := by show D.fn ≤ N'; omega, ob := keepR h1.ob (by omega) (by omega) (by omega), ow := ?_, oe := ?_, books := fun b hq => ⟨keepC (h1.books b hq).l, keepC (h1.books b hq).g1, keepC (h1.books b hq).g2, keepC (h1.books b hq).g3⟩, waits := ?_, dn := Nat.zero_le _, nb := by simp only [List.length_append, List.length_cons, List.length_nil]; omega, m := h.m }⟩
  · have o1 : OwnR R 5 W1 (w0.heap.size + 2) 78 1 x (D.waits.length + 1) (D.waits.map (·.val) ++ [l]) := ⟨hx, xr⟩
    have o2 := (((o1.kept c2 (by omega)).kept (c3 1) (by omega)).kept c4 (by omega)).kept c5 (by omega)
    simpa using o2
  · have o1 : OwnR R 6 W4 (w0.heap.size + 2) 78 1 y (D.waits.length + 1) (D.waits.map (·.was) ++ [u]) := ⟨hy, yr⟩
    have o2 := o1.kept c5 (by omega)
    simpa using o2
  · intro i z _ hz
    rcases Nat.lt_or_ge i D.waits.length with hi | hi
    · rw [List.getElem?_append_left hi] at hz
      have hw := h1.waits i z (Nat.zero_le _) hz
      exact ⟨keepR hw.own (by omega) (by omega) (by omega), keepC hw.was, hw.len⟩
    · rw [List.getElem?_append_right hi] at hz
      have hi0 : i = D.waits.length := by
        rcases Nat.lt_or_ge (i - D.waits.length) 1 with e | e
        · omega
        · rw [List.getElem?_eq_none (by simpa using e)] at hz; cases hz
      subst hi0
      simp only [Nat.sub_self, List.getElem?_cons_zero, Option.some.injEq] at hz
      subst hz
      refine ⟨keepR (hl.role old) (by omega) (by omega) (by omega), ?_, h8⟩
      obtain ⟨a, cap, e1, e2, hq⟩ := hu
      refine ⟨a, cap, e1, e2, by show xs.length ≤ 1048576; omega, ?_⟩
      rcases hq with ⟨hq, _⟩ | ⟨c, rfl, g1, g2, g3⟩
      · exact Or.inl hq
      · have hc7 : R c = 7 := ur c (by rw [e1]; rfl)
        have hcc := ((show ColdE R W3 u xs from ⟨_, cap, e1, e2, by omega, Or.inr ⟨c, 0, rfl, g2, hc7, g3⟩⟩).kept c4 (by omega)).kept c5 (by omega)
        obtain ⟨a', cap', e1', _, _, hq'⟩ := hcc
        rw [e1] at e1'
        injection e1' with e1' _ _
        rw [e1']
        exact hq'

end Go.Proofs.YtldgiecjnmkajaaGreatDoor
