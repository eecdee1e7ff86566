
/-
  OWN TEXT: what a script's World holds when lists of entries have come out: blocks have roles, and what changes blocks of one role leaves the others.
  OWN TEXT: a row of the script's World grows, and the World's cell holds the new one.
  OWN TEXT: a list that came out waits from now on.
  OWN TEXT: a step of a script; facts on the types of entries and files.
-/
import Derived.Test.YtamglanahpcedaaGreatDoorListHI
import Derived.Deep.AppendLies
import Derived.Test.YtamglanahpcedaaGreatDoorEnv
import Derived.Deep.RegionHeld3
import Derived.Deep.DrawnRows
namespace Go.Proofs.YtamglanahpcedaaGreatDoor
open Go.RowKit Go.Lib

/-- only blocks of one role have changed -/
structure Chg (role : Nat → Nat) (r : Nat) (W W' : World) : Prop where
  os : W'.os = W.os
  tape : W'.tape = W.tape
  output : W'.output = W.output
  size : W.heap.size ≤ W'.heap.size
  block : ∀ k, k < W.heap.size → role k ≠ r → W'.heap[k]? = W.heap[k]?

theorem Chg.refl (role : Nat → Nat) (r : Nat) (W : World) : Chg role r W W := ⟨rfl, rfl, rfl, Nat.le_refl _, fun _ _ _ => rfl⟩
theorem Chg.trans {role : Nat → Nat} {r : Nat} {a b c : World} (h : Chg role r a b) (k : Chg role r b c) : Chg role r a c :=
  ⟨k.os.trans h.os, k.tape.trans h.tape, k.output.trans h.output, Nat.le_trans h.size k.size, fun i hi hr => (k.block i (Nat.lt_of_lt_of_le hi h.size) hr).trans (h.block i hi hr)⟩
theorem Chg.of_below {W W' : World} (role : Nat → Nat) (r : Nat) (h : Below W.heap.size W W') : Chg role r W W' := ⟨h.os, h.tape, h.output, h.size, fun k hk _ => h.block k hk⟩
theorem Chg.of_grown {W W' : World} {role : Nat → Nat} {r : Nat} {row : Option Nat} (h : W.grownBy W' row) (hr : ∀ b, row = some b → role b = r) : Chg role r W W' :=
  ⟨h.os, h.tape, h.output, h.size, fun k hk hne => h.block k hk (fun e => hne (hr k e.symm))⟩
theorem Chg.alloc {role : Nat → Nat} {r : Nat} {a w : World} (h : Chg role r a w) (o : Obj) : Chg role r a (w.alloc o) :=
  h.trans (Chg.of_below role r ((Below.refl _ _).alloc (Nat.le_refl _) o))
theorem Chg.drew {role : Nat → Nat} {r : Nat} {a w : World} (h : Chg role r a w) : Chg role r a w.drew := h.trans (Chg.of_below role r ((Below.refl _ _).drew))
theorem Chg.setCell {role : Nat → Nat} {r : Nat} {a w : World} (h : Chg role r a w) {p : Addr} (hp : role p.block = r) (u : Value) : Chg role r a (w.setCell p u) :=
  h.trans ⟨rfl, rfl, rfl, by simp, fun k _ hne => Below.heap_setCell _ _ _ _ (fun e => hne (by rw [e]; exact hp))⟩
theorem Chg.cell {role : Nat → Nat} {r : Nat} {W W' : World} (h : Chg role r W W') {p : Addr} (hp : p.block < W.heap.size) (hr : role p.block ≠ r) : W'.cell? p = W.cell? p := World.cell?_of_block (w := W) (h.block p.block hp hr)
theorem Chg.frozen {role : Nat → Nat} {r : Nat} {W W' : World} (h : Chg role r W W') {p : Addr} (hp : p.block < W.heap.size) (hr : role p.block ≠ r) : W'.frozen? p = W.frozen? p := World.frozen?_of_block (w := W) (h.block p.block hp hr)

/-- an owned row in a block of this role -/
def OwnR (role : Nat → Nat) (r : Nat) (W : World) (B : Nat) (t : TypeId) (size : Nat) (v : Value) (n : Nat) (xs : List Value) : Prop :=
  W.ownsRow B t size v n xs ∧ ∀ b, v.ownBlock = some b → role b = r

theorem OwnR.kept {role : Nat → Nat} {r r' : Nat} {W W' : World} {B : Nat} {t : TypeId} {size n : Nat} {v : Value} {xs : List Value} (h : OwnR role r W B t size v n xs) (hc : Chg role r' W W') (hne : r ≠ r') : OwnR role r W' B t size v n xs := by
  obtain ⟨⟨h1, h2⟩, h3⟩ := h
  refine ⟨⟨h1, ?_⟩, h3⟩
  rcases h2 with h2 | ⟨g, cap, cur, rfl, hb, hg, rest⟩
  · exact Or.inl h2
  · refine Or.inr ⟨g, cap, cur, rfl, hb, ?_, rest⟩
    have hlt : g < W.heap.size := (Array.getElem?_eq_some_iff.1 hg).1
    rw [hc.block g hlt (by rw [h3 g rfl]; exact hne)]
    exact hg
theorem OwnR.role {role role' : Nat → Nat} {r : Nat} {W : World} {B : Nat} {t : TypeId} {size n : Nat} {v : Value} {xs : List Value} (h : OwnR role r W B t size v n xs) (hr : ∀ b, b < W.heap.size → role' b = role b) : OwnR role' r W B t size v n xs :=
  ⟨h.1, fun b hb => by rw [hr b (h.1.lt b hb).2]; exact h.2 b hb⟩
theorem OwnR.nil (role : Nat → Nat) (r : Nat) (W : World) (B : Nat) (t : TypeId) (size : Nat) : OwnR role r W B t size (.slice none 0 0) 0 [] := ⟨World.ownsRow_nil _ _ _ _, fun b hb => by cases hb⟩
theorem OwnR.lt {role : Nat → Nat} {r : Nat} {W : World} {B : Nat} {t : TypeId} {size n : Nat} {v : Value} {xs : List Value} (h : OwnR role r W B t size v n xs) : ∀ b, v.ownBlock = some b → B ≤ b ∧ b < W.heap.size ∧ role b = r :=
  fun b hb => ⟨(h.1.lt b hb).1, (h.1.lt b hb).2, h.2 b hb⟩

/-- a list that nobody writes into any more -/
def ColdE (role : Nat → Nat) (W : World) (v : Value) (xs : List Mb.Ent) : Prop :=
  ∃ a cap, v = .slice a xs.length cap ∧ xs.length ≤ cap ∧ xs.length ≤ 1048576 ∧ (xs = [] ∨ ∃ b off, a = some ⟨b, off, none⟩ ∧ b < W.heap.size ∧ role b = 7 ∧ EntsAt W b off xs)

theorem ColdE.kept {role : Nat → Nat} {r : Nat} {W W' : World} {v : Value} {xs : List Mb.Ent} (h : ColdE role W v xs) (hc : Chg role r W W') (hne : r ≠ 7) : ColdE role W' v xs := by
  obtain ⟨a, cap, h1, h2, h3, h4⟩ := h
  refine ⟨a, cap, h1, h2, h3, ?_⟩
  rcases h4 with h4 | ⟨b, off, h5, h6, h7, h8⟩
  · exact Or.inl h4
  · refine Or.inr ⟨b, off, h5, Nat.lt_of_lt_of_le h6 hc.size, h7, fun i x hx => ?_⟩
    obtain ⟨c0, c1, c2⟩ := h8 i x hx
    have hk : ∀ o, W'.cell? ⟨b, o, none⟩ = W.cell? ⟨b, o, none⟩ := fun o => hc.cell (p := ⟨b, o, none⟩) h6 (by rw [h7]; exact Ne.symm hne)
    exact ⟨(hk _).trans c0, (hk _).trans c1, (hk _).trans c2⟩
theorem ColdE.role {role role' : Nat → Nat} {W : World} {v : Value} {xs : List Mb.Ent} (h : ColdE role W v xs) (hr : ∀ b, b < W.heap.size → role b = 7 → role' b = 7) : ColdE role' W v xs := by
  obtain ⟨a, cap, h1, h2, h3, h4⟩ := h
  refine ⟨a, cap, h1, h2, h3, ?_⟩
  rcases h4 with h4 | ⟨b, off, h5, h6, h7, h8⟩
  · exact Or.inl h4
  · exact Or.inr ⟨b, off, h5, h6, hr b h6 h7, h8⟩
theorem ColdE.nil (role : Nat → Nat) (W : World) : ColdE role W (.slice none 0 0) [] := ⟨none, 0, rfl, Nat.le_refl _, by decide, Or.inl rfl⟩
theorem ColdE.slAt {role : Nat → Nat} {W : World} {v : Value} {xs : List Mb.Ent} (h : ColdE role W v xs) : ∃ a cap, v = .slice a xs.length cap ∧ xs.length ≤ cap ∧ xs.length ≤ 1048576 ∧ SlAt W a xs := by
  obtain ⟨a, cap, h1, h2, h3, h4⟩ := h
  refine ⟨a, cap, h1, h2, h3, ?_⟩
  rcases h4 with h4 | ⟨b, off, h5, h6, _, h8⟩
  · exact Or.inl h4
  · exact Or.inr ⟨b, off, h5, h6, h8⟩

/-- a mark -/
def markE (m : Nat) : Mb.Ent := ⟨-(m : Int), 0, [109, 97, 114, 107]⟩

/-- a list that came out and was marked, and what was made of it -/
structure Book where
  m : Nat
  l : Value
  g1 : Value
  g2 : Value
  g3 : Value
  n : Nat
def Book.cells (b : Book) : List Value := [.int .i64 (-(b.m : Int)), .int .i64 0, .string ⟨#[109, 97, 114, 107]⟩, b.l, b.g1, b.g2, b.g3]
structure Book.Ok (role : Nat → Nat) (W : World) (b : Book) : Prop where
  l : ColdE role W b.l (List.replicate b.n (markE b.m))
  g1 : ColdE role W b.g1 (List.replicate (b.n + 1) (markE b.m))
  g2 : ColdE role W b.g2 (List.replicate (b.n + 2) (markE b.m))
  g3 : ColdE role W b.g3 (List.replicate (b.n + 3) (markE b.m))
theorem Book.Ok.kept {role : Nat → Nat} {r : Nat} {W W' : World} {b : Book} (h : b.Ok role W) (hc : Chg role r W W') (hne : r ≠ 7) : b.Ok role W' := ⟨h.l.kept hc hne, h.g1.kept hc hne, h.g2.kept hc hne, h.g3.kept hc hne⟩
theorem Book.Ok.role {role role' : Nat → Nat} {W : World} {b : Book} (h : b.Ok role W) (hr : ∀ b, b < W.heap.size → role b = 7 → role' b = 7) : b.Ok role' W := ⟨h.l.role hr, h.g1.role hr, h.g2.role hr, h.g3.role hr⟩

/-- a list that came out, and waits -/
structure Wait where
  val : Value
  was : Value
  xs : List Mb.Ent
structure Wait.Ok (role : Nat → Nat) (i : Nat) (B : Nat) (W : World) (x : Wait) : Prop where
  own : OwnR role (8 + i) W B 173 3 x.val x.xs.length (entCells x.xs)
  was : ColdE role W x.was x.xs
  len : x.xs.length ≤ 8
theorem Wait.Ok.kept {role : Nat → Nat} {i B r : Nat} {W W' : World} {x : Wait} (h : x.Ok role i B W) (hc : Chg role r W W') (hne : r < 7) : x.Ok role i B W' := ⟨h.own.kept hc (by omega), h.was.kept hc (by omega), h.len⟩
theorem Wait.Ok.keptW {role : Nat → Nat} {i j B : Nat} {W W' : World} {x : Wait} (h : x.Ok role i B W) (hc : Chg role (8 + j) W W') (hne : i ≠ j) : x.Ok role i B W' := ⟨h.own.kept hc (by omega), h.was.kept hc (by omega), h.len⟩
theorem Wait.Ok.role {role role' : Nat → Nat} {i B : Nat} {W : World} {x : Wait} (h : x.Ok role i B W) (hr : ∀ b, b < W.heap.size → role b = 7 → role' b = 7) (hr2 : ∀ b, b < W.heap.size → role b = 8 + i → role' b = 8 + i) : x.Ok role' i B W :=
  ⟨⟨h.own.1, fun b hb => hr2 b (h.own.1.lt b hb).2 (h.own.2 b hb)⟩, h.was.role hr, h.len⟩

/-- what the World's block tells -/
structure Wd where
  e : Int
  n : Int
  v : Value
  f : Value
  m : Nat
  bk : Value
  wt : Value
  we : Value
  es : List Mb.Ent
  fn : Nat
  fx : List Value
  books : List Book
  waits : List Wait
def Wd.cells (D : Wd) : Array Value :=
  #[.int .i64 D.e, .int .i64 D.n, D.v, D.f, .slice none 0 0, .int .i64 D.m, .slice none 0 0, .slice none 0 0, D.bk, .slice none 0 0, .slice none 0 0, .slice none 0 0, .slice none 0 0, D.wt, D.we]













end Go.Proofs.YtamglanahpcedaaGreatDoor
namespace Go.Proofs.YtamglanahpcedaaGreatDoor
open Go.RowKit Go.Lib

theorem heap_set_at {W : World} {K o : Nat} {cs : Array Value} {t : TypeId} {fr : Nat × Nat} (v : Value) (h : W.heap[K]? = some (.cells cs t fr)) : (W.setCell ⟨K, o, none⟩ v).heap[K]? = some (.cells (cs.setIfInBounds o v) t fr) := by
  simp [World.setCell, Array.getElem?_modify, h]










/-- roles with one more -/
def roleAt (role : Nat → Nat) (K r : Nat) : Nat → Nat := fun b => if b = K then r else role b
theorem roleAt_old {role : Nat → Nat} {K r b : Nat} (h : b < K) : roleAt role K r b = role b := if_neg (by omega)
theorem roleAt_new (role : Nat → Nat) (K r : Nat) : roleAt role K r K = r := if_pos rfl



end Go.Proofs.YtamglanahpcedaaGreatDoor
namespace Go.Proofs.YtamglanahpcedaaGreatDoor
open Go.RowKit Go.Lib

/-- roles, a row's block having this one -/
def roleSet (role : Nat → Nat) (v : Value) (r : Nat) : Nat → Nat := fun b => if v.ownBlock = some b then r else role b
theorem roleSet_pos {role : Nat → Nat} {v : Value} {r b : Nat} (h : v.ownBlock = some b) : roleSet role v r b = r := if_pos h
theorem roleSet_neg {role : Nat → Nat} {v : Value} {r b : Nat} (h : v.ownBlock ≠ some b) : roleSet role v r b = role b := if_neg h


end Go.Proofs.YtamglanahpcedaaGreatDoor
namespace Go.Proofs.YtamglanahpcedaaGreatDoor
open Go.RowKit Go.Lib

/-- a step -/
structure OpT where
  kind : Int
  a : Int
  b : Int
  s : ByteArray
  t : ByteArray

def OpT.val (o : OpT) : Value := .agg #[.int .i64 o.kind, .int .i64 o.a, .int .i64 o.b, .string o.s, .string o.t]


theorem info_entry : (Tryz.prog.info? 173).map (fun i => (i.zero, i.size, i.bytes)) = some (some (.agg #[.int .i64 0, .int .i64 0, .string ByteArray.empty]), 3, 32) := by kernel_rfl
theorem info_file : (Tryz.prog.info? 48).map (fun i => (i.zero, i.size, i.bytes)) = some (some (.agg #[.string ByteArray.empty, .string ByteArray.empty]), 2, 32) := by kernel_rfl

end Go.Proofs.YtamglanahpcedaaGreatDoor
