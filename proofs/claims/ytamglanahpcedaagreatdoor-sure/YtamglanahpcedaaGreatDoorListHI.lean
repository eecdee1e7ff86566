
/-
  OWN TEXT: lists.parse.
  OWN TEXT: lists.Read, mailbag.Read, mailbag.Write.
-/
import Derived.Test.YtamglanahpcedaaGreatDoorListWalkG
import Derived.OwnWalk
namespace Go.Proofs.YtamglanahpcedaaGreatDoor
open Go.RowKit

theorem box3 {W : World} {N : Nat} {u0 u1 u2 : Value} (h0 : W.cell? ⟨N, 0, none⟩ = some u0) (h1 : W.cell? ⟨N, 1, none⟩ = some u1) (h2 : W.cell? ⟨N, 2, none⟩ = some u2) (v0 v1 v2 : Value) :
    (W.setCell ⟨N, 0, none⟩ v0).cell? ⟨N, 0, none⟩ = some v0 ∧ ((W.setCell ⟨N, 0, none⟩ v0).setCell ⟨N, 1, none⟩ v1).cell? ⟨N, 1, none⟩ = some v1 ∧ (((W.setCell ⟨N, 0, none⟩ v0).setCell ⟨N, 1, none⟩ v1).setCell ⟨N, 2, none⟩ v2).cell? ⟨N, 2, none⟩ = some v2 :=
  ⟨World.cell?_setCell_same W _ _ h0, World.cell?_setCell_same _ _ _ ((World.cell?_setCell_other _ _ _ _ (by simp)).trans h1),
   World.cell?_setCell_same _ _ _ ((World.cell?_setCell_other _ _ _ _ (by simp)).trans ((World.cell?_setCell_other _ _ _ _ (by simp)).trans h2))⟩

theorem splitC_count (c : UInt8) : ∀ (l : List UInt8), (Mb.splitC c l).length ≤ l.length + 1
  | [] => by simp [Mb.splitC]
  | b :: r => by
    have ih := splitC_count c r
    unfold Mb.splitC
    split
    · simp only [List.length_cons]; omega
    · split
      · simp
      · rename_i h t he
        rw [he] at ih
        simp only [List.length_cons] at ih ⊢; omega

theorem parse_short (s : ByteArray) (hs : s.size ≤ 400) (w : World) (hE : Env w) (hp : (Mb.splitC 10 s.data.toList).length < 3) :
    Calls Tryz.prog 145 #[.string s] w fun e w' => e = .returned (.tuple #[.agg #[.int .i64 0, .int .i64 0, .slice none 0 0], .bool false]) ∧ Below w.heap.size w w' := by
  have HE1 : ∀ o, Env (w.alloc o) := fun o => hE.below ((Below.refl _ _).alloc (Nat.le_refl _) o) (Nat.le_refl _)
  have g := fun o => split_any s 10 (by omega) (w.alloc o) (HE1 o)
  generalize (Mb.splitC 10 s.data.toList) = L at *
  have hn : decide ((L.length : Int) - 2 < 1) = true := by simp; omega
  clear HE1
  go_enter Tryz.func145, Tryz.ntmps145
  go_wp2_with fail
  refine (g _).mono ?_
  rintro e' w' ⟨rfl, rfl⟩
  clear g
  go_wp2
  refine bodyPost_ret (v := .tuple #[.agg #[.int .i64 0, .int .i64 0, .slice none 0 0], .bool false]) (by simp [results, Tryz.results145, go_sem]) rfl ⟨rfl, ?_⟩
  exact ((Below.refl _ _).alloc (Nat.le_refl _) _).alloc (by simp) _

/-- the cells of some entries -/
def entCells (xs : List Mb.Ent) : List Value := xs.flatMap fun x => [.int .i64 x.key, .int .i64 x.uid, .string ⟨x.flags.toArray⟩]

theorem parse_head_bad (s : ByteArray) (hs : s.size ≤ 400) (w : World) (hE : Env w) (h : List UInt8) (T : List (List UInt8)) (hL : Mb.splitC 10 s.data.toList = h :: T) (m : Nat) (h3 : T.length = m + 2) (hm : m ≤ 400) (hl : h.length ≤ 400) (hh : Mb.parseHeadL h = none) :
    Calls Tryz.prog 145 #[.string s] w fun e w' => e = .returned (.tuple #[.agg #[.int .i64 0, .int .i64 0, .slice none 0 0], .bool false]) ∧ Below w.heap.size w w' := by
  have HE1 : ∀ o, Env (w.alloc o) := fun o => hE.below ((Below.refl _ _).alloc (Nat.le_refl _) o) (Nat.le_refl _)
  have HE2 : ∀ o o', Env ((w.alloc o).alloc o') := fun o o' => (HE1 o).below ((Below.refl _ _).alloc (Nat.le_refl _) o') (Nat.le_refl _)
  have g := fun o => split_any s 10 (by omega) (w.alloc o) (HE1 o)
  rw [hL] at g
  simp only [List.map_cons] at g
  obtain ⟨bh, Hbh, Hbh'⟩ := named_bytes h
  rw [← Hbh.out] at g
  have g1 := fun W (hW : Env W) => parseHead_none bh (by rw [Lib.size_eq, Hbh'.out]; omega) W hW (by rw [Hbh'.out]; exact hh)
  have hlen : (h :: T).length = m + 3 := by simp only [List.length_cons]; omega
  rw [hlen] at g
  have hn : decide ((m : Int) + 3 - 2 < 1) = false := by simp; omega
  have hTl : (T.map fun l => Value.string ⟨l.toArray⟩).length = m + 2 := by simp [h3]
  have HTl : Hid ((T.map fun l => Value.string ⟨l.toArray⟩).length = m + 2) := hTl
  clear hTl
  generalize hTm : (T.map fun l => Value.string ⟨l.toArray⟩) = TV at *
  clear HE1 hTm hh hlen h3 hL
  go_enter Tryz.func145, Tryz.ntmps145
  go_wp2_with fail
  refine (g _).mono ?_
  rintro e' w' ⟨rfl, rfl⟩
  clear g
  go_wp2_with fail
  refine (g1 _ (HE2 _ _)).mono ?_
  rintro e' w1 ⟨⟨x, y, rfl⟩, hb1⟩
  clear g1
  have a0 := hb1.cell (p := ⟨w.heap.size, 0, none⟩) (by simp; omega)
  have a1 := hb1.cell (p := ⟨w.heap.size, 1, none⟩) (by simp; omega)
  have a2 := hb1.cell (p := ⟨w.heap.size, 2, none⟩) (by simp; omega)
  have f0 := hb1.frozen (p := ⟨w.heap.size, 0, none⟩) (by simp; omega)
  have f1 := hb1.frozen (p := ⟨w.heap.size, 1, none⟩) (by simp; omega)
  have f2 := hb1.frozen (p := ⟨w.heap.size, 2, none⟩) (by simp; omega)
  have hs1 := hb1.size
  simp at a0 a1 a2 f0 f1 f2 hs1
  have HB1 : Hid (Below w.heap.size w w1) := ((((Below.refl w.heap.size w).alloc (Nat.le_refl _) _).alloc (by simp) _).trans (hb1.mono (by simp; omega)))
  clear hb1
  have c0 : ∀ o, (w1.alloc o).cell? ⟨w.heap.size, 0, none⟩ = some (.int .i64 0) := fun o => ((((Below.refl _ _).alloc (Nat.le_refl _) o).cell (p := ⟨w.heap.size, 0, none⟩) (by simp; omega)).trans a0)
  have c1 : ∀ o, (w1.alloc o).cell? ⟨w.heap.size, 1, none⟩ = some (.int .i64 0) := fun o => ((((Below.refl _ _).alloc (Nat.le_refl _) o).cell (p := ⟨w.heap.size, 1, none⟩) (by simp; omega)).trans a1)
  have c2 : ∀ o, (w1.alloc o).cell? ⟨w.heap.size, 2, none⟩ = some (.slice none 0 0) := fun o => ((((Below.refl _ _).alloc (Nat.le_refl _) o).cell (p := ⟨w.heap.size, 2, none⟩) (by simp; omega)).trans a2)
  have d0 : ∀ o, (w1.alloc o).frozen? ⟨w.heap.size, 0, none⟩ = false := fun o => ((((Below.refl _ _).alloc (Nat.le_refl _) o).frozen (p := ⟨w.heap.size, 0, none⟩) (by simp; omega)).trans f0)
  have d1 : ∀ o, (w1.alloc o).frozen? ⟨w.heap.size, 1, none⟩ = false := fun o => ((((Below.refl _ _).alloc (Nat.le_refl _) o).frozen (p := ⟨w.heap.size, 1, none⟩) (by simp; omega)).trans f1)
  have d2 : ∀ o, (w1.alloc o).frozen? ⟨w.heap.size, 2, none⟩ = false := fun o => ((((Below.refl _ _).alloc (Nat.le_refl _) o).frozen (p := ⟨w.heap.size, 2, none⟩) (by simp; omega)).trans f2)
  go_wp2
  obtain ⟨b0, b1, b2⟩ := box3 (c0 (.cells #[.int .i64 x, .int .i64 y, .slice none 0 0] 153)) (c1 _) (c2 _) (.int .i64 0) (.int .i64 0) (.slice none 0 0)
  refine bodyPost_ret (v := .tuple #[.agg #[.int .i64 0, .int .i64 0, .slice none 0 0], .bool false]) (by simp [results, Tryz.results145, go_sem, b0, b1, b2]) rfl ⟨rfl, ?_⟩
  exact (((HB1.out.alloc (by omega) _).setCell (by simp) _).setCell (by simp) _).setCell (by simp) _

theorem parseEnts_snoc : ∀ (l : List (List UInt8)) (ys : List Mb.Ent) (a : List UInt8) (x : Mb.Ent), Mb.parseEnts l = some ys → Mb.parseEntL a = some x → Mb.parseEnts (l ++ [a]) = some (ys ++ [x])
  | [], ys, a, x, h, hx => by
    simp only [Mb.parseEnts, Option.some.injEq] at h
    subst h
    simp [Mb.parseEnts, hx]
  | b :: l, ys, a, x, h, hx => by
    simp only [Mb.parseEnts] at h
    split at h
    · rename_i y zs hy hz
      simp only [Option.some.injEq] at h
      subst h
      simp only [List.cons_append, Mb.parseEnts, hy, parseEnts_snoc l zs a x hz hx]
    · cases h
theorem parseEnts_bad : ∀ (l : List (List UInt8)) (a : List UInt8) (r : List (List UInt8)), Mb.parseEntL a = none → Mb.parseEnts (l ++ a :: r) = none
  | [], a, r, h => by simp [Mb.parseEnts, h]
  | b :: l, a, r, h => by
    simp only [List.cons_append, Mb.parseEnts, parseEnts_bad l a r h]
    split <;> simp_all
theorem parseEnts_len : ∀ (l : List (List UInt8)) (ys : List Mb.Ent), Mb.parseEnts l = some ys → ys.length = l.length
  | [], ys, h => by simp only [Mb.parseEnts, Option.some.injEq] at h; subst h; rfl
  | b :: l, ys, h => by
    simp only [Mb.parseEnts] at h
    split at h
    · rename_i y zs hy hz
      simp only [Option.some.injEq] at h
      subst h
      simp [parseEnts_len l zs hz]
    · cases h

theorem entCells_len (xs : List Mb.Ent) : (entCells xs).length = xs.length * 3 := by
  induction xs with
  | nil => rfl
  | cons x r ih => simp only [entCells, List.flatMap_cons, List.length_append, List.length_cons, List.length_nil] at ih ⊢; omega
theorem entCells_snoc (xs : List Mb.Ent) (x : Mb.Ent) : entCells (xs ++ [x]) = entCells xs ++ [.int .i64 x.key, .int .i64 x.uid, .string ⟨x.flags.toArray⟩] := by
  simp [entCells]
theorem entCells_get : ∀ (xs : List Mb.Ent) (i : Nat) (x : Mb.Ent), xs[i]? = some x → (entCells xs)[i * 3]? = some (.int .i64 x.key) ∧ (entCells xs)[i * 3 + 1]? = some (.int .i64 x.uid) ∧ (entCells xs)[i * 3 + 2]? = some (.string ⟨x.flags.toArray⟩)
  | [], i, x, h => by simp at h
  | y :: r, 0, x, h => by simp at h; subst h; simp [entCells]
  | y :: r, i + 1, x, h => by
    have ih := entCells_get r i x (by simpa using h)
    have e : ∀ j, (entCells (y :: r))[3 + j]? = (entCells r)[j]? := fun j => by
      simp only [entCells, List.flatMap_cons]
      rw [List.getElem?_append_right (by simp)]
      simp
    rw [show (i + 1) * 3 = 3 + i * 3 by omega, show 3 + i * 3 + 1 = 3 + (i * 3 + 1) by omega, show 3 + i * 3 + 2 = 3 + (i * 3 + 2) by omega, e, e, e]
    exact ih

theorem Tryz.info_entry : (Tryz.prog.info? 173).map (fun i => (i.zero, i.size, i.bytes)) = some (some (.agg #[.int .i64 0, .int .i64 0, .string ByteArray.empty]), 3, 32) := by kernel_rfl

theorem owns_below {w w' : World} {base e size n : Nat} {v : Value} {xs : List Value} (h : w.ownsRow base e size v n xs) (hb : Below w.heap.size w w') : w'.ownsRow base e size v n xs :=
  h.kept (row := none) ⟨hb.os, hb.tape, hb.output, hb.size, fun k hk _ => hb.block k hk⟩ (by cases v.ownBlock <;> simp)

theorem opt_or {α : Type} (o : Option α) : o = none ∨ ∃ e, o = some e := by
  cases o with
  | none => exact Or.inl rfl
  | some e => exact Or.inr ⟨e, rfl⟩

theorem new_cells (w : World) (o : Obj) (v0 v1 v2 : Value) (t : TypeId) (j : Nat) (u : Value) (hj : [v0, v1, v2][j]? = some u) : ((w.alloc o).alloc (.cells #[v0, v1, v2] t)).cell? ((⟨w.heap.size + 1, 0, none⟩ : Addr).add j) = some u := by
  have e : (⟨w.heap.size + 1, 0, none⟩ : Addr).add j = ⟨(w.alloc o).heap.size, j, none⟩ := by rw [Lib.add_plain]; simp
  rw [e, World.cell?_alloc_new]
  match j, hj with
  | 0, hj => simpa using hj
  | 1, hj => simpa using hj
  | 2, hj => simpa using hj
  | n + 3, hj => simp at hj

/-- an owned row of a slice that is not nil -/
theorem owns_form {w : World} {base e size n : Nat} {v : Value} {xs : List Value} (h : w.ownsRow base e size v n xs) (hn : v ≠ .slice none 0 0) : ∃ g cap, v = .slice (some ⟨g, 0, none⟩) n cap ∧ base ≤ g := by
  rcases h.2 with ⟨h1, _⟩ | ⟨g, cap, cur, h1, h2, _⟩
  · exact absurd h1 hn
  · exact ⟨g, cap, h1, h2⟩
theorem owns_row_ge {w : World} {base e size n : Nat} {v : Value} {xs : List Value} (h : w.ownsRow base e size v n xs) : ∀ g, v.ownBlock = some g → base ≤ g := fun g hg => (h.lt g hg).1

theorem slAt_of_owns {w : World} {base k cap : Nat} {a : Option Addr} {ys : List Mb.Ent} (h : w.ownsRow base 173 3 (.slice a k cap) k (entCells ys)) (hk : ys.length = k) :
    SlAt w a ys ∧ k ≤ cap ∧ ∀ b off, a = some ⟨b, off, none⟩ → base ≤ b := by
  rcases h.2 with ⟨h1, h2⟩ | ⟨g, c, cur, h1, h2, h3, h4, _⟩
  · injection h1 with e1 e2 e3
    refine ⟨Or.inl (List.eq_nil_of_length_eq_zero (by omega)), by omega, fun b off hb => by rw [e1] at hb; cases hb⟩
  · injection h1 with e1 e2 e3
    subst e1
    have hcells := h.cells (g := g) rfl
    refine ⟨Or.inr ⟨g, 0, rfl, (h.lt g rfl).2, ?_⟩, by omega, fun b off hb => by injection hb with hb; injection hb with hb; omega⟩
    intro i x hx
    obtain ⟨c0, c1, c2⟩ := entCells_get ys i x hx
    have e : ∀ j, (⟨g, 0, none⟩ : Addr).add j = ⟨g, 0 + j, none⟩ := fun j => Lib.add_plain ..
    have d0 := hcells _ _ c0
    have d1 := hcells _ _ c1
    have d2 := hcells _ _ c2
    rw [e] at d0 d1 d2
    exact ⟨d0, by rw [Nat.add_assoc]; exact d1, by rw [Nat.add_assoc]; exact d2⟩

/-- an owned row, from a smaller number on -/
theorem owns_base {w : World} {B B' e size n : Nat} {v : Value} {xs : List Value} (h : w.ownsRow B e size v n xs) (hB : B' ≤ B) : w.ownsRow B' e size v n xs := by
  refine ⟨h.1, ?_⟩
  rcases h.2 with h2 | ⟨g, cap, cur, h1, h2, h3⟩
  · exact Or.inl h2
  · exact Or.inr ⟨g, cap, cur, h1, by omega, h3⟩
/-- a list's entries in memory of their own -/
def OwnE (w : World) (B : Nat) (a : Option Addr) (cap : Nat) (xs : List Mb.Ent) : Prop := w.ownsRow B 173 3 (.slice a xs.length cap) xs.length (entCells xs)
theorem OwnE.below {w w' : World} {B : Nat} {a : Option Addr} {cap : Nat} {xs : List Mb.Ent} (h : OwnE w B a cap xs) (hb : Below w.heap.size w w') : OwnE w' B a cap xs := owns_below h hb
theorem OwnE.base {w : World} {B B' : Nat} {a : Option Addr} {cap : Nat} {xs : List Mb.Ent} (h : OwnE w B a cap xs) (hB : B' ≤ B) : OwnE w B' a cap xs := owns_base h hB
theorem OwnE.setCell {w : World} {B : Nat} {a : Option Addr} {cap : Nat} {xs : List Mb.Ent} (h : OwnE w B a cap xs) (p : Addr) (v : Value) (hp : ∀ b off, a = some ⟨b, off, none⟩ → b ≠ p.block) : OwnE (w.setCell p v) B a cap xs := by
  refine ⟨h.1, ?_⟩
  rcases h.2 with h2 | ⟨g, c, cur, h1, h2, h3, h4⟩
  · exact Or.inl h2
  · refine Or.inr ⟨g, c, cur, h1, h2, ?_, h4⟩
    injection h1 with e1
    rw [Below.heap_setCell _ _ _ _ (hp g 0 e1)]
    exact h3

theorem SlAt.setCell {w : World} {a : Option Addr} {xs : List Mb.Ent} (h : SlAt w a xs) (p : Addr) (v : Value) (hp : ∀ b off, a = some ⟨b, off, none⟩ → b ≠ p.block) : SlAt (w.setCell p v) a xs := by
  rcases h with h | ⟨b, off, h1, h2, h3⟩
  · exact Or.inl h
  · have hne := hp b off h1
    refine Or.inr ⟨b, off, h1, by simpa using h2, fun i x hx => ?_⟩
    obtain ⟨c0, c1, c2⟩ := h3 i x hx
    have ho : ∀ o, (w.setCell p v).cell? ⟨b, o, none⟩ = w.cell? ⟨b, o, none⟩ := fun o => World.cell?_setCell_other _ _ _ _ (fun e => hne (by rw [e]))
    exact ⟨(ho _).trans c0, (ho _).trans c1, (ho _).trans c2⟩

/-- what parse leaves -/
def ParsePost (w : World) (x y : Int) (o : Option (List Mb.Ent)) (r : Ending) (w' : World) : Prop :=
  match o with
  | none => r = .returned (.tuple #[.agg #[.int .i64 0, .int .i64 0, .slice none 0 0], .bool false]) ∧ Below w.heap.size w w'
  | some xs => ∃ a cap, r = .returned (.tuple #[.agg #[.int .i64 x, .int .i64 y, .slice a xs.length cap], .bool true]) ∧ Below w.heap.size w w' ∧ SlAt w' a xs ∧ xs.length ≤ cap ∧ OwnE w' w.heap.size a cap xs ∧ ∀ b off, a = some ⟨b, off, none⟩ → w.heap.size ≤ b

set_option maxRecDepth 100000 in
set_option maxHeartbeats 1000000 in
theorem parse_rest (s : ByteArray) (hs : s.size ≤ 400) (w : World) (hE : Env w) (h : List UInt8) (T : List (List UInt8)) (hL : Mb.splitC 10 s.data.toList = h :: T) (m : Nat) (h3 : T.length = m + 2) (hm : m ≤ 400) (hl : h.length ≤ 400) (hT : ∀ l ∈ T, l.length ≤ 400) (x y : Int) (hh : Mb.parseHeadL h = some (x, y)) :
    Calls Tryz.prog 145 #[.string s] w fun e w' => ParsePost w x y (Mb.parseEnts (T.take m)) e w' := by
  have HE1 : ∀ o, Env (w.alloc o) := fun o => hE.below ((Below.refl _ _).alloc (Nat.le_refl _) o) (Nat.le_refl _)
  have HE2 : ∀ o o', Env ((w.alloc o).alloc o') := fun o o' => (HE1 o).below ((Below.refl _ _).alloc (Nat.le_refl _) o') (Nat.le_refl _)
  have g := fun o => split_any s 10 (by omega) (w.alloc o) (HE1 o)
  rw [hL] at g
  simp only [List.map_cons] at g
  obtain ⟨bh, Hbh, Hbh'⟩ := named_bytes h
  rw [← Hbh.out] at g
  have g1 := fun W (hW : Env W) => parseHead_some bh (by rw [Lib.size_eq, Hbh'.out]; omega) W hW x y (by rw [Hbh'.out]; exact hh)
  have hlen : (h :: T).length = m + 3 := by simp only [List.length_cons]; omega
  rw [hlen] at g
  have hn : decide ((m : Int) + 3 - 2 < 1) = false := by simp; omega
  have HTv : Hid (∀ (k : Nat) (l : List UInt8), T[k]? = some l → (T.map fun l => Value.string ⟨l.toArray⟩)[k]? = some (.string ⟨l.toArray⟩)) := by
    unfold Hid; intro k l hk; rw [List.getElem?_map, hk]; rfl
  have HTl : Hid ((T.map fun l => Value.string ⟨l.toArray⟩).length = m + 2) := by unfold Hid; simp [h3]
  have HT3 : Hid (T.length = m + 2) := h3
  generalize hTm : (T.map fun l => Value.string ⟨l.toArray⟩) = TV at *
  clear HE1 hTm hh hlen h3 hL
  go_enter Tryz.func145, Tryz.ntmps145
  go_wp2_with fail
  refine (g _).mono ?_
  rintro e' w' ⟨rfl, rfl⟩
  clear g
  go_wp2_with fail
  refine (g1 _ (HE2 _ _)).mono ?_
  rintro e' w1 ⟨rfl, hb1⟩
  clear g1
  have a0 := hb1.cell (p := ⟨w.heap.size, 0, none⟩) (by simp; omega)
  have a1 := hb1.cell (p := ⟨w.heap.size, 1, none⟩) (by simp; omega)
  have a2 := hb1.cell (p := ⟨w.heap.size, 2, none⟩) (by simp; omega)
  have f0 := hb1.frozen (p := ⟨w.heap.size, 0, none⟩) (by simp; omega)
  have f1 := hb1.frozen (p := ⟨w.heap.size, 1, none⟩) (by simp; omega)
  have f2 := hb1.frozen (p := ⟨w.heap.size, 2, none⟩) (by simp; omega)
  have hs1 := hb1.size
  simp at a0 a1 a2 f0 f1 f2 hs1
  have HB1 : Hid (Below w.heap.size w w1) := ((((Below.refl w.heap.size w).alloc (Nat.le_refl _) _).alloc (by simp) _).trans (hb1.mono (by simp; omega)))
  have HLn : Hid (∀ (k : Nat) (l : List UInt8), T[k]? = some l → w1.cell? ⟨w.heap.size + 1, 1 + k, none⟩ = some (.string ⟨l.toArray⟩)) := by
    unfold Hid
    intro k l hk
    refine (hb1.cell (p := ⟨w.heap.size + 1, 1 + k, none⟩) (by simp)).trans ?_
    have := HTv.out k l hk
    rw [show w.heap.size + 1 = (w.alloc (.cells #[.int .i64 0, .int .i64 0, .slice none 0 0] 153)).heap.size by simp, World.cell?_alloc_new]
    simp [Nat.add_comm 1 k, this]
  clear hb1 HTv HTl HE2
  obtain ⟨i0, hi, hz0, hz1, hz2⟩ := info_parts Tryz.info_entry
  go_wp2_with fail
  go_loopw [34] (fun i wr => ∃ (k : Nat) (a : Option Addr) (cap : Nat) (ys : List Mb.Ent), k ≤ m ∧ i = .int .i64 k ∧ Hid (Mb.parseEnts (T.take k) = some ys) ∧ wr.cell? ⟨w1.heap.size, 0, none⟩ = some (.int .i64 x) ∧ wr.cell? ⟨w1.heap.size, 1, none⟩ = some (.int .i64 y) ∧ wr.cell? ⟨w1.heap.size, 2, none⟩ = some (.slice a k cap) ∧ wr.frozen? ⟨w1.heap.size, 2, none⟩ = false ∧ wr.ownsRow (w1.heap.size + 1) 173 3 (.slice a k cap) k (entCells ys) ∧ Below w1.heap.size w1 wr ∧ w1.heap.size < wr.heap.size) (fun i _ => m - (intOf i).toNat)
  case atStart => exact ⟨0, none, 0, [], Nat.zero_le _, rfl, rfl, by simp, by simp, by simp, by simp, World.ownsRow_nil _ _ _ _, (Below.refl _ _).alloc (Nat.le_refl _) _, by simp⟩
  case round =>
    obtain ⟨k, a, cap, ys, hk, rfl, HP, k0, k1, k2, kf, hown, hbl, hsz⟩ := hrel
    have hEr : Env wr := (hE.below HB1.out (Nat.le_refl _)).below hbl (Nat.le_refl _)
    by_cases hlt : k < m
    · obtain ⟨l, hl'⟩ : ∃ l, T[k]? = some l := ⟨T[k]'(by rw [HT3.out]; omega), List.getElem?_eq_getElem (by rw [HT3.out]; omega)⟩
      have hlm : l ∈ T := List.mem_of_getElem? hl'
      have hll := hT l hlm
      have hline : wr.cell? ⟨w.heap.size + 1, 1 + k, none⟩ = some (.string ⟨l.toArray⟩) := (hbl.cell (p := ⟨w.heap.size + 1, 1 + k, none⟩) (by simp; omega)).trans (HLn.out k l hl')
      obtain ⟨bl, Hbl, Hbl'⟩ := named_bytes l
      rw [← Hbl.out] at hline
      have htk : T.take (k + 1) = T.take k ++ [l] := by
        have hkT : k < T.length := by rw [HT3.out]; omega
        rw [List.take_succ_eq_append_getElem hkT]
        rw [List.getElem?_eq_getElem hkT] at hl'
        rw [Option.some.inj hl']
      rcases opt_or (Mb.parseEntL l) with hpe | ⟨e, hpe⟩
      · have gp := parseEntry_none bl (by rw [Lib.size_eq, Hbl'.out]; omega) wr hEr (by rw [Hbl'.out]; exact hpe)
        have HN : Hid (Mb.parseEnts (T.take m) = none) := by
          unfold Hid
          have e1 : T.take m = T.take k ++ l :: (T.take m).drop (k + 1) := by
            have e2 : T.take (k + 1) = (T.take m).take (k + 1) := by rw [List.take_take, Nat.min_eq_left (by omega)]
            conv => lhs; rw [← List.take_append_drop (k + 1) (T.take m), ← e2, htk]
            simp
          rw [e1]
          exact parseEnts_bad _ _ _ hpe
        have r0 := (hbl.cell (p := ⟨w.heap.size, 0, none⟩) (by simp; omega)).trans a0
        have r1 := (hbl.cell (p := ⟨w.heap.size, 1, none⟩) (by simp; omega)).trans a1
        have r2 := (hbl.cell (p := ⟨w.heap.size, 2, none⟩) (by simp; omega)).trans a2
        have q0 := (hbl.frozen (p := ⟨w.heap.size, 0, none⟩) (by simp; omega)).trans f0
        have q1 := (hbl.frozen (p := ⟨w.heap.size, 1, none⟩) (by simp; omega)).trans f1
        have q2 := (hbl.frozen (p := ⟨w.heap.size, 2, none⟩) (by simp; omega)).trans f2
        have HBr : Hid (Below w.heap.size w wr) := HB1.out.trans (hbl.mono (by omega))
        clear hpe hl' htk hown HP hEr hbl k0 k1 k2 kf a0 a1 a2 f0 f1 f2
        go_wp2_with fail
        refine gp.mono ?_
        rintro e' w2 ⟨⟨x', y', f', rfl⟩, hb2⟩
        clear gp
        have hs2 := hb2.size
        have r0 := (hb2.cell (p := ⟨w.heap.size, 0, none⟩) (by simp; omega)).trans r0
        have r1 := (hb2.cell (p := ⟨w.heap.size, 1, none⟩) (by simp; omega)).trans r1
        have r2 := (hb2.cell (p := ⟨w.heap.size, 2, none⟩) (by simp; omega)).trans r2
        have q0 := (hb2.frozen (p := ⟨w.heap.size, 0, none⟩) (by simp; omega)).trans q0
        have q1 := (hb2.frozen (p := ⟨w.heap.size, 1, none⟩) (by simp; omega)).trans q1
        have q2 := (hb2.frozen (p := ⟨w.heap.size, 2, none⟩) (by simp; omega)).trans q2
        have c0 : ∀ o, (w2.alloc o).cell? ⟨w.heap.size, 0, none⟩ = some (.int .i64 0) := fun o => ((((Below.refl _ _).alloc (Nat.le_refl _) o).cell (p := ⟨w.heap.size, 0, none⟩) (by simp; omega)).trans r0)
        have c1 : ∀ o, (w2.alloc o).cell? ⟨w.heap.size, 1, none⟩ = some (.int .i64 0) := fun o => ((((Below.refl _ _).alloc (Nat.le_refl _) o).cell (p := ⟨w.heap.size, 1, none⟩) (by simp; omega)).trans r1)
        have c2 : ∀ o, (w2.alloc o).cell? ⟨w.heap.size, 2, none⟩ = some (.slice none 0 0) := fun o => ((((Below.refl _ _).alloc (Nat.le_refl _) o).cell (p := ⟨w.heap.size, 2, none⟩) (by simp; omega)).trans r2)
        have d0 : ∀ o, (w2.alloc o).frozen? ⟨w.heap.size, 0, none⟩ = false := fun o => ((((Below.refl _ _).alloc (Nat.le_refl _) o).frozen (p := ⟨w.heap.size, 0, none⟩) (by simp; omega)).trans q0)
        have d1 : ∀ o, (w2.alloc o).frozen? ⟨w.heap.size, 1, none⟩ = false := fun o => ((((Below.refl _ _).alloc (Nat.le_refl _) o).frozen (p := ⟨w.heap.size, 1, none⟩) (by simp; omega)).trans q1)
        have d2 : ∀ o, (w2.alloc o).frozen? ⟨w.heap.size, 2, none⟩ = false := fun o => ((((Below.refl _ _).alloc (Nat.le_refl _) o).frozen (p := ⟨w.heap.size, 2, none⟩) (by simp; omega)).trans q2)
        have HB2 : Hid (Below w.heap.size w w2) := HBr.out.trans (hb2.mono (by omega))
        clear hb2 r0 r1 r2 q0 q1 q2 hline
        go_wp2
        obtain ⟨b0, b1, b2⟩ := box3 (c0 (.cells #[.int .i64 x', .int .i64 y', .string f'] 173)) (c1 _) (c2 _) (.int .i64 0) (.int .i64 0) (.slice none 0 0)
        refine bodyPost_ret (v := .tuple #[.agg #[.int .i64 0, .int .i64 0, .slice none 0 0], .bool false]) (by simp [results, Tryz.results145, go_sem, b0, b1, b2]) rfl ?_
        rw [HN.out]
        exact ⟨rfl, (((HB2.out.alloc (by omega) _).setCell (by simp) _).setCell (by simp) _).setCell (by simp) _⟩
      · have gp := parseEntry_some bl (by rw [Lib.size_eq, Hbl'.out]; omega) wr hEr e (by rw [Hbl'.out]; exact hpe)
        have HP' : Hid (Mb.parseEnts (T.take (k + 1)) = some (ys ++ [e])) := by
          unfold Hid; rw [htk]; exact parseEnts_snoc _ _ _ _ HP.out hpe
        have Hown : Hid (wr.ownsRow (w1.heap.size + 1) 173 3 (.slice a k cap) k (entCells ys)) := hown
        clear hpe hl' htk hown HP hEr
        go_wp2_with fail
        refine gp.mono ?_
        rintro e' w2 ⟨rfl, hb2⟩
        clear gp
        have hs2 := hb2.size
        have k0' := (hb2.cell (p := ⟨w1.heap.size, 0, none⟩) hsz).trans k0
        have k1' := (hb2.cell (p := ⟨w1.heap.size, 1, none⟩) hsz).trans k1
        have k2' : ∀ o, (w2.alloc o).cell? ⟨w1.heap.size, 2, none⟩ = some (.slice a k cap) := fun o => (((Below.refl _ _).alloc (Nat.le_refl _) o).cell (p := ⟨w1.heap.size, 2, none⟩) (by simp; omega)).trans ((hb2.cell (p := ⟨w1.heap.size, 2, none⟩) hsz).trans k2)
        have k2'' := (hb2.cell (p := ⟨w1.heap.size, 2, none⟩) hsz).trans k2
        have kf' := (hb2.frozen (p := ⟨w1.heap.size, 2, none⟩) hsz).trans kf
        have hown2 := owns_below Hown.out hb2
        have HB2 : Hid (Below w1.heap.size w1 w2) := hbl.trans (hb2.mono (by omega))
        clear k0 k1 k2 hline hb2 kf hbl
        go_wp2_with (at_builtin; refine wpList_append_own _ rfl (.tmp 47) (.tmp 49) 151 rfl (w1.heap.size + 1) 173 i0 (.agg #[.int .i64 0, .int .i64 0, .string ByteArray.empty]) 3 32 Tryz.underlying151 hi hz0 hz1 hz2 rfl (by decide) (.slice a k cap) k (entCells ys) rfl ((hown2.alloc _).alloc _) ⟨w2.heap.size + 1, 0, none⟩ 1 1 [.int .i64 e.key, .int .i64 e.uid, .string ⟨e.flags.toArray⟩] rfl rfl ?c1 ?c2 ?c3 ?c4 ?c5 ?_)
        case c1 => exact fun j u hj => new_cells w2 _ _ _ _ _ j u hj
        case c2 => intro u hu; simp only [List.mem_cons, List.not_mem_nil, or_false] at hu; rcases hu with rfl | rfl | rfl <;> rfl
        case c3 => unfold maxLen; omega
        case c4 => omega
        case c5 => simp; omega
        intro v' w5 hown5 hgrow5 hnil5
        obtain ⟨g, cap', hv', hg⟩ := owns_form hown5 hnil5
        have hrow : ∀ j, (Value.slice a k cap).ownBlock = some j → w1.heap.size + 1 ≤ j := owns_row_ge hown2
        have hMr : some w1.heap.size ≠ (Value.slice a k cap).ownBlock := fun h => by have := hrow _ h.symm; omega
        have hblkM := hgrow5.block w1.heap.size (by simp; omega) hMr
        have hB4 : Below w2.heap.size w2 ((w2.alloc (.cells #[.int .i64 e.key, .int .i64 e.uid, .string ⟨e.flags.toArray⟩] 173)).alloc (.cells #[.int .i64 e.key, .int .i64 e.uid, .string ⟨e.flags.toArray⟩] 173)) := ((Below.refl _ _).alloc (Nat.le_refl _) _).alloc (by simp) _
        have m0 := (World.cell?_of_block (a := ⟨w1.heap.size, 0, none⟩) hblkM).trans ((hB4.cell (p := ⟨w1.heap.size, 0, none⟩) (by simp; omega)).trans k0')
        have m1 := (World.cell?_of_block (a := ⟨w1.heap.size, 1, none⟩) hblkM).trans ((hB4.cell (p := ⟨w1.heap.size, 1, none⟩) (by simp; omega)).trans k1')
        have m2 := (World.cell?_of_block (a := ⟨w1.heap.size, 2, none⟩) hblkM).trans ((hB4.cell (p := ⟨w1.heap.size, 2, none⟩) (by simp; omega)).trans k2'')
        have mf := (World.frozen?_of_block (a := ⟨w1.heap.size, 2, none⟩) hblkM).trans ((hB4.frozen (p := ⟨w1.heap.size, 2, none⟩) (by simp; omega)).trans kf')
        have HB5 : Hid (Below w1.heap.size w1 w5) := ((HB2.out.alloc (by omega) _).alloc (by simp; omega) _).grown hgrow5 (by simp; omega) (fun j hj => by have := hrow j hj; omega)
        have hs5 : w1.heap.size < w5.heap.size := by have := hgrow5.size; simp at this; omega
        rw [← entCells_snoc] at hown5
        rw [hv'] at hown5 ⊢
        have Hown5 : Hid (w5.ownsRow (w1.heap.size + 1) 173 3 (.slice (some ⟨g, 0, none⟩) (k + 1) cap') (k + 1) (entCells (ys ++ [e]))) := hown5
        clear hown5 hgrow5 hnil5 hv' hown2 hrow hMr hblkM hB4 k0' k1' k2' k2'' kf'
        go_wp2
        go_roundw
        case rel =>
          (repeat apply Exists.intro)
          exact ⟨⟨k + 1, some ⟨g, 0, none⟩, cap', ys ++ [e], by omega, by go_num, HP', (World.cell?_setCell_other _ _ _ _ (by simp)).trans m0, (World.cell?_setCell_other _ _ _ _ (by simp)).trans m1, World.cell?_setCell_same _ _ _ m2, by simpa using mf, ownsRow_setCell_below Hown5.out (by simp) _, HB5.out.setCell (by simp) _, by simpa using hs5⟩, rfl⟩
        case measure => simp [intOf]; omega
    · have hkm : k = m := by omega
      subst hkm
      have r0 := (hbl.cell (p := ⟨w.heap.size, 0, none⟩) (by simp; omega)).trans a0
      have r1 := (hbl.cell (p := ⟨w.heap.size, 1, none⟩) (by simp; omega)).trans a1
      have r2 := (hbl.cell (p := ⟨w.heap.size, 2, none⟩) (by simp; omega)).trans a2
      have q0 := (hbl.frozen (p := ⟨w.heap.size, 0, none⟩) (by simp; omega)).trans f0
      have q1 := (hbl.frozen (p := ⟨w.heap.size, 1, none⟩) (by simp; omega)).trans f1
      have q2 := (hbl.frozen (p := ⟨w.heap.size, 2, none⟩) (by simp; omega)).trans f2
      have HBr : Hid (Below w.heap.size w wr) := HB1.out.trans (hbl.mono (by omega))
      have Hown : Hid (wr.ownsRow (w1.heap.size + 1) 173 3 (.slice a k cap) k (entCells ys)) := hown
      clear hEr hbl hown a0 a1 a2 f0 f1 f2
      obtain ⟨b0, b1, b2⟩ := box3 r0 r1 r2 (.int .i64 x) (.int .i64 y) (.slice a k cap)
      go_wp2
      refine bodyPost_ret (v := .tuple #[.agg #[.int .i64 x, .int .i64 y, .slice a k cap], .bool true]) (by simp [results, Tryz.results145, go_sem, b0, b1, b2]) rfl ?_
      rw [HP.out]
      have hyl : ys.length = k := by
        have := parseEnts_len _ _ HP.out
        rw [List.length_take, HT3.out] at this
        omega
      refine ⟨a, cap, by rw [hyl], ((HBr.out.setCell (by simp) _).setCell (by simp) _).setCell (by simp) _, ?_, ?_, ?_, fun b off hb => by have := (slAt_of_owns Hown.out hyl).2.2 b off hb; omega⟩
      · obtain ⟨hsl, _, hge⟩ := slAt_of_owns Hown.out hyl
        have hne : ∀ b off, a = some ⟨b, off, none⟩ → b ≠ w.heap.size := fun b off hb => by have := hge b off hb; omega
        exact ((hsl.setCell _ _ hne).setCell _ _ hne).setCell _ _ hne
      · have := (slAt_of_owns Hown.out hyl).2.1; omega
      · subst hyl
        exact OwnE.base (ownsRow_setCell_below (ownsRow_setCell_below (ownsRow_setCell_below Hown.out (by simp; omega) _) (by simp; omega) _) (by simp; omega) _) (by omega)

/-- lists.parse -/
theorem parse_any (s : ByteArray) (hs : s.size ≤ 400) (w : World) (hE : Env w) :
    Calls Tryz.prog 145 #[.string s] w fun r w' => match Mb.parseL s.data.toList with
      | none => r = .returned (.tuple #[.agg #[.int .i64 0, .int .i64 0, .slice none 0 0], .bool false]) ∧ Below w.heap.size w w'
      | some (e, n, xs) => ∃ a cap, r = .returned (.tuple #[.agg #[.int .i64 e, .int .i64 n, .slice a xs.length cap], .bool true]) ∧ Below w.heap.size w w' ∧ SlAt w' a xs ∧ xs.length ≤ cap ∧ OwnE w' w.heap.size a cap xs ∧ ∀ b off, a = some ⟨b, off, none⟩ → w.heap.size ≤ b := by
  have hl : s.data.toList.length ≤ 400 := by rw [← Lib.size_eq]; exact hs
  have hc := splitC_count 10 s.data.toList
  have hp := splitC_len 10 s.data.toList
  by_cases h3 : (Mb.splitC 10 s.data.toList).length < 3
  · have e : Mb.parseL s.data.toList = none := by unfold Mb.parseL; rw [if_pos h3]
    rw [e]
    exact parse_short s hs w hE h3
  · cases hL : Mb.splitC 10 s.data.toList with
    | nil => rw [hL] at h3; simp at h3
    | cons h T =>
      rw [hL] at h3 hc hp
      simp only [List.length_cons] at h3 hc
      obtain ⟨m, hm⟩ : ∃ m, T.length = m + 2 := ⟨T.length - 2, by omega⟩
      have hh := hp h (by simp)
      have hT : ∀ l ∈ T, l.length ≤ 400 := fun l hl' => by have := hp l (by simp [hl']); omega
      have e : Mb.parseL s.data.toList = match Mb.parseHeadL h, Mb.parseEnts (T.take m) with
        | some (e, n), some xs => some (e, n, xs)
        | _, _ => none := by
        unfold Mb.parseL
        rw [hL, if_neg (by simp only [List.length_cons]; omega)]
        simp only [List.headD_cons, List.drop_succ_cons, List.drop_zero, List.length_cons]
        rw [show T.length + 1 - 3 = m by omega]
        rfl
      rcases opt_or (Mb.parseHeadL h) with hn | ⟨⟨x, y⟩, hn⟩
      · rw [e, hn]
        exact parse_head_bad s hs w hE h T hL m hm (by omega) (by omega) hn
      · refine (parse_rest s hs w hE h T hL m hm (by omega) (by omega) hT x y hn).mono fun r w' hr => ?_
        rw [e, hn]
        rcases opt_or (Mb.parseEnts (T.take m)) with hq | ⟨xs, hq⟩
        · rw [hq] at hr ⊢; exact hr
        · rw [hq] at hr ⊢; exact hr

end Go.Proofs.YtamglanahpcedaaGreatDoor
namespace Go.Proofs.YtamglanahpcedaaGreatDoor
open Go.RowKit

theorem meant_len (f : List UInt8) : (Mb.meant f).length ≤ f.length := by
  unfold Mb.meant; split
  · simp
  · exact Nat.le_refl _

theorem parseEntL_len {l : List UInt8} {x : Mb.Ent} (h : Mb.parseEntL l = some x) : x.flags.length ≤ l.length := by
  unfold Mb.parseEntL at h
  split at h
  · rename_i a b c hp
    split at h
    · cases h
      have := splitC_len 32 l c (by rw [hp]; simp)
      have := meant_len c
      simp only; omega
    · cases h
  · cases h
theorem parseEnts_flags : ∀ (ls : List (List UInt8)) (xs : List Mb.Ent), Mb.parseEnts ls = some xs → (∀ l ∈ ls, l.length ≤ 400) → ∀ x ∈ xs, x.flags.length ≤ 400
  | [], xs, h, _, x, hx => by simp only [Mb.parseEnts, Option.some.injEq] at h; subst h; cases hx
  | l :: ls, xs, h, hl, x, hx => by
    simp only [Mb.parseEnts] at h
    split at h
    · rename_i y ys hy hys
      simp only [Option.some.injEq] at h
      subst h
      rw [List.mem_cons] at hx
      rcases hx with rfl | hx
      · have := parseEntL_len hy; have := hl l (by simp); omega
      · exact parseEnts_flags ls ys hys (fun l' h' => hl l' (by simp [h'])) x hx
    · cases h
theorem parseL_bounds {d : List UInt8} {e n : Int} {xs : List Mb.Ent} (hd : d.length ≤ 400) (h : Mb.parseL d = some (e, n, xs)) : (∀ x ∈ xs, x.flags.length ≤ maxLen) ∧ xs.length ≤ maxLen := by
  unfold Mb.parseL at h
  split at h
  · cases h
  · split at h
    · rename_i e' n' xs' he hx
      cases h
      have hc := splitC_count 10 d
      have hp := splitC_len 10 d
      refine ⟨fun x hxm => ?_, ?_⟩
      · have := parseEnts_flags _ _ hx (fun l hl => by
          have := hp l (List.mem_of_mem_drop (List.mem_of_mem_take hl)); omega) x hxm
        unfold maxLen; omega
      · have := parseEnts_len _ _ hx
        rw [List.length_take, List.length_drop] at this
        unfold maxLen; omega
    · cases h

theorem SlAt.below {w w' : World} {B : Nat} {a : Option Addr} {xs : List Mb.Ent} (h : SlAt w a xs) (hb : Below B w w') (hB : w.heap.size ≤ B) : SlAt w' a xs := by
  rcases h with h | ⟨b, off, h1, h2, h3⟩
  · exact Or.inl h
  · exact Or.inr ⟨b, off, h1, by have := hb.size; omega, h3.below hb (by omega)⟩

set_option maxHeartbeats 400000 in
theorem read_unparsed (s : ByteArray) (hs : s.size ≤ 400) (w : World) (hE : Env w) (h : Mb.parseL s.data.toList = none) :
    Calls Tryz.prog 110 #[.string s] w fun r w' => r = .returned (.tuple #[.agg #[.int .i64 0, .int .i64 0, .slice none 0 0], .int .i64 3]) ∧ Below w.heap.size w w' := by
  have HE1 : ∀ o, Env (w.alloc o) := fun o => hE.below ((Below.refl _ _).alloc (Nat.le_refl _) o) (Nat.le_refl _)
  have g := fun o => parse_any s hs (w.alloc o) (HE1 o)
  rw [h] at g
  have hn : decide ((400 : Int) < (s.size : Int)) = false := by simp; omega
  clear h HE1
  go_enter Tryz.func110, Tryz.ntmps110
  go_wp2_with fail
  refine (g _).mono ?_
  rintro e' w1 ⟨rfl, hb1⟩
  clear g
  have a0 := hb1.cell (p := ⟨w.heap.size, 0, none⟩) (by simp)
  have a1 := hb1.cell (p := ⟨w.heap.size, 1, none⟩) (by simp)
  have a2 := hb1.cell (p := ⟨w.heap.size, 2, none⟩) (by simp)
  have f0 := hb1.frozen (p := ⟨w.heap.size, 0, none⟩) (by simp)
  have f1 := hb1.frozen (p := ⟨w.heap.size, 1, none⟩) (by simp)
  have f2 := hb1.frozen (p := ⟨w.heap.size, 2, none⟩) (by simp)
  have hs1 := hb1.size
  simp at a0 a1 a2 f0 f1 f2 hs1
  have HB1 : Hid (Below w.heap.size w w1) := (((Below.refl w.heap.size w).alloc (Nat.le_refl _) _).trans (hb1.mono (by simp)))
  clear hb1
  have c0 : ∀ o, (w1.alloc o).cell? ⟨w.heap.size, 0, none⟩ = some (.int .i64 0) := fun o => ((((Below.refl _ _).alloc (Nat.le_refl _) o).cell (p := ⟨w.heap.size, 0, none⟩) (by simp; omega)).trans a0)
  have c1 : ∀ o, (w1.alloc o).cell? ⟨w.heap.size, 1, none⟩ = some (.int .i64 0) := fun o => ((((Below.refl _ _).alloc (Nat.le_refl _) o).cell (p := ⟨w.heap.size, 1, none⟩) (by simp; omega)).trans a1)
  have c2 : ∀ o, (w1.alloc o).cell? ⟨w.heap.size, 2, none⟩ = some (.slice none 0 0) := fun o => ((((Below.refl _ _).alloc (Nat.le_refl _) o).cell (p := ⟨w.heap.size, 2, none⟩) (by simp; omega)).trans a2)
  have d0 : ∀ o, (w1.alloc o).frozen? ⟨w.heap.size, 0, none⟩ = false := fun o => ((((Below.refl _ _).alloc (Nat.le_refl _) o).frozen (p := ⟨w.heap.size, 0, none⟩) (by simp; omega)).trans f0)
  have d1 : ∀ o, (w1.alloc o).frozen? ⟨w.heap.size, 1, none⟩ = false := fun o => ((((Below.refl _ _).alloc (Nat.le_refl _) o).frozen (p := ⟨w.heap.size, 1, none⟩) (by simp; omega)).trans f1)
  have d2 : ∀ o, (w1.alloc o).frozen? ⟨w.heap.size, 2, none⟩ = false := fun o => ((((Below.refl _ _).alloc (Nat.le_refl _) o).frozen (p := ⟨w.heap.size, 2, none⟩) (by simp; omega)).trans f2)
  go_wp2
  obtain ⟨b0, b1, b2⟩ := box3 (c0 (.cells #[.int .i64 0, .int .i64 0, .slice none 0 0] 153)) (c1 _) (c2 _) (.int .i64 0) (.int .i64 0) (.slice none 0 0)
  refine bodyPost_ret (v := .tuple #[.agg #[.int .i64 0, .int .i64 0, .slice none 0 0], .int .i64 3]) (by simp [results, Tryz.results110, go_sem, b0, b1, b2]) rfl ⟨rfl, ?_⟩
  exact (((HB1.out.alloc (by omega) _).setCell (by simp) _).setCell (by simp) _).setCell (by simp) _

set_option maxHeartbeats 400000 in
theorem read_wrong (s : ByteArray) (hs : s.size ≤ 400) (w : World) (hE : Env w) (e n : Int) (xs : List Mb.Ent) (h : Mb.parseL s.data.toList = some (e, n, xs)) (hok : Mb.listOk e n xs = false) :
    Calls Tryz.prog 110 #[.string s] w fun r w' => r = .returned (.tuple #[.agg #[.int .i64 0, .int .i64 0, .slice none 0 0], .int .i64 3]) ∧ Below w.heap.size w w' := by
  obtain ⟨hfl, hxl⟩ := parseL_bounds (by rw [← Lib.size_eq]; exact hs) h
  have HE1 : ∀ o, Env (w.alloc o) := fun o => hE.below ((Below.refl _ _).alloc (Nat.le_refl _) o) (Nat.le_refl _)
  have g := fun o => parse_any s hs (w.alloc o) (HE1 o)
  rw [h] at g
  have hn : decide ((400 : Int) < (s.size : Int)) = false := by simp; omega
  clear h HE1
  go_enter Tryz.func110, Tryz.ntmps110
  go_wp2_with fail
  refine (g _).mono ?_
  rintro e' w1 ⟨a, cap, rfl, hb1, hsl, hcap, hown, hnew⟩
  have hne' : ∀ b off, a = some ⟨b, off, none⟩ → b ≠ w.heap.size := fun b off hb => by have := hnew b off hb; simp at this; omega
  have HNE : Hid (∀ b off, a = some ⟨b, off, none⟩ → b ≠ w.heap.size) := hne'
  have HNW : Hid (∀ b off, a = some ⟨b, off, none⟩ → w.heap.size ≤ b) := fun b off hb => by have := hnew b off hb; simp at this; omega
  clear hnew hne'
  clear g
  have a0 := hb1.cell (p := ⟨w.heap.size, 0, none⟩) (by simp)
  have a1 := hb1.cell (p := ⟨w.heap.size, 1, none⟩) (by simp)
  have a2 := hb1.cell (p := ⟨w.heap.size, 2, none⟩) (by simp)
  have f0 := hb1.frozen (p := ⟨w.heap.size, 0, none⟩) (by simp)
  have f1 := hb1.frozen (p := ⟨w.heap.size, 1, none⟩) (by simp)
  have f2 := hb1.frozen (p := ⟨w.heap.size, 2, none⟩) (by simp)
  have hs1 := hb1.size
  simp at a0 a1 a2 f0 f1 f2 hs1
  have HB1 : Hid (Below w.heap.size w w1) := (((Below.refl w.heap.size w).alloc (Nat.le_refl _) _).trans (hb1.mono (by simp)))
  clear hb1
  have hE1 : Env w1 := hE.below HB1.out (Nat.le_refl _)
  have gw := fun o => write_no e n a cap xs (w1.alloc o) (hsl.below ((Below.refl _ _).alloc (Nat.le_refl _) o) (Nat.le_refl _)) hxl hcap hfl hok
  go_wp2_with fail
  refine (gw _).mono ?_
  rintro e' w2 ⟨rfl, hb2⟩
  clear gw
  have hs2 := hb2.size
  simp at hs2
  have a0 := (hb2.cell (p := ⟨w.heap.size, 0, none⟩) (by simp; omega)).trans ((((Below.refl _ _).alloc (Nat.le_refl _) _).cell (p := ⟨w.heap.size, 0, none⟩) (by simp; omega)).trans a0)
  have a1 := (hb2.cell (p := ⟨w.heap.size, 1, none⟩) (by simp; omega)).trans ((((Below.refl _ _).alloc (Nat.le_refl _) _).cell (p := ⟨w.heap.size, 1, none⟩) (by simp; omega)).trans a1)
  have a2 := (hb2.cell (p := ⟨w.heap.size, 2, none⟩) (by simp; omega)).trans ((((Below.refl _ _).alloc (Nat.le_refl _) _).cell (p := ⟨w.heap.size, 2, none⟩) (by simp; omega)).trans a2)
  have f0 := (hb2.frozen (p := ⟨w.heap.size, 0, none⟩) (by simp; omega)).trans ((((Below.refl _ _).alloc (Nat.le_refl _) _).frozen (p := ⟨w.heap.size, 0, none⟩) (by simp; omega)).trans f0)
  have f1 := (hb2.frozen (p := ⟨w.heap.size, 1, none⟩) (by simp; omega)).trans ((((Below.refl _ _).alloc (Nat.le_refl _) _).frozen (p := ⟨w.heap.size, 1, none⟩) (by simp; omega)).trans f1)
  have f2 := (hb2.frozen (p := ⟨w.heap.size, 2, none⟩) (by simp; omega)).trans ((((Below.refl _ _).alloc (Nat.le_refl _) _).frozen (p := ⟨w.heap.size, 2, none⟩) (by simp; omega)).trans f2)
  have l0 := hb2.cell (p := ⟨w1.heap.size, 0, none⟩) (by simp)
  have l1 := hb2.cell (p := ⟨w1.heap.size, 1, none⟩) (by simp)
  have l2 := hb2.cell (p := ⟨w1.heap.size, 2, none⟩) (by simp)
  simp at l0 l1 l2
  have HB2 : Hid (Below w.heap.size w w2) := (HB1.out.alloc (by omega) _).trans (hb2.mono (by simp; omega))
  have HS2 : Hid (SlAt w2 a xs) := (hsl.below ((Below.refl _ _).alloc (Nat.le_refl _) _) (Nat.le_refl _)).below hb2 (Nat.le_refl _)
  clear hb2
  obtain ⟨b0, b1, b2⟩ := box3 a0 a1 a2 (.int .i64 0) (.int .i64 0) (.slice none 0 0)
  go_wp2
  refine bodyPost_ret (v := .tuple #[.agg #[.int .i64 0, .int .i64 0, .slice none 0 0], .int .i64 3]) (by simp [results, Tryz.results110, go_sem, b0, b1, b2]) rfl ⟨rfl, ?_⟩
  exact ((HB2.out.setCell (by simp) _).setCell (by simp) _).setCell (by simp) _

set_option maxHeartbeats 400000 in
theorem read_other (s : ByteArray) (hs : s.size ≤ 400) (w : World) (hE : Env w) (e n : Int) (xs : List Mb.Ent) (h : Mb.parseL s.data.toList = some (e, n, xs)) (hok : Mb.listOk e n xs = true) (hne : Mb.textOf e n xs ≠ s.data.toList) :
    Calls Tryz.prog 110 #[.string s] w fun r w' => r = .returned (.tuple #[.agg #[.int .i64 0, .int .i64 0, .slice none 0 0], .int .i64 3]) ∧ Below w.heap.size w w' := by
  obtain ⟨hfl, hxl⟩ := parseL_bounds (by rw [← Lib.size_eq]; exact hs) h
  have HE1 : ∀ o, Env (w.alloc o) := fun o => hE.below ((Below.refl _ _).alloc (Nat.le_refl _) o) (Nat.le_refl _)
  have g := fun o => parse_any s hs (w.alloc o) (HE1 o)
  rw [h] at g
  have hn : decide ((400 : Int) < (s.size : Int)) = false := by simp; omega
  clear h HE1
  go_enter Tryz.func110, Tryz.ntmps110
  go_wp2_with fail
  refine (g _).mono ?_
  rintro e' w1 ⟨a, cap, rfl, hb1, hsl, hcap, hown, hnew⟩
  have hne' : ∀ b off, a = some ⟨b, off, none⟩ → b ≠ w.heap.size := fun b off hb => by have := hnew b off hb; simp at this; omega
  have HNE : Hid (∀ b off, a = some ⟨b, off, none⟩ → b ≠ w.heap.size) := hne'
  have HNW : Hid (∀ b off, a = some ⟨b, off, none⟩ → w.heap.size ≤ b) := fun b off hb => by have := hnew b off hb; simp at this; omega
  clear hnew hne'
  clear g
  have a0 := hb1.cell (p := ⟨w.heap.size, 0, none⟩) (by simp)
  have a1 := hb1.cell (p := ⟨w.heap.size, 1, none⟩) (by simp)
  have a2 := hb1.cell (p := ⟨w.heap.size, 2, none⟩) (by simp)
  have f0 := hb1.frozen (p := ⟨w.heap.size, 0, none⟩) (by simp)
  have f1 := hb1.frozen (p := ⟨w.heap.size, 1, none⟩) (by simp)
  have f2 := hb1.frozen (p := ⟨w.heap.size, 2, none⟩) (by simp)
  have hs1 := hb1.size
  simp at a0 a1 a2 f0 f1 f2 hs1
  have HB1 : Hid (Below w.heap.size w w1) := (((Below.refl w.heap.size w).alloc (Nat.le_refl _) _).trans (hb1.mono (by simp)))
  clear hb1
  have hE1 : Env w1 := hE.below HB1.out (Nat.le_refl _)
  have gw := fun o => write_yes e n a cap xs (w1.alloc o) (hE1.below ((Below.refl _ _).alloc (Nat.le_refl _) o) (Nat.le_refl _)) (hsl.below ((Below.refl _ _).alloc (Nat.le_refl _) o) (Nat.le_refl _)) hxl hcap hfl hok
  obtain ⟨bT, HbT, HbT'⟩ := named_bytes (Mb.textOf e n xs)
  rw [← HbT.out] at gw
  have hd : (bT.toList == s.toList) = false := by
    rw [ByteArray.toList_eq, ByteArray.toList_eq, HbT'.out]; simpa using hne
  clear hne
  go_wp2_with fail
  refine (gw _).mono ?_
  rintro e' w2 ⟨rfl, hb2⟩
  clear gw
  have hs2 := hb2.size
  simp at hs2
  have a0 := (hb2.cell (p := ⟨w.heap.size, 0, none⟩) (by simp; omega)).trans ((((Below.refl _ _).alloc (Nat.le_refl _) _).cell (p := ⟨w.heap.size, 0, none⟩) (by simp; omega)).trans a0)
  have a1 := (hb2.cell (p := ⟨w.heap.size, 1, none⟩) (by simp; omega)).trans ((((Below.refl _ _).alloc (Nat.le_refl _) _).cell (p := ⟨w.heap.size, 1, none⟩) (by simp; omega)).trans a1)
  have a2 := (hb2.cell (p := ⟨w.heap.size, 2, none⟩) (by simp; omega)).trans ((((Below.refl _ _).alloc (Nat.le_refl _) _).cell (p := ⟨w.heap.size, 2, none⟩) (by simp; omega)).trans a2)
  have f0 := (hb2.frozen (p := ⟨w.heap.size, 0, none⟩) (by simp; omega)).trans ((((Below.refl _ _).alloc (Nat.le_refl _) _).frozen (p := ⟨w.heap.size, 0, none⟩) (by simp; omega)).trans f0)
  have f1 := (hb2.frozen (p := ⟨w.heap.size, 1, none⟩) (by simp; omega)).trans ((((Below.refl _ _).alloc (Nat.le_refl _) _).frozen (p := ⟨w.heap.size, 1, none⟩) (by simp; omega)).trans f1)
  have f2 := (hb2.frozen (p := ⟨w.heap.size, 2, none⟩) (by simp; omega)).trans ((((Below.refl _ _).alloc (Nat.le_refl _) _).frozen (p := ⟨w.heap.size, 2, none⟩) (by simp; omega)).trans f2)
  have l0 := hb2.cell (p := ⟨w1.heap.size, 0, none⟩) (by simp)
  have l1 := hb2.cell (p := ⟨w1.heap.size, 1, none⟩) (by simp)
  have l2 := hb2.cell (p := ⟨w1.heap.size, 2, none⟩) (by simp)
  simp at l0 l1 l2
  have HB2 : Hid (Below w.heap.size w w2) := (HB1.out.alloc (by omega) _).trans (hb2.mono (by simp; omega))
  have HS2 : Hid (SlAt w2 a xs) := (hsl.below ((Below.refl _ _).alloc (Nat.le_refl _) _) (Nat.le_refl _)).below hb2 (Nat.le_refl _)
  clear hb2
  obtain ⟨b0, b1, b2⟩ := box3 a0 a1 a2 (.int .i64 0) (.int .i64 0) (.slice none 0 0)
  go_wp2
  refine bodyPost_ret (v := .tuple #[.agg #[.int .i64 0, .int .i64 0, .slice none 0 0], .int .i64 3]) (by simp [results, Tryz.results110, go_sem, b0, b1, b2]) rfl ⟨rfl, ?_⟩
  exact ((HB2.out.setCell (by simp) _).setCell (by simp) _).setCell (by simp) _

set_option maxHeartbeats 400000 in
theorem read_same (s : ByteArray) (hs : s.size ≤ 400) (w : World) (hE : Env w) (e n : Int) (xs : List Mb.Ent) (h : Mb.parseL s.data.toList = some (e, n, xs)) (hok : Mb.listOk e n xs = true) (hne : Mb.textOf e n xs = s.data.toList) :
    Calls Tryz.prog 110 #[.string s] w fun r w' => ∃ a cap, r = .returned (.tuple #[.agg #[.int .i64 e, .int .i64 n, .slice a xs.length cap], .int .i64 0]) ∧ Below w.heap.size w w' ∧ SlAt w' a xs ∧ xs.length ≤ cap ∧ OwnE w' w.heap.size a cap xs ∧ ∀ b off, a = some ⟨b, off, none⟩ → w.heap.size ≤ b := by
  obtain ⟨hfl, hxl⟩ := parseL_bounds (by rw [← Lib.size_eq]; exact hs) h
  have HE1 : ∀ o, Env (w.alloc o) := fun o => hE.below ((Below.refl _ _).alloc (Nat.le_refl _) o) (Nat.le_refl _)
  have g := fun o => parse_any s hs (w.alloc o) (HE1 o)
  rw [h] at g
  have hn : decide ((400 : Int) < (s.size : Int)) = false := by simp; omega
  clear h HE1
  go_enter Tryz.func110, Tryz.ntmps110
  go_wp2_with fail
  refine (g _).mono ?_
  rintro e' w1 ⟨a, cap, rfl, hb1, hsl, hcap, hown, hnew⟩
  have hne' : ∀ b off, a = some ⟨b, off, none⟩ → b ≠ w.heap.size := fun b off hb => by have := hnew b off hb; simp at this; omega
  have HNE : Hid (∀ b off, a = some ⟨b, off, none⟩ → b ≠ w.heap.size) := hne'
  have HNW : Hid (∀ b off, a = some ⟨b, off, none⟩ → w.heap.size ≤ b) := fun b off hb => by have := hnew b off hb; simp at this; omega
  clear hnew hne'
  clear g
  have a0 := hb1.cell (p := ⟨w.heap.size, 0, none⟩) (by simp)
  have a1 := hb1.cell (p := ⟨w.heap.size, 1, none⟩) (by simp)
  have a2 := hb1.cell (p := ⟨w.heap.size, 2, none⟩) (by simp)
  have f0 := hb1.frozen (p := ⟨w.heap.size, 0, none⟩) (by simp)
  have f1 := hb1.frozen (p := ⟨w.heap.size, 1, none⟩) (by simp)
  have f2 := hb1.frozen (p := ⟨w.heap.size, 2, none⟩) (by simp)
  have hs1 := hb1.size
  simp at a0 a1 a2 f0 f1 f2 hs1
  have HB1 : Hid (Below w.heap.size w w1) := (((Below.refl w.heap.size w).alloc (Nat.le_refl _) _).trans (hb1.mono (by simp)))
  clear hb1
  have hE1 : Env w1 := hE.below HB1.out (Nat.le_refl _)
  have gw := fun o => write_yes e n a cap xs (w1.alloc o) (hE1.below ((Below.refl _ _).alloc (Nat.le_refl _) o) (Nat.le_refl _)) (hsl.below ((Below.refl _ _).alloc (Nat.le_refl _) o) (Nat.le_refl _)) hxl hcap hfl hok
  obtain ⟨bT, HbT, HbT'⟩ := named_bytes (Mb.textOf e n xs)
  rw [← HbT.out] at gw
  have hd : (bT.toList == s.toList) = true := by
    rw [ByteArray.toList_eq, ByteArray.toList_eq, HbT'.out]; simpa using hne
  clear hne
  go_wp2_with fail
  refine (gw _).mono ?_
  rintro e' w2 ⟨rfl, hb2⟩
  clear gw
  have hs2 := hb2.size
  simp at hs2
  have a0 := (hb2.cell (p := ⟨w.heap.size, 0, none⟩) (by simp; omega)).trans ((((Below.refl _ _).alloc (Nat.le_refl _) _).cell (p := ⟨w.heap.size, 0, none⟩) (by simp; omega)).trans a0)
  have a1 := (hb2.cell (p := ⟨w.heap.size, 1, none⟩) (by simp; omega)).trans ((((Below.refl _ _).alloc (Nat.le_refl _) _).cell (p := ⟨w.heap.size, 1, none⟩) (by simp; omega)).trans a1)
  have a2 := (hb2.cell (p := ⟨w.heap.size, 2, none⟩) (by simp; omega)).trans ((((Below.refl _ _).alloc (Nat.le_refl _) _).cell (p := ⟨w.heap.size, 2, none⟩) (by simp; omega)).trans a2)
  have f0 := (hb2.frozen (p := ⟨w.heap.size, 0, none⟩) (by simp; omega)).trans ((((Below.refl _ _).alloc (Nat.le_refl _) _).frozen (p := ⟨w.heap.size, 0, none⟩) (by simp; omega)).trans f0)
  have f1 := (hb2.frozen (p := ⟨w.heap.size, 1, none⟩) (by simp; omega)).trans ((((Below.refl _ _).alloc (Nat.le_refl _) _).frozen (p := ⟨w.heap.size, 1, none⟩) (by simp; omega)).trans f1)
  have f2 := (hb2.frozen (p := ⟨w.heap.size, 2, none⟩) (by simp; omega)).trans ((((Below.refl _ _).alloc (Nat.le_refl _) _).frozen (p := ⟨w.heap.size, 2, none⟩) (by simp; omega)).trans f2)
  have l0 := hb2.cell (p := ⟨w1.heap.size, 0, none⟩) (by simp)
  have l1 := hb2.cell (p := ⟨w1.heap.size, 1, none⟩) (by simp)
  have l2 := hb2.cell (p := ⟨w1.heap.size, 2, none⟩) (by simp)
  simp at l0 l1 l2
  have HB2 : Hid (Below w.heap.size w w2) := (HB1.out.alloc (by omega) _).trans (hb2.mono (by simp; omega))
  have HO2 : Hid (OwnE w2 w.heap.size a cap xs) := ((OwnE.below hown ((Below.refl _ _).alloc (Nat.le_refl _) _)).below hb2).base (by simp)
  have HS2 : Hid (SlAt w2 a xs) := (hsl.below ((Below.refl _ _).alloc (Nat.le_refl _) _) (Nat.le_refl _)).below hb2 (Nat.le_refl _)
  clear hb2
  obtain ⟨b0, b1, b2⟩ := box3 a0 a1 a2 (.int .i64 e) (.int .i64 n) (.slice a xs.length cap)
  go_wp2
  refine bodyPost_ret (v := .tuple #[.agg #[.int .i64 e, .int .i64 n, .slice a xs.length cap], .int .i64 0]) (by simp [results, Tryz.results110, go_sem, b0, b1, b2]) rfl ⟨a, cap, rfl, ?_, ?_, hcap, ?_, HNW.out⟩
  · exact ((HB2.out.setCell (by simp) _).setCell (by simp) _).setCell (by simp) _
  · exact ((HS2.out.setCell _ _ HNE.out).setCell _ _ HNE.out).setCell _ _ HNE.out
  · exact ((HO2.out.setCell _ _ HNE.out).setCell _ _ HNE.out).setCell _ _ HNE.out

/-- lists.Read -/
theorem lread_some (s : ByteArray) (hs : s.size ≤ 400) (w : World) (hE : Env w) (e n : Int) (xs : List Mb.Ent) (h : Mb.readL s.data.toList = some (e, n, xs)) :
    Calls Tryz.prog 110 #[.string s] w fun r w' => ∃ a cap, r = .returned (.tuple #[.agg #[.int .i64 e, .int .i64 n, .slice a xs.length cap], .int .i64 0]) ∧ Below w.heap.size w w' ∧ SlAt w' a xs ∧ xs.length ≤ cap ∧ OwnE w' w.heap.size a cap xs ∧ ∀ b off, a = some ⟨b, off, none⟩ → w.heap.size ≤ b := by
  unfold Mb.readL at h
  split at h
  · rename_i e' n' xs' hp
    split at h
    · rename_i hc
      cases h
      exact read_same s hs w hE e n xs hp hc.1 hc.2
    · cases h
  · cases h
theorem lread_none (s : ByteArray) (hs : s.size ≤ 400) (w : World) (hE : Env w) (h : Mb.readL s.data.toList = none) :
    Calls Tryz.prog 110 #[.string s] w fun r w' => r = .returned (.tuple #[.agg #[.int .i64 0, .int .i64 0, .slice none 0 0], .int .i64 3]) ∧ Below w.heap.size w w' := by
  unfold Mb.readL at h
  split at h
  · rename_i e' n' xs' hp
    split at h
    · cases h
    · rename_i hc
      cases hk : Mb.listOk e' n' xs' with
      | false => exact read_wrong s hs w hE e' n' xs' hp hk
      | true => exact read_other s hs w hE e' n' xs' hp hk (fun ht => hc ⟨hk, ht⟩)
  · rename_i hp
    exact read_unparsed s hs w hE hp






end Go.Proofs.YtamglanahpcedaaGreatDoor
