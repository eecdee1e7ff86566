/-
  OWN TEXT: a disk in memory.
  OWN TEXT: a disk in the middle of an act.
  OWN TEXT: an act loaded and laid into a slice of one; the types of a disk's rows.
-/
import Derived.Test.YtamglanahpcedaaGreatDoorDiskMA
import Derived.Test.YtamglanahpcedaaGreatDoorKeepA
import Derived.Test.YtamglanahpcedaaGreatDoorStepM
namespace Go.Proofs.YtamglanahpcedaaGreatDoor
open Go.RowKit Go.Lib

structure Mb.Nd where
  data : List UInt8
  safe : Int
structure Mb.Ac where
  kind : Int
  name : List UInt8
  dst : List UInt8
  data : List UInt8
structure Mb.Dk where
  names : List Mb.Nm
  sure : List Mb.Nm
  nodes : List Mb.Nd
  since : List Mb.Ac
  made : List Int

def ndCells (xs : List Mb.Nd) : List Value := xs.flatMap fun x => [.string ⟨x.data.toArray⟩, .int .i64 x.safe]
def acCells (xs : List Mb.Ac) : List Value := xs.flatMap fun x => [.int .i64 x.kind, .string ⟨x.name.toArray⟩, .string ⟨x.dst.toArray⟩, .string ⟨x.data.toArray⟩]
def inCells (xs : List Int) : List Value := xs.map fun x => .int .i64 x

theorem Tryz.info_node : (Tryz.prog.info? 50).map (fun i => (i.zero, i.size, i.bytes)) = some (some (.agg #[.string ByteArray.empty, .int .i64 0]), 2, 24) := by kernel_rfl
theorem Tryz.info_act : (Tryz.prog.info? 70).map (fun i => (i.zero, i.size, i.bytes)) = some (some (.agg #[.int .i64 0, .string ByteArray.empty, .string ByteArray.empty, .string ByteArray.empty]), 4, 56) := by kernel_rfl
theorem Tryz.info_int : (Tryz.prog.info? 3).map (fun i => (i.zero, i.size, i.bytes)) = some (some (.int .i64 0), 1, 8) := by kernel_rfl

/-- the five slices of a disk -/
structure DkV where
  n : Value
  s : Value
  d : Value
  i : Value
  m : Value

/-- the blocks of a disk -/
def DkV.foot (V : DkV) (K b : Nat) : Prop := b = K ∨ V.n.ownBlock = some b ∨ V.s.ownBlock = some b ∨ V.d.ownBlock = some b ∨ V.i.ownBlock = some b ∨ V.m.ownBlock = some b

structure DkAt (role : Nat → Nat) (B K : Nat) (V : DkV) (D : Mb.Dk) (W : World) : Prop where
  low : B ≤ K
  blk : W.heap[K]? = some (.cells #[V.n, V.s, V.d, V.i, V.m] 46 (0, 0))
  rk : role K = 1
  on : OwnR role 2 W B 52 2 V.n D.names.length (nmCells D.names)
  os : OwnR role 3 W B 52 2 V.s D.sure.length (nmCells D.sure)
  od : OwnR role 4 W B 50 2 V.d D.nodes.length (ndCells D.nodes)
  oi : OwnR role 5 W B 70 4 V.i D.since.length (acCells D.since)
  om : OwnR role 6 W B 3 1 V.m D.made.length (inCells D.made)

theorem heap_set_in {W : World} {K o : Nat} {cs : Array Value} {t : TypeId} {fr : Nat × Nat} (v : Value) (h : W.heap[K]? = some (.cells cs t fr)) : (W.setCell ⟨K, o, none⟩ v).heap[K]? = some (.cells (cs.setIfInBounds o v) t fr) := Lib.heap_setCell_same h v

theorem DkAt.lt {role : Nat → Nat} {B K : Nat} {V : DkV} {D : Mb.Dk} {W : World} (h : DkAt role B K V D W) : K < W.heap.size := (Array.getElem?_eq_some_iff.1 h.blk).1
theorem DkAt.kept {role : Nat → Nat} {B K : Nat} {V : DkV} {D : Mb.Dk} {W W' : World} (h : DkAt role B K V D W) (hc : Chg role 0 W W') : DkAt role B K V D W' :=
  ⟨h.low, (hc.block K h.lt (by rw [h.rk]; decide)).trans h.blk, h.rk, h.on.kept hc (by decide), h.os.kept hc (by decide), h.od.kept hc (by decide), h.oi.kept hc (by decide), h.om.kept hc (by decide)⟩
theorem DkAt.role {role role' : Nat → Nat} {B K : Nat} {V : DkV} {D : Mb.Dk} {W : World} (h : DkAt role B K V D W) (hr : ∀ b, b < W.heap.size → role' b = role b) : DkAt role' B K V D W :=
  ⟨h.low, h.blk, by rw [hr K h.lt]; exact h.rk, h.on.role hr, h.os.role hr, h.od.role hr, h.oi.role hr, h.om.role hr⟩

/-- blocks that are made from here on have this role -/
def ext (role : Nat → Nat) (N r : Nat) : Nat → Nat := fun b => if b < N then role b else r
theorem ext_old (role : Nat → Nat) (N r : Nat) : ∀ b, b < N → ext role N r b = role b := fun b h => by unfold ext; rw [if_pos h]
theorem ext_new (role : Nat → Nat) (N r b : Nat) (h : N ≤ b) : ext role N r b = r := by unfold ext; rw [if_neg (by omega)]

section
variable {role : Nat → Nat} {B K : Nat} {V : DkV} {D : Mb.Dk} {W W1 : World}
theorem set_chg (h : role K = 1) (o : Nat) (x : Value) : Chg role 1 W1 (W1.setCell ⟨K, o, none⟩ x) := (Chg.refl _ _ _).setCell h x
theorem DkAt.setN (h : DkAt role B K V D W) (hc : Chg role 2 W W1) {x : Value} {ns : List Mb.Nm} (hx : OwnR role 2 W1 B 52 2 x ns.length (nmCells ns)) :
    DkAt role B K { V with n := x } { D with names := ns } (W1.setCell ⟨K, 0, none⟩ x) := by
  have k := set_chg (W1 := W1) h.rk 0 x
  exact ⟨h.low, by have := heap_set_in (o := 0) x ((hc.block K h.lt (by rw [h.rk]; decide)).trans h.blk); simpa using this, h.rk, hx.kept k (by decide), (h.os.kept hc (by decide)).kept k (by decide), (h.od.kept hc (by decide)).kept k (by decide), (h.oi.kept hc (by decide)).kept k (by decide), (h.om.kept hc (by decide)).kept k (by decide)⟩
theorem DkAt.setS (h : DkAt role B K V D W) (hc : Chg role 3 W W1) {x : Value} {ns : List Mb.Nm} (hx : OwnR role 3 W1 B 52 2 x ns.length (nmCells ns)) :
    DkAt role B K { V with s := x } { D with sure := ns } (W1.setCell ⟨K, 1, none⟩ x) := by
  have k := set_chg (W1 := W1) h.rk 1 x
  exact ⟨h.low, by have := heap_set_in (o := 1) x ((hc.block K h.lt (by rw [h.rk]; decide)).trans h.blk); simpa using this, h.rk, (h.on.kept hc (by decide)).kept k (by decide), hx.kept k (by decide), (h.od.kept hc (by decide)).kept k (by decide), (h.oi.kept hc (by decide)).kept k (by decide), (h.om.kept hc (by decide)).kept k (by decide)⟩
theorem DkAt.setD (h : DkAt role B K V D W) (hc : Chg role 4 W W1) {x : Value} {ns : List Mb.Nd} (hx : OwnR role 4 W1 B 50 2 x ns.length (ndCells ns)) :
    DkAt role B K { V with d := x } { D with nodes := ns } (W1.setCell ⟨K, 2, none⟩ x) := by
  have k := set_chg (W1 := W1) h.rk 2 x
  exact ⟨h.low, by have := heap_set_in (o := 2) x ((hc.block K h.lt (by rw [h.rk]; decide)).trans h.blk); simpa using this, h.rk, (h.on.kept hc (by decide)).kept k (by decide), (h.os.kept hc (by decide)).kept k (by decide), hx.kept k (by decide), (h.oi.kept hc (by decide)).kept k (by decide), (h.om.kept hc (by decide)).kept k (by decide)⟩
theorem DkAt.setI (h : DkAt role B K V D W) (hc : Chg role 5 W W1) {x : Value} {ns : List Mb.Ac} (hx : OwnR role 5 W1 B 70 4 x ns.length (acCells ns)) :
    DkAt role B K { V with i := x } { D with since := ns } (W1.setCell ⟨K, 3, none⟩ x) := by
  have k := set_chg (W1 := W1) h.rk 3 x
  exact ⟨h.low, by have := heap_set_in (o := 3) x ((hc.block K h.lt (by rw [h.rk]; decide)).trans h.blk); simpa using this, h.rk, (h.on.kept hc (by decide)).kept k (by decide), (h.os.kept hc (by decide)).kept k (by decide), (h.od.kept hc (by decide)).kept k (by decide), hx.kept k (by decide), (h.om.kept hc (by decide)).kept k (by decide)⟩
theorem DkAt.setM (h : DkAt role B K V D W) (hc : Chg role 6 W W1) {x : Value} {ns : List Int} (hx : OwnR role 6 W1 B 3 1 x ns.length (inCells ns)) :
    DkAt role B K { V with m := x } { D with made := ns } (W1.setCell ⟨K, 4, none⟩ x) := by
  have k := set_chg (W1 := W1) h.rk 4 x
  exact ⟨h.low, by have := heap_set_in (o := 4) x ((hc.block K h.lt (by rw [h.rk]; decide)).trans h.blk); simpa using this, h.rk, (h.on.kept hc (by decide)).kept k (by decide), (h.os.kept hc (by decide)).kept k (by decide), (h.od.kept hc (by decide)).kept k (by decide), (h.oi.kept hc (by decide)).kept k (by decide), hx.kept k (by decide)⟩
end

theorem own_form2 {w : World} {B e size n : Nat} {v : Value} {xs : List Value} (h : w.ownsRow B e size v n xs) : ∃ a cap, v = .slice a n cap ∧ n ≤ cap := by
  rcases h.2 with ⟨h1, h2⟩ | ⟨g, c, cur, h1, h2, h3, h4, _⟩
  · subst h2; exact ⟨none, 0, h1, Nat.le_refl _⟩
  · exact ⟨_, c, h1, by omega⟩

open Classical in
/-- a disk's blocks and new ones: 1; others: 0 -/
noncomputable def footR (V : DkV) (K N : Nat) : Nat → Nat := fun b => if V.foot K b ∨ N ≤ b then 1 else 0
theorem footR_k (V : DkV) (K N : Nat) : footR V K N K = 1 := by unfold footR; rw [if_pos (Or.inl (show V.foot K K from Or.inl rfl))]
theorem footR_new (V : DkV) (K N b : Nat) (h : N ≤ b) : footR V K N b = 1 := by unfold footR; rw [if_pos (Or.inr h)]
theorem footR_in (V : DkV) (K N b : Nat) (h : V.foot K b) : footR V K N b = 1 := by unfold footR; rw [if_pos (Or.inl h)]
theorem footR_out (V : DkV) (K N b : Nat) (h : ¬ V.foot K b) (hb : b < N) : footR V K N b = 0 := by unfold footR; rw [if_neg (by rintro (h2 | h2); exact h h2; omega)]

/-- what a call on a disk leaves: nothing outside of its blocks has changed, and its blocks are its old ones or new -/
structure DkStep (K : Nat) (V V' : DkV) (W W' : World) : Prop where
  chg : Chg (footR V K W.heap.size) 1 W W'
  foot : ∀ b, V'.foot K b → V.foot K b ∨ W.heap.size ≤ b
theorem DkStep.block {K : Nat} {V V' : DkV} {W W' : World} (h : DkStep K V V' W W') (b : Nat) (hb : b < W.heap.size) (hf : ¬ V.foot K b) : W'.heap[b]? = W.heap[b]? ∧ ¬ V'.foot K b :=
  ⟨h.chg.block b hb (by rw [footR_out V K _ b hf hb]; decide), fun h2 => by rcases h.foot b h2 with h3 | h3; exact hf h3; omega⟩
theorem DkStep.refl (K : Nat) (V : DkV) (W : World) : DkStep K V V W W := ⟨Chg.refl _ _ _, fun _ h => Or.inl h⟩
theorem DkStep.trans {K : Nat} {V V' V'' : DkV} {W W' W'' : World} (h : DkStep K V V' W W') (k : DkStep K V' V'' W' W'') : DkStep K V V'' W W'' := by
  refine ⟨⟨k.chg.os.trans h.chg.os, k.chg.tape.trans h.chg.tape, k.chg.output.trans h.chg.output, Nat.le_trans h.chg.size k.chg.size, fun b hb hr => ?_⟩, fun b hb => ?_⟩
  · have hf : ¬ V.foot K b := fun hf => hr (footR_in V K _ b hf)
    obtain ⟨h1, h2⟩ := h.block b hb hf
    exact (k.block b (Nat.lt_of_lt_of_le hb h.chg.size) h2).1.trans h1
  · rcases k.foot b hb with h1 | h1
    · exact h.foot b h1
    · exact Or.inr (Nat.le_trans h.chg.size h1)

set_option maxRecDepth 100000 in
set_option maxHeartbeats 1000000 in
theorem do_settle {role : Nat → Nat} {B K : Nat} {V : DkV} {D : Mb.Dk} {W : World} (h : DkAt role B K V D W) (hB : B ≤ W.heap.size) (nm dt da : ByteArray) (hl : D.names.length ≤ 1048576) :
    Calls Tryz.prog 17 #[.pointer (some ⟨K, 0, none⟩), .agg #[.int .i64 6, .string nm, .string dt, .string da]] W fun e w' => e = .returned (.bool true) ∧ ∃ role' V', DkAt role' B K V' { D with sure := D.names, since := [], made := [] } w' ∧ DkStep K V V' W w' := by
  obtain ⟨i0, hi, hz0, hz1, hz2⟩ := info_parts Tryz.info_named
  obtain ⟨a, cap, hva, hcap, hat, hab⟩ := OwnN.form h.on.1
  have hK : K < W.heap.size := h.lt
  have c0 : W.cell? ⟨K, 0, none⟩ = some (.slice a D.names.length cap) := by rw [← hva]; simp [World.cell?, h.blk]
  have c0' : ∀ o, (W.alloc o).cell? ⟨K, 0, none⟩ = some (.slice a D.names.length cap) := fun o => (World.cell?_of_block (a := ⟨K, 0, none⟩) (Go.heap_alloc_old W o hK)).trans c0
  have c0z : ∀ (o : Obj) (z : Later (W.alloc o).heap.size (W.alloc o)), z.w.cell? ⟨K, 0, none⟩ = some (.slice a D.names.length cap) := fun o z => (z.h.cell (p := ⟨K, 0, none⟩) (by simp; omega)).trans (c0' o)
  have g : ∀ (o : Obj) (z : Later (W.alloc o).heap.size (W.alloc o)), Calls Tryz.prog 22 #[.slice a D.names.length cap, .string nm] z.w fun e w' => e = .returned (.int .i64 (Mb.findI D.names nm.data.toList)) ∧ Below z.w.heap.size z.w w' := fun o z => by
    refine find_any a cap D.names nm z.w ?_ (by unfold maxLen; omega)
    have hb : Below W.heap.size W z.w := ((Below.refl _ _).alloc (Nat.le_refl _) o).trans (z.h.mono (by simp))
    rcases hat with hat | ⟨b, off, h1, h2, h3⟩
    · exact Or.inl hat
    · exact Or.inr ⟨b, off, h1, Nat.lt_of_lt_of_le h2 hb.size, h3.below hb h2⟩
  have Hab := Lib.hid hab
  have Hat := Lib.hid hat
  have Hh := Lib.hid h
  clear h hat hab
  generalize Mb.findI D.names nm.data.toList = fi at *
  have hNE := fun o => Later.some (W.alloc o).heap.size (W.alloc o)
  have hLe := fun o => Nat.le_refl (W.alloc o).heap.size
  go_enter Tryz.func17, Tryz.ntmps17
  go_wp2_with fail
  have a1 : ∀ z : Later (W.alloc (.cells #[.int .i64 6, .string nm, .string dt, .string da] 70)).heap.size (W.alloc (.cells #[.int .i64 6, .string nm, .string dt, .string da] 70)), z.w.cell? ⟨W.heap.size, 1, none⟩ = some (.string nm) := fun z => (z.h.cell (p := ⟨W.heap.size, 1, none⟩) (by simp)).trans (by simp)
  replace c0z := c0z (.cells #[.int .i64 6, .string nm, .string dt, .string da] 70)
  replace g := g (.cells #[.int .i64 6, .string nm, .string dt, .string da] 70)
  replace hNE := hNE (.cells #[.int .i64 6, .string nm, .string dt, .string da] 70)
  have b0 : (W.alloc (.cells #[.int .i64 6, .string nm, .string dt, .string da] 70)).cell? ⟨W.heap.size, 0, none⟩ = some (.int .i64 6) := by simp
  have HW1 : Hid (Below W.heap.size W (W.alloc (.cells #[.int .i64 6, .string nm, .string dt, .string da] 70))) := (Below.refl _ _).alloc (Nat.le_refl _) _
  have hsz : W.heap.size < (W.alloc (.cells #[.int .i64 6, .string nm, .string dt, .string da] 70)).heap.size := by simp
  generalize (W.alloc (.cells #[.int .i64 6, .string nm, .string dt, .string da] 70)) = W1 at *
  refine wp_region_later W1.heap.size (by kernel_rfl) (by kernel_rfl) ?_
  repeat (go_big_quiet_step ((go_at_call 22; exact Later.calls _ (Nat.le_refl _) (g _))))
  refine wpQuiet_nil ?_
  intro _ hw'
  obtain ⟨z, rfl⟩ := hw'
  have hb2 := HW1.out.trans (z.h.mono (by omega))
  have z0 := (z.h.cell (p := ⟨W.heap.size, 0, none⟩) hsz).trans b0
  have hz2' := z.h.size
  generalize z.w = w2 at *
  clear g c0z a1 hNE c0 c0' hLe b0
  have h2 := Hh.out.kept (Chg.of_below role 0 hb2)
  have hs2 : W.heap.size < w2.heap.size := by omega
  have k0 : w2.cell? ⟨K, 0, none⟩ = some (.slice a D.names.length cap) := by rw [← hva]; simp [World.cell?, h2.blk]
  have k1 : w2.cell? ⟨K, 1, none⟩ = some V.s := by simp [World.cell?, h2.blk]
  have k3 : w2.cell? ⟨K, 3, none⟩ = some V.i := by simp [World.cell?, h2.blk]
  have k4 : w2.cell? ⟨K, 4, none⟩ = some V.m := by simp [World.cell?, h2.blk]
  have f1 : w2.frozen? ⟨K, 1, none⟩ = false := by simp [World.frozen?, h2.blk]
  have f3 : w2.frozen? ⟨K, 3, none⟩ = false := by simp [World.frozen?, h2.blk]
  have f4 : w2.frozen? ⟨K, 4, none⟩ = false := by simp [World.frozen?, h2.blk]
  have H2 := Lib.hid h2
  have HB2 := Lib.hid hb2
  have HV : Hid ((D.names.length = 0 ∧ Value.slice a D.names.length cap = .slice none 0 0) ∨ ∃ ad c, Value.slice a D.names.length cap = .slice (some ad) D.names.length c ∧ ∀ j u, (nmCells D.names)[j]? = some u → w2.cell? (ad.add j) = some u) := by
    unfold Hid
    rcases h2.on.1.2 with ⟨e1, e2⟩ | ⟨g, c, cur, e1, _⟩
    · left; exact ⟨e2, by rw [← hva]; exact e1⟩
    · right
      refine ⟨⟨g, 0, none⟩, c, by rw [← hva]; exact e1, ?_⟩
      have := h2.on.1.cells (g := g) (by rw [e1]; rfl)
      exact fun j u hu => this j u hu
  have H1c : Hid (∀ u ∈ nmCells D.names, u.oneCell' = true) := by
    unfold Hid
    intro u hu
    unfold nmCells at hu
    rw [List.mem_flatMap] at hu
    obtain ⟨x, _, hx⟩ := hu
    simp only [List.mem_cons, List.not_mem_nil, or_false] at hx
    rcases hx with rfl | rfl <;> rfl
  have hlen := nmCells_len D.names
  have HD : Hid (OwnR role 2 w2 B 52 2 V.n D.names.length (nmCells D.names)) := h2.on
  clear h2 hb2
  generalize hnn : D.names.length = n at *
  generalize hcc : nmCells D.names = cs at *
  have hn1 : n ≤ maxLen := by unfold maxLen; omega
  go_wp2_with (at_builtin; refine wpList_append_new rfl _ (.tmp 21) 43 rfl 52 i0 _ 2 24 Tryz.underlying43 hi hz0 hz1 hz2 rfl (by decide) rfl (.slice a n cap) rfl n cs hlen HV.out H1c.out hn1 (by omega) ?_)
  intro ua uc w3 hown3 hgrow3
  have hK2 : K < w2.heap.size := by omega
  have hb3 : Below w2.heap.size w2 w3 := ⟨hgrow3.os, hgrow3.tape, hgrow3.output, hgrow3.size, fun k hk => hgrow3.block k hk (by simp)⟩
  have m1 := (hb3.cell (p := ⟨K, 1, none⟩) hK2).trans k1
  have m3 := (hb3.cell (p := ⟨K, 3, none⟩) hK2).trans k3
  have m4 := (hb3.cell (p := ⟨K, 4, none⟩) hK2).trans k4
  have q1 := (hb3.frozen (p := ⟨K, 1, none⟩) hK2).trans f1
  have q3 := (hb3.frozen (p := ⟨K, 3, none⟩) hK2).trans f3
  have q4 := (hb3.frozen (p := ⟨K, 4, none⟩) hK2).trans f4
  have HB3 : Hid (Below W.heap.size W w3) := HB2.out.trans (hb3.mono (by omega))
  have hs3 := hb3.size
  have Hown3 := Lib.hid hown3
  clear hown3 hgrow3 k0 k1 k3 k4 f1 f3 f4 hb3
  go_wp2
  go_ret
  refine ⟨rfl, ext role W.heap.size 3, { V with s := .slice ua n uc, i := .slice none 0 0, m := .slice none 0 0 }, ?_, ?_⟩
  · have hx : OwnR (ext role W.heap.size 3) 3 w3 B 52 2 (.slice ua n uc) D.names.length (nmCells D.names) := by
      rw [hnn, hcc]
      exact ⟨owns_base Hown3.out (by omega), fun b hb => ext_new _ _ _ _ (by have := (Hown3.out.lt b hb).1; omega)⟩
    exact (((Hh.out.role (ext_old role W.heap.size 3)).setS (Chg.of_below _ 3 HB3.out) hx).setI (Chg.refl _ _ _) (ns := []) (OwnR.nil _ _ _ _ _ _)).setM (Chg.refl _ _ _) (ns := []) (OwnR.nil _ _ _ _ _ _)
  · refine ⟨(((Chg.of_below _ 1 HB3.out).setCell (footR_k V K _) _).setCell (footR_k V K _) _).setCell (footR_k V K _) _, ?_⟩
    rintro b (hb | hb | hb | hb | hb | hb)
    · exact Or.inl (Or.inl hb)
    · exact Or.inl (Or.inr (Or.inl hb))
    · right; have := (Hown3.out.lt b hb).1; omega
    · exact Or.inl (Or.inr (Or.inr (Or.inr (Or.inl hb))))
    · cases hb
    · cases hb

end Go.Proofs.YtamglanahpcedaaGreatDoor
namespace Go.Proofs.YtamglanahpcedaaGreatDoor
open Go.RowKit Go.Lib

/-- a disk in the middle of a call that began in W; Ob: the call's own copy of the act -/
structure Mid (B K : Nat) (W : World) (V0 : DkV) (Ob : Obj) (role : Nat → Nat) (V : DkV) (D : Mb.Dk) (w : World) : Prop where
  at_ : DkAt role B K V D w
  chg : Chg (footR V0 K W.heap.size) 1 W w
  foot : ∀ b, V.foot K b → V0.foot K b ∨ W.heap.size ≤ b
  arg : w.heap[W.heap.size]? = some Ob
  narg : ¬ V.foot K W.heap.size
  size : W.heap.size < w.heap.size
  base : B ≤ W.heap.size

section
variable {B K : Nat} {W : World} {V0 : DkV} {Ob : Obj} {role : Nat → Nat} {V : DkV} {D : Mb.Dk} {w w1 : World}

theorem Mid.start (h : DkAt role B K V D W) (hB : B ≤ W.heap.size) (hb : Below W.heap.size W w) (ho : w.heap[W.heap.size]? = some Ob) (hs : W.heap.size < w.heap.size) : Mid B K W V Ob role V D w := by
  refine ⟨h.kept (Chg.of_below role 0 hb), Chg.of_below _ 1 hb, fun _ h => Or.inl h, ho, ?_, hs, hB⟩
  rintro (e | e | e | e | e | e)
  · have := h.lt; omega
  · have := (h.on.1.lt _ e).2; omega
  · have := (h.os.1.lt _ e).2; omega
  · have := (h.od.1.lt _ e).2; omega
  · have := (h.oi.1.lt _ e).2; omega
  · have := (h.om.1.lt _ e).2; omega
theorem Mid.below (h : Mid B K W V0 Ob role V D w) (hb : Below w.heap.size w w1) : Mid B K W V0 Ob role V D w1 :=
  ⟨h.at_.kept (Chg.of_below role 0 hb), h.chg.trans ⟨hb.os, hb.tape, hb.output, hb.size, fun k hk _ => hb.block k hk⟩, h.foot, (hb.block _ h.size).trans h.arg, h.narg, Nat.lt_of_lt_of_le h.size hb.size, h.base⟩
theorem Mid.alloc (h : Mid B K W V0 Ob role V D w) (o : Obj) : Mid B K W V0 Ob role V D (w.alloc o) := h.below ((Below.refl _ _).alloc (Nat.le_refl _) o)
theorem Mid.drew (h : Mid B K W V0 Ob role V D w) : Mid B K W V0 Ob role V D w.drew := h.below (Below.refl _ _).drew
theorem Mid.ltK (h : Mid B K W V0 Ob role V D w) : K < w.heap.size := h.at_.lt
theorem Mid.kne (h : Mid B K W V0 Ob role V D w) : K ≠ W.heap.size := fun e => h.narg (Or.inl e.symm)
theorem Mid.done (h : Mid B K W V0 Ob role V D w) : DkStep K V0 V W w := ⟨h.chg, h.foot⟩

/-- a row of the disk grew -/
theorem Mid.grown (h : Mid B K W V0 Ob role V D w) {row : Option Nat} (hg : w.grownBy w1 row) (hrow : ∀ b, row = some b → V.foot K b) : Chg (footR V0 K W.heap.size) 1 W w1 ∧ w1.heap[W.heap.size]? = some Ob ∧ W.heap.size < w1.heap.size := by
  refine ⟨h.chg.trans (Chg.of_grown hg (fun b hb => ?_)), (hg.block _ h.size (fun e => h.narg (hrow _ e.symm))).trans h.arg, Nat.lt_of_lt_of_le h.size hg.size⟩
  rcases h.foot b (hrow b hb) with h1 | h1
  · exact footR_in _ _ _ _ h1
  · exact footR_new _ _ _ _ h1

theorem Mid.setD (h : Mid B K W V0 Ob role V D w) (hg : w.grownBy w1 V.d.ownBlock) {g n cap : Nat} {ns : List Mb.Nd} (hn : ns.length = n) (ho : w1.ownsRow B 50 2 (.slice (some ⟨g, 0, none⟩) n cap) n (ndCells ns)) (hl : V.d.ownBlock = some g ∨ g = w.heap.size) :
    Mid B K W V0 Ob (ext role w.heap.size 4) { V with d := .slice (some ⟨g, 0, none⟩) n cap } { D with nodes := ns } (w1.setCell ⟨K, 2, none⟩ (.slice (some ⟨g, 0, none⟩) n cap)) := by
  subst hn
  obtain ⟨c1, c2, c3⟩ := h.grown hg (fun b hb => Or.inr (Or.inr (Or.inr (Or.inl hb))))
  have hold : ∀ b, V.d.ownBlock = some b → ext role w.heap.size 4 b = 4 := fun b hb => by rw [ext_old _ _ _ _ (h.at_.od.lt b hb).2.1]; exact h.at_.od.2 b hb
  have hr : ext role w.heap.size 4 g = 4 := by
    rcases hl with hl | hl
    · exact hold g hl
    · exact ext_new _ _ _ _ (by omega)
  have hgf : V0.foot K g ∨ W.heap.size ≤ g := by
    rcases hl with hl | hl
    · exact h.foot g (Or.inr (Or.inr (Or.inr (Or.inl hl))))
    · right; have := h.size; omega
  have hgn : g ≠ W.heap.size := by
    rcases hl with hl | hl
    · exact fun e => h.narg (Or.inr (Or.inr (Or.inr (Or.inl (e ▸ hl)))))
    · have := h.size; omega
  refine ⟨(h.at_.role (ext_old role w.heap.size 4)).setD (Chg.of_grown hg hold) ⟨ho, fun b hb => by injection hb with hb; rw [← hb]; exact hr⟩, c1.setCell (footR_k V0 K _) _, ?_, (Below.heap_setCell _ _ _ _ (Ne.symm h.kne)).trans c2, ?_, by simpa using c3, h.base⟩
  · rintro b (e | e | e | e | e | e)
    · exact h.foot b (Or.inl e)
    · exact h.foot b (Or.inr (Or.inl e))
    · exact h.foot b (Or.inr (Or.inr (Or.inl e)))
    · injection e with e; rw [← e]; exact hgf
    · exact h.foot b (Or.inr (Or.inr (Or.inr (Or.inr (Or.inl e)))))
    · exact h.foot b (Or.inr (Or.inr (Or.inr (Or.inr (Or.inr e)))))
  · rintro (e | e | e | e | e | e)
    · exact h.narg (Or.inl e)
    · exact h.narg (Or.inr (Or.inl e))
    · exact h.narg (Or.inr (Or.inr (Or.inl e)))
    · injection e with e; exact hgn e
    · exact h.narg (Or.inr (Or.inr (Or.inr (Or.inr (Or.inl e)))))
    · exact h.narg (Or.inr (Or.inr (Or.inr (Or.inr (Or.inr e)))))
theorem Mid.setI (h : Mid B K W V0 Ob role V D w) (hg : w.grownBy w1 V.i.ownBlock) {g n cap : Nat} {ns : List Mb.Ac} (hn : ns.length = n) (ho : w1.ownsRow B 70 4 (.slice (some ⟨g, 0, none⟩) n cap) n (acCells ns)) (hl : V.i.ownBlock = some g ∨ g = w.heap.size) :
    Mid B K W V0 Ob (ext role w.heap.size 5) { V with i := .slice (some ⟨g, 0, none⟩) n cap } { D with since := ns } (w1.setCell ⟨K, 3, none⟩ (.slice (some ⟨g, 0, none⟩) n cap)) := by
  subst hn
  obtain ⟨c1, c2, c3⟩ := h.grown hg (fun b hb => Or.inr (Or.inr (Or.inr (Or.inr (Or.inl hb)))))
  have hold : ∀ b, V.i.ownBlock = some b → ext role w.heap.size 5 b = 5 := fun b hb => by rw [ext_old _ _ _ _ (h.at_.oi.lt b hb).2.1]; exact h.at_.oi.2 b hb
  have hr : ext role w.heap.size 5 g = 5 := by
    rcases hl with hl | hl
    · exact hold g hl
    · exact ext_new _ _ _ _ (by omega)
  have hgf : V0.foot K g ∨ W.heap.size ≤ g := by
    rcases hl with hl | hl
    · exact h.foot g (Or.inr (Or.inr (Or.inr (Or.inr (Or.inl hl)))))
    · right; have := h.size; omega
  have hgn : g ≠ W.heap.size := by
    rcases hl with hl | hl
    · exact fun e => h.narg (Or.inr (Or.inr (Or.inr (Or.inr (Or.inl (e ▸ hl))))))
    · have := h.size; omega
  refine ⟨(h.at_.role (ext_old role w.heap.size 5)).setI (Chg.of_grown hg hold) ⟨ho, fun b hb => by injection hb with hb; rw [← hb]; exact hr⟩, c1.setCell (footR_k V0 K _) _, ?_, (Below.heap_setCell _ _ _ _ (Ne.symm h.kne)).trans c2, ?_, by simpa using c3, h.base⟩
  · rintro b (e | e | e | e | e | e)
    · exact h.foot b (Or.inl e)
    · exact h.foot b (Or.inr (Or.inl e))
    · exact h.foot b (Or.inr (Or.inr (Or.inl e)))
    · exact h.foot b (Or.inr (Or.inr (Or.inr (Or.inl e))))
    · injection e with e; rw [← e]; exact hgf
    · exact h.foot b (Or.inr (Or.inr (Or.inr (Or.inr (Or.inr e)))))
  · rintro (e | e | e | e | e | e)
    · exact h.narg (Or.inl e)
    · exact h.narg (Or.inr (Or.inl e))
    · exact h.narg (Or.inr (Or.inr (Or.inl e)))
    · exact h.narg (Or.inr (Or.inr (Or.inr (Or.inl e))))
    · injection e with e; exact hgn e
    · exact h.narg (Or.inr (Or.inr (Or.inr (Or.inr (Or.inr e)))))
theorem Mid.setM (h : Mid B K W V0 Ob role V D w) (hg : w.grownBy w1 V.m.ownBlock) {g n cap : Nat} {ns : List Int} (hn : ns.length = n) (ho : w1.ownsRow B 3 1 (.slice (some ⟨g, 0, none⟩) n cap) n (inCells ns)) (hl : V.m.ownBlock = some g ∨ g = w.heap.size) :
    Mid B K W V0 Ob (ext role w.heap.size 6) { V with m := .slice (some ⟨g, 0, none⟩) n cap } { D with made := ns } (w1.setCell ⟨K, 4, none⟩ (.slice (some ⟨g, 0, none⟩) n cap)) := by
  subst hn
  obtain ⟨c1, c2, c3⟩ := h.grown hg (fun b hb => Or.inr (Or.inr (Or.inr (Or.inr (Or.inr hb)))))
  have hold : ∀ b, V.m.ownBlock = some b → ext role w.heap.size 6 b = 6 := fun b hb => by rw [ext_old _ _ _ _ (h.at_.om.lt b hb).2.1]; exact h.at_.om.2 b hb
  have hr : ext role w.heap.size 6 g = 6 := by
    rcases hl with hl | hl
    · exact hold g hl
    · exact ext_new _ _ _ _ (by omega)
  have hgf : V0.foot K g ∨ W.heap.size ≤ g := by
    rcases hl with hl | hl
    · exact h.foot g (Or.inr (Or.inr (Or.inr (Or.inr (Or.inr hl)))))
    · right; have := h.size; omega
  have hgn : g ≠ W.heap.size := by
    rcases hl with hl | hl
    · exact fun e => h.narg (Or.inr (Or.inr (Or.inr (Or.inr (Or.inr (e ▸ hl))))))
    · have := h.size; omega
  refine ⟨(h.at_.role (ext_old role w.heap.size 6)).setM (Chg.of_grown hg hold) ⟨ho, fun b hb => by injection hb with hb; rw [← hb]; exact hr⟩, c1.setCell (footR_k V0 K _) _, ?_, (Below.heap_setCell _ _ _ _ (Ne.symm h.kne)).trans c2, ?_, by simpa using c3, h.base⟩
  · rintro b (e | e | e | e | e | e)
    · exact h.foot b (Or.inl e)
    · exact h.foot b (Or.inr (Or.inl e))
    · exact h.foot b (Or.inr (Or.inr (Or.inl e)))
    · exact h.foot b (Or.inr (Or.inr (Or.inr (Or.inl e))))
    · exact h.foot b (Or.inr (Or.inr (Or.inr (Or.inr (Or.inl e)))))
    · injection e with e; rw [← e]; exact hgf
  · rintro (e | e | e | e | e | e)
    · exact h.narg (Or.inl e)
    · exact h.narg (Or.inr (Or.inl e))
    · exact h.narg (Or.inr (Or.inr (Or.inl e)))
    · exact h.narg (Or.inr (Or.inr (Or.inr (Or.inl e))))
    · exact h.narg (Or.inr (Or.inr (Or.inr (Or.inr (Or.inl e)))))
    · injection e with e; exact hgn e
/-- the names are new ones, in new memory -/
theorem Mid.setN (h : Mid B K W V0 Ob role V D w) (hb : Below w.heap.size w w1) {x : Value} {ns : List Mb.Nm} (ho : OwnN w1 w.heap.size x ns) :
    Mid B K W V0 Ob (ext role w.heap.size 2) { V with n := x } { D with names := ns } (w1.setCell ⟨K, 0, none⟩ x) := by
  have h1 := h.below hb
  have hge : ∀ b, x.ownBlock = some b → w.heap.size ≤ b := fun b hb => (ho.lt b hb).1
  have hs := h.size
  refine ⟨(h.at_.role (ext_old role w.heap.size 2)).setN (Chg.of_below _ 2 hb) ⟨owns_base ho (by have := h.base; omega), fun b hb => ext_new _ _ _ _ (hge b hb)⟩, h1.chg.setCell (footR_k V0 K _) _, ?_, (Below.heap_setCell _ _ _ _ (Ne.symm h.kne)).trans h1.arg, ?_, by simpa using h1.size, h.base⟩
  · rintro b (e | e | e | e | e | e)
    · exact h.foot b (Or.inl e)
    · right; have := hge b e; omega
    · exact h.foot b (Or.inr (Or.inr (Or.inl e)))
    · exact h.foot b (Or.inr (Or.inr (Or.inr (Or.inl e))))
    · exact h.foot b (Or.inr (Or.inr (Or.inr (Or.inr (Or.inl e)))))
    · exact h.foot b (Or.inr (Or.inr (Or.inr (Or.inr (Or.inr e)))))
  · rintro (e | e | e | e | e | e)
    · exact h.narg (Or.inl e)
    · have := hge _ e; omega
    · exact h.narg (Or.inr (Or.inr (Or.inl e)))
    · exact h.narg (Or.inr (Or.inr (Or.inr (Or.inl e))))
    · exact h.narg (Or.inr (Or.inr (Or.inr (Or.inr (Or.inl e)))))
    · exact h.narg (Or.inr (Or.inr (Or.inr (Or.inr (Or.inr e)))))
theorem Mid.cellsK (h : Mid B K W V0 Ob role V D w) : w.cell? ⟨K, 0, none⟩ = some V.n ∧ w.cell? ⟨K, 1, none⟩ = some V.s ∧ w.cell? ⟨K, 2, none⟩ = some V.d ∧ w.cell? ⟨K, 3, none⟩ = some V.i ∧ w.cell? ⟨K, 4, none⟩ = some V.m ∧ ∀ o, w.frozen? ⟨K, o, none⟩ = false := by
  refine ⟨by simp [World.cell?, h.at_.blk], by simp [World.cell?, h.at_.blk], by simp [World.cell?, h.at_.blk], by simp [World.cell?, h.at_.blk], by simp [World.cell?, h.at_.blk], fun o => by simp [World.frozen?, h.at_.blk]⟩
end
theorem acCells_snoc (xs : List Mb.Ac) (x : Mb.Ac) : acCells (xs ++ [x]) = acCells xs ++ [.int .i64 x.kind, .string ⟨x.name.toArray⟩, .string ⟨x.dst.toArray⟩, .string ⟨x.data.toArray⟩] := by
  simp [acCells]
theorem ndCells_snoc (xs : List Mb.Nd) (x : Mb.Nd) : ndCells (xs ++ [x]) = ndCells xs ++ [.string ⟨x.data.toArray⟩, .int .i64 x.safe] := by
  simp [ndCells]
theorem inCells_snoc (xs : List Int) (x : Int) : inCells (xs ++ [x]) = inCells xs ++ [.int .i64 x] := by
  simp [inCells]

end Go.Proofs.YtamglanahpcedaaGreatDoor
namespace Go.Proofs.YtamglanahpcedaaGreatDoor
open Go.RowKit Go.Lib

theorem act_load {P : Nat} {k : Int} {nm dt da : ByteArray} {w : World} {fr : Nat × Nat} (h : w.heap[P]? = some (.cells #[.int .i64 k, .string nm, .string dt, .string da] 70 fr)) :
    (Instr.loadAt 70 (.pointer (some ⟨P, 0, none⟩))).run Tryz.prog w = .ok (.agg #[.int .i64 k, .string nm, .string dt, .string da]) w := by
  have c0 : w.cell? ⟨P, 0, none⟩ = some (.int .i64 k) := by simp [World.cell?, h]
  have c1 : w.cell? ⟨P, 1, none⟩ = some (.string nm) := by simp [World.cell?, h]
  have c2 : w.cell? ⟨P, 2, none⟩ = some (.string dt) := by simp [World.cell?, h]
  have c3 : w.cell? ⟨P, 3, none⟩ = some (.string da) := by simp [World.cell?, h]
  go_simp
theorem act_build {k : Int} {nm dt da : ByteArray} {w : World} :
    (Instr.buildSlice 31 1 #[(0, .agg #[.int .i64 k, .string nm, .string dt, .string da])]).run Tryz.prog w = .ok (.slice (some ⟨w.heap.size, 0, none⟩) 1 1) (w.alloc (.cells #[.int .i64 k, .string nm, .string dt, .string da] 70)) := by
  go_simp
theorem elem_act : ElemOf Tryz.prog 31 70 4 56 := by
  obtain ⟨i, h1, h2, h3, h4⟩ := info_parts Tryz.info_act
  exact ⟨i, _, Tryz.underlying31, h1, h2, h3, h4, rfl⟩

theorem addr_zero (g j : Nat) : (⟨g, 0, none⟩ : Addr).add j = ⟨g, j, none⟩ := by unfold Addr.add; split <;> simp_all
theorem own_cell {w : World} {B : Nat} {t : TypeId} {size g n cap : Nat} {xs : List Value} (h : w.ownsRow B t size (.slice (some ⟨g, 0, none⟩) n cap) n xs) {j : Nat} {u : Value} (hj : xs[j]? = some u) : w.cell? ⟨g, j, none⟩ = some u := by
  have := h.cells (g := g) rfl j u hj
  rwa [addr_zero] at this
theorem own_frozen {w : World} {B : Nat} {t : TypeId} {size g n cap : Nat} {xs : List Value} (h : w.ownsRow B t size (.slice (some ⟨g, 0, none⟩) n cap) n xs) (j : Nat) : w.frozen? ⟨g, j, none⟩ = false := by
  rcases h.2 with ⟨h1, _⟩ | ⟨g', c, cur, h1, _, h3, _⟩
  · cases h1
  · injection h1 with h1; injection h1 with h1; injection h1 with h1; subst h1; simp [World.frozen?, h3]
/-- a cell of an owned row, written -/
theorem own_set {w : World} {B : Nat} {t : TypeId} {size g n cap : Nat} {xs : List Value} (h : w.ownsRow B t size (.slice (some ⟨g, 0, none⟩) n cap) n xs) (j : Nat) (u : Value) :
    (w.setCell ⟨g, j, none⟩ u).ownsRow B t size (.slice (some ⟨g, 0, none⟩) n cap) n (xs.set j u) := by
  refine ⟨by simpa using h.1, ?_⟩
  rcases h.2 with ⟨h1, _⟩ | ⟨g', cap', cur, h1, h2, h3, h4, h5, h6, h7⟩
  · cases h1
  · injection h1 with e1 e2 e3
    injection e1 with e1
    injection e1 with e1
    subst e1 e3
    refine Or.inr ⟨g, cap, cur.setIfInBounds j u, rfl, h2, Lib.heap_setCell_same h3 u, h4, h5, by simpa using h6, ?_⟩
    rw [← h7, Array.toList_setIfInBounds, List.take_set]
theorem ndCells_len (xs : List Mb.Nd) : (ndCells xs).length = xs.length * 2 := by
  induction xs with
  | nil => rfl
  | cons x r ih => simp only [ndCells, List.flatMap_cons, List.length_append, List.length_cons, List.length_nil] at ih ⊢; omega
theorem ndCells_data : ∀ (xs : List Mb.Nd) (k : Nat) (x : Mb.Nd) (d : List UInt8), xs[k]? = some x → ndCells (xs.set k ⟨d, x.safe⟩) = (ndCells xs).set (k * 2) (.string ⟨d.toArray⟩)
  | [], k, x, d, h => by simp at h
  | y :: r, 0, x, d, h => by simp at h; subst h; simp [ndCells]
  | y :: r, k + 1, x, d, h => by
    have := ndCells_data r k x d (by simpa using h)
    simp only [ndCells] at this
    simp [ndCells, this, Nat.add_mul]
theorem ndCells_safe : ∀ (xs : List Mb.Nd) (k : Nat) (x : Mb.Nd) (s : Int), xs[k]? = some x → ndCells (xs.set k ⟨x.data, s⟩) = (ndCells xs).set (k * 2 + 1) (.int .i64 s)
  | [], k, x, d, h => by simp at h
  | y :: r, 0, x, d, h => by simp at h; subst h; simp [ndCells]
  | y :: r, k + 1, x, d, h => by
    have := ndCells_safe r k x d (by simpa using h)
    simp only [ndCells] at this
    simp [ndCells, this, Nat.add_mul]
theorem ndCells_get : ∀ (xs : List Mb.Nd) (k : Nat) (x : Mb.Nd), xs[k]? = some x → (ndCells xs)[k * 2]? = some (.string ⟨x.data.toArray⟩) ∧ (ndCells xs)[k * 2 + 1]? = some (.int .i64 x.safe)
  | [], k, x, h => by simp at h
  | y :: r, 0, x, h => by simp at h; subst h; simp [ndCells]
  | y :: r, k + 1, x, h => by
    have := ndCells_get r k x (by simpa using h)
    simp only [ndCells] at this
    simp [ndCells, this, Nat.add_mul]
theorem node_index {g n cap k : Nat} {w : World} (hk : k < n) : (Instr.indexAt 44 (.slice (some ⟨g, 0, none⟩) n cap) (.int .i64 (k : Int))).run Tryz.prog w = .ok (.pointer (some ⟨g, k * 2, none⟩)) w := by
  have h1 : ¬ (k : Int) < 0 := by omega
  have h2 : ((k : Int)).toNat = k := by omega
  go_simp
theorem named_index {g off n cap k : Nat} {w : World} (hk : k < n) : (Instr.indexAt 43 (.slice (some ⟨g, off, none⟩) n cap) (.int .i64 (k : Int))).run Tryz.prog w = .ok (.pointer (some ⟨g, off + k * 2, none⟩)) w := by
  have h1 : ¬ (k : Int) < 0 := by omega
  have h2 : ((k : Int)).toNat = k := by omega
  go_simp
theorem bytes_cat (l : List UInt8) (b : ByteArray) : (⟨l.toArray⟩ : ByteArray) ++ b = ⟨(l ++ b.data.toList).toArray⟩ := by
  apply ByteArray.ext
  simp

theorem cat_bin {P : Program} {l : List UInt8} {b : ByteArray} {x y : Operand} {w : World} (h : l.length + b.data.toList.length ≤ 9223372036854775807) :
    (do eqGuard .add 9 x y (.string ⟨l.toArray⟩) (.string b); binOp .add 9 (.string ⟨l.toArray⟩) (.string b) : Sem Value).run P w = .ok (.string ⟨(l ++ b.data.toList).toArray⟩) w := by
  have h1 := run_string_add_sum (P := P) (w := w) (⟨l.toArray⟩ : ByteArray) b (by rw [Lib.size_eq, Lib.size_eq]; exact h)
  rw [bytes_cat] at h1
  simp [go_sem, eqGuard, binOp, h1]
theorem Mid.put {B K : Nat} {W : World} {V0 : DkV} {Ob : Obj} {role : Nat → Nat} {V : DkV} {D : Mb.Dk} {w : World} (h : Mid B K W V0 Ob role V D w) {g cap : Nat} (hv : V.d = .slice (some ⟨g, 0, none⟩) D.nodes.length cap) {j : Nat} {u : Value} {ns : List Mb.Nd} (hn : ns.length = D.nodes.length) (hc : ndCells ns = (ndCells D.nodes).set j u) :
    Mid B K W V0 Ob role V { D with nodes := ns } (w.setCell ⟨g, j, none⟩ u) := by
  have hg : V.d.ownBlock = some g := by rw [hv]; rfl
  have hr : role g = 4 := h.at_.od.2 g hg
  have hC : Chg role 4 w (w.setCell ⟨g, j, none⟩ u) := (Chg.refl role 4 w).setCell hr u
  have hgP : g ≠ W.heap.size := fun e => h.narg (Or.inr (Or.inr (Or.inr (Or.inl (e ▸ hg)))))
  refine ⟨⟨h.at_.low, (hC.block K h.ltK (by rw [h.at_.rk]; decide)).trans h.at_.blk, h.at_.rk, h.at_.on.kept hC (by decide), h.at_.os.kept hC (by decide), ⟨?_, fun b hb => h.at_.od.2 b hb⟩, h.at_.oi.kept hC (by decide), h.at_.om.kept hC (by decide)⟩, ?_, h.foot, (Below.heap_setCell _ _ _ _ (Ne.symm hgP)).trans h.arg, h.narg, by simpa using h.size, h.base⟩
  · have := h.at_.od.1
    rw [hv] at this ⊢
    simp only [hn, hc]
    exact own_set this j u
  · refine h.chg.setCell ?_ _
    rcases h.foot g (Or.inr (Or.inr (Or.inr (Or.inl hg)))) with h1 | h1
    · exact footR_in _ _ _ _ h1
    · exact footR_new _ _ _ _ h1
end Go.Proofs.YtamglanahpcedaaGreatDoor
