/-
  OWN TEXT: the names of a disk: which of them is one; all but one; with one more.
  OWN TEXT: mailbagref.find, without, with: the names of a disk.
-/
import Derived.Test.YtamglanahpcedaaGreatDoorListMath
import Derived.Test.YtamglanahpcedaaGreatDoorListHI
namespace Go.Proofs.YtamglanahpcedaaGreatDoor

/-- a name, and the number of its bytes -/
structure Mb.Nm where
  name : List UInt8
  node : Int

def Mb.findN (l : List Mb.Nm) (s : List UInt8) : Option Nat := l.findIdx? (fun x => x.name == s)
def Mb.withoutN (l : List Mb.Nm) (s : List UInt8) : List Mb.Nm := l.filter (fun x => x.name != s)
def Mb.withN (l : List Mb.Nm) (s : List UInt8) (n : Int) : List Mb.Nm := Mb.withoutN l s ++ [⟨s, n⟩]

/-- what find answers -/
def Mb.findI (l : List Mb.Nm) (s : List UInt8) : Int := match Mb.findN l s with
  | some k => k
  | none => -1

theorem Mb.findI_at {l : List Mb.Nm} {s : List UInt8} {k : Nat} {x : Mb.Nm} (hx : l[k]? = some x) (hs : x.name = s) (hno : ∀ y ∈ l.take k, y.name ≠ s) : Mb.findI l s = k := by
  have : Mb.findN l s = some k := by
    unfold Mb.findN
    obtain ⟨hk, hxe⟩ := List.getElem?_eq_some_iff.mp hx
    rw [List.findIdx?_eq_some_iff_getElem]
    refine ⟨hk, by rw [hxe, hs]; exact beq_self_eq_true s, ?_⟩
    intro j hj
    have hm : l[j] ∈ l.take k := by
      rw [List.mem_take_iff_getElem]
      exact ⟨j, by omega, rfl⟩
    have := hno _ hm
    simpa using this
  unfold Mb.findI
  rw [this]
theorem Mb.findI_none {l : List Mb.Nm} {s : List UInt8} (hno : ∀ y ∈ l, y.name ≠ s) : Mb.findI l s = -1 := by
  have : Mb.findN l s = none := by
    unfold Mb.findN
    rw [List.findIdx?_eq_none_iff]
    intro x hx
    have := hno x hx
    simpa using this
  unfold Mb.findI
  rw [this]
theorem Mb.withoutN_snoc (l : List Mb.Nm) (s : List UInt8) (x : Mb.Nm) : Mb.withoutN (l ++ [x]) s = if x.name = s then Mb.withoutN l s else Mb.withoutN l s ++ [x] := by
  unfold Mb.withoutN
  rw [List.filter_append]
  by_cases h : x.name = s
  · rw [if_pos h]; simp [h]
  · rw [if_neg h]; simp [h]
theorem Mb.withoutN_len (l : List Mb.Nm) (s : List UInt8) : (Mb.withoutN l s).length ≤ l.length := List.length_filter_le _ _

end Go.Proofs.YtamglanahpcedaaGreatDoor
namespace Go.Proofs.YtamglanahpcedaaGreatDoor
open Go.RowKit

/-- the cells of some names -/
def nmCells (xs : List Mb.Nm) : List Value := xs.flatMap fun x => [.string ⟨x.name.toArray⟩, .int .i64 x.node]

theorem nmCells_len (xs : List Mb.Nm) : (nmCells xs).length = xs.length * 2 := by
  induction xs with
  | nil => rfl
  | cons x r ih => simp only [nmCells, List.flatMap_cons, List.length_append, List.length_cons, List.length_nil] at ih ⊢; omega
theorem nmCells_snoc (xs : List Mb.Nm) (x : Mb.Nm) : nmCells (xs ++ [x]) = nmCells xs ++ [.string ⟨x.name.toArray⟩, .int .i64 x.node] := by
  simp [nmCells]
theorem nmCells_get : ∀ (xs : List Mb.Nm) (i : Nat) (x : Mb.Nm), xs[i]? = some x → (nmCells xs)[i * 2]? = some (.string ⟨x.name.toArray⟩) ∧ (nmCells xs)[i * 2 + 1]? = some (.int .i64 x.node)
  | [], i, x, h => by simp at h
  | y :: r, 0, x, h => by simp at h; subst h; simp [nmCells]
  | y :: r, i + 1, x, h => by
    have ih := nmCells_get r i x (by simpa using h)
    have e : ∀ j, (nmCells (y :: r))[2 + j]? = (nmCells r)[j]? := fun j => by
      simp only [nmCells, List.flatMap_cons]
      rw [List.getElem?_append_right (by simp)]
      simp
    rw [show (i + 1) * 2 = 2 + i * 2 by omega, show 2 + i * 2 + 1 = 2 + (i * 2 + 1) by omega, e, e]
    exact ih

/-- the names xs lie in memory from off on in block b -/
def NmsAt (w : World) (b off : Nat) (xs : List Mb.Nm) : Prop :=
  ∀ (i : Nat) (x : Mb.Nm), xs[i]? = some x → w.cell? ⟨b, off + i * 2, none⟩ = some (.string ⟨x.name.toArray⟩) ∧ w.cell? ⟨b, off + i * 2 + 1, none⟩ = some (.int .i64 x.node)
theorem NmsAt.below {w w' : World} {B b off : Nat} {xs : List Mb.Nm} (h : NmsAt w b off xs) (hb : Below B w w') (hB : b < B) : NmsAt w' b off xs := by
  intro i x hx
  obtain ⟨c0, c1⟩ := h i x hx
  exact ⟨(hb.cell (p := ⟨b, off + i * 2, none⟩) hB).trans c0, (hb.cell (p := ⟨b, off + i * 2 + 1, none⟩) hB).trans c1⟩
/-- names by their slice's address -/
def NmAt (w : World) (a : Option Addr) (xs : List Mb.Nm) : Prop := (xs = []) ∨ ∃ b off, a = some ⟨b, off, none⟩ ∧ b < w.heap.size ∧ NmsAt w b off xs

theorem Tryz.info_named : (Tryz.prog.info? 52).map (fun i => (i.zero, i.size, i.bytes)) = some (some (.agg #[.string ByteArray.empty, .int .i64 0]), 2, 24) := by kernel_rfl

theorem beq_bytes {l m : List UInt8} : ((⟨l.toArray⟩ : ByteArray).toList == (⟨m.toArray⟩ : ByteArray).toList) = (l == m) := by
  rw [ByteArray.toList_eq, ByteArray.toList_eq]

set_option maxRecDepth 100000 in
set_option maxHeartbeats 1000000 in
theorem find_some (b off cap : Nat) (xs : List Mb.Nm) (s : ByteArray) (w : World) (hb : b < w.heap.size) (hc : NmsAt w b off xs) (hl : xs.length ≤ maxLen) :
    Calls Tryz.prog 22 #[.slice (some ⟨b, off, none⟩) xs.length cap, .string s] w fun e w' => e = .returned (.int .i64 (Mb.findI xs s.data.toList)) ∧ Below w.heap.size w w' := by
  unfold maxLen at hl
  go_enter Tryz.func22, Tryz.ntmps22
  go_wp2_with fail
  go_loopw [5] (fun i wr => ∃ (k : Nat), k ≤ xs.length ∧ i = .int .i64 k ∧ Hid (∀ y ∈ xs.take k, y.name ≠ s.data.toList) ∧ Below w.heap.size w wr) (fun i _ => xs.length - (intOf i).toNat)
  case atStart => exact ⟨0, Nat.zero_le _, rfl, by intro y hy; simp at hy, Below.refl _ _⟩
  case round =>
    obtain ⟨k, hk, rfl, hno, hbl⟩ := hrel
    have hsz := hbl.size
    by_cases hlt : k < xs.length
    · obtain ⟨c0, c1⟩ := hc k xs[k] (by simp [hlt])
      have d0 : wr.cell? ⟨b, off + k * 2, none⟩ = some (.string ⟨xs[k].name.toArray⟩) := (hbl.cell (p := ⟨b, off + k * 2, none⟩) hb).trans c0
      have d1 : wr.cell? ⟨b, off + k * 2 + 1, none⟩ = some (.int .i64 xs[k].node) := (hbl.cell (p := ⟨b, off + k * 2 + 1, none⟩) hb).trans c1
      obtain ⟨bn, Hbn, Hbn'⟩ := named_bytes xs[k].name
      rw [← Hbn.out] at d0
      have hg : Hid (xs[k]? = some xs[k]) := by unfold Hid; simp [hlt]
      have HT : Hid (xs.take (k + 1) = xs.take k ++ [xs[k]]) := List.take_succ_eq_append_getElem hlt
      clear c0 c1
      by_cases he : (bn.toList == s.toList) = true
      · have HE : Hid (xs[k].name = s.data.toList) := by
          unfold Hid; rw [← Hbn'.out]; rw [ByteArray.toList_eq, ByteArray.toList_eq] at he; simpa using he
        go_wp2
        go_ret
        exact ⟨ret_int (Mb.findI_at hg.out HE.out hno.out).symm, hbl⟩
      · have he : (bn.toList == s.toList) = false := by simpa using he
        have HE : Hid (xs[k].name ≠ s.data.toList) := by
          unfold Hid; rw [← Hbn'.out]; rw [ByteArray.toList_eq, ByteArray.toList_eq] at he; simpa using he
        go_wp2
        go_roundw
        case rel =>
          refine ⟨k + 1, by omega, by go_num, ?_, hbl⟩
          unfold Hid
          intro y hy
          rw [HT.out, List.mem_append] at hy
          rcases hy with hy | hy
          · exact hno.out y hy
          · simp only [List.mem_singleton] at hy; rw [hy]; exact HE.out
        case measure => simp [intOf]; omega
    · go_wp2
      go_ret
      have hke : k = xs.length := by omega
      have := hno.out
      rw [hke, List.take_length] at this
      exact ⟨ret_int (Mb.findI_none this).symm, hbl⟩


theorem find_empty (a : Option Addr) (cap : Nat) (s : ByteArray) (w : World) :
    Calls Tryz.prog 22 #[.slice a 0 cap, .string s] w fun e w' => e = .returned (.int .i64 (-1)) ∧ Below w.heap.size w w' := by
  go_enter Tryz.func22, Tryz.ntmps22
  go_wp2_with fail
  go_loop [5] (fun i => i = .int .i64 0) (fun _ => 0)
  case atStart => rfl
  case round =>
    subst hrel
    go_wp2
    go_ret
    exact ⟨rfl, Below.refl _ _⟩

theorem find_any (a : Option Addr) (cap : Nat) (xs : List Mb.Nm) (s : ByteArray) (w : World) (h : NmAt w a xs) (hl : xs.length ≤ maxLen) :
    Calls Tryz.prog 22 #[.slice a xs.length cap, .string s] w fun e w' => e = .returned (.int .i64 (Mb.findI xs s.data.toList)) ∧ Below w.heap.size w w' := by
  rcases h with rfl | ⟨b, off, rfl, hb, hc⟩
  · exact find_empty a cap s w
  · exact find_some b off cap xs s w hb hc hl

/-- names in memory of their own -/
def OwnN (w : World) (B : Nat) (v : Value) (xs : List Mb.Nm) : Prop := w.ownsRow B 52 2 v xs.length (nmCells xs)
theorem OwnN.below {w w' : World} {B : Nat} {v : Value} {xs : List Mb.Nm} (h : OwnN w B v xs) (hb : Below w.heap.size w w') : OwnN w' B v xs := owns_below h hb
theorem OwnN.base {w : World} {B B' : Nat} {v : Value} {xs : List Mb.Nm} (h : OwnN w B v xs) (hB : B' ≤ B) : OwnN w B' v xs := owns_base h hB
theorem OwnN.form {w : World} {B : Nat} {v : Value} {xs : List Mb.Nm} (h : OwnN w B v xs) : ∃ a cap, v = .slice a xs.length cap ∧ xs.length ≤ cap ∧ NmAt w a xs ∧ ∀ b off, a = some ⟨b, off, none⟩ → B ≤ b ∧ off = 0 := by
  rcases h.2 with ⟨h1, h2⟩ | ⟨g, c, cur, h1, h2, h3, h4, _⟩
  · have hx : xs = [] := List.eq_nil_of_length_eq_zero (by omega)
    subst hx
    exact ⟨none, 0, h1, Nat.le_refl _, Or.inl rfl, fun b off hb => by cases hb⟩
  · subst h1
    have hcells := h.cells (g := g) rfl
    refine ⟨some ⟨g, 0, none⟩, c, rfl, by omega, Or.inr ⟨g, 0, rfl, (h.lt g rfl).2, ?_⟩, fun b off hb => by injection hb with hb; injection hb with hb hb2; exact ⟨by omega, hb2.symm⟩⟩
    intro i x hx
    obtain ⟨c0, c1⟩ := nmCells_get xs i x hx
    have e : ∀ j, (⟨g, 0, none⟩ : Addr).add j = ⟨g, 0 + j, none⟩ := fun j => Lib.add_plain ..
    have d0 := hcells _ _ c0
    have d1 := hcells _ _ c1
    rw [e] at d0 d1
    exact ⟨d0, by rw [Nat.add_assoc]; exact d1⟩

theorem new_cells2 (w : World) (v0 v1 : Value) (t : TypeId) (j : Nat) (u : Value) (hj : [v0, v1][j]? = some u) : (w.alloc (.cells #[v0, v1] t)).cell? ((⟨w.heap.size, 0, none⟩ : Addr).add j) = some u := by
  have e : (⟨w.heap.size, 0, none⟩ : Addr).add j = ⟨w.heap.size, j, none⟩ := by rw [Lib.add_plain]; simp
  rw [e, World.cell?_alloc_new]
  match j, hj with
  | 0, hj => simpa using hj
  | 1, hj => simpa using hj
  | n + 2, hj => simp at hj

set_option maxRecDepth 100000 in
set_option maxHeartbeats 1000000 in
theorem without_some (b off cap : Nat) (xs : List Mb.Nm) (s : ByteArray) (w : World) (hb : b < w.heap.size) (hc : NmsAt w b off xs) (hl : xs.length ≤ 1099511627776) :
    Calls Tryz.prog 24 #[.slice (some ⟨b, off, none⟩) xs.length cap, .string s] w fun e w' => (∃ v, e = .returned v ∧ OwnN w' w.heap.size v (Mb.withoutN xs s.data.toList)) ∧ Below w.heap.size w w' := by
  obtain ⟨i0, hi, hz0, hz1, hz2⟩ := info_parts Tryz.info_named
  go_enter Tryz.func24, Tryz.ntmps24
  go_wp2_with fail
  go_loopw [5, 6] (fun vo vi wr => ∃ (k n : Nat) (ys : List Mb.Nm), k ≤ xs.length ∧ n ≤ k ∧ vi = .int .i64 k ∧ Hid (ys.length = n ∧ Mb.withoutN (xs.take k) s.data.toList = ys) ∧ Hid (wr.ownsRow w.heap.size 52 2 vo n (nmCells ys)) ∧ Below w.heap.size w wr) (fun _ vi _ => xs.length - (intOf vi).toNat)
  case atStart => exact ⟨0, 0, [], Nat.zero_le _, Nat.zero_le _, rfl, ⟨rfl, rfl⟩, World.ownsRow_nil _ _ _ _, Below.refl _ _⟩
  case round =>
    obtain ⟨k, n, ys, hk, hn, rfl, HY, Hown, hbl⟩ := hrel
    have hsz := hbl.size
    by_cases hlt : k < xs.length
    · obtain ⟨c0, c1⟩ := hc k xs[k] (by simp [hlt])
      have d0 : wr.cell? ⟨b, off + k * 2, none⟩ = some (.string ⟨xs[k].name.toArray⟩) := (hbl.cell (p := ⟨b, off + k * 2, none⟩) hb).trans c0
      have d1 : wr.cell? ⟨b, off + k * 2 + 1, none⟩ = some (.int .i64 xs[k].node) := (hbl.cell (p := ⟨b, off + k * 2 + 1, none⟩) hb).trans c1
      have HT : Hid (xs.take (k + 1) = xs.take k ++ [xs[k]]) := List.take_succ_eq_append_getElem hlt
      generalize xs[k] = x at *
      obtain ⟨xn, xd⟩ := x
      obtain ⟨bn, Hbn, Hbn'⟩ := named_bytes xn
      simp only at d0 d1
      rw [← Hbn.out] at d0
      clear c0 c1
      by_cases he : (bn.toList == s.toList) = true
      · have HE : Hid (xn = s.data.toList) := by
          unfold Hid; rw [← Hbn'.out]; rw [ByteArray.toList_eq, ByteArray.toList_eq] at he; simpa using he
        go_wp2
        go_roundw
        case rel =>
          refine ⟨k + 1, n, ys, by omega, by omega, by go_num, ?_, Hown, hbl⟩
          unfold Hid
          rw [HT.out, Mb.withoutN_snoc, if_pos HE.out]
          exact HY.out
        case measure => simp [intOf]; omega
      · have he : (bn.toList == s.toList) = false := by simpa using he
        have HE : Hid (xn ≠ s.data.toList) := by
          unfold Hid; rw [← Hbn'.out]; rw [ByteArray.toList_eq, ByteArray.toList_eq] at he; simpa using he
        go_wp2_with (at_builtin; refine wpList_append_own _ rfl (.tmp 20) (.tmp 25) 43 rfl w.heap.size 52 i0 (.agg #[.string ByteArray.empty, .int .i64 0]) 2 24 Tryz.underlying43 hi hz0 hz1 hz2 rfl (by decide) _ n (nmCells ys) rfl (Hown.out.alloc _) ⟨wr.heap.size, 0, none⟩ 1 1 [.string bn, .int .i64 xd] rfl rfl ?c1 ?c2 ?c3 ?c4 ?c5 ?_)
        case c1 => exact fun j u hj => new_cells2 wr _ _ _ j u hj
        case c2 => intro u hu; simp only [List.mem_cons, List.not_mem_nil, or_false] at hu; rcases hu with rfl | rfl <;> rfl
        case c3 => unfold maxLen; omega
        case c4 => omega
        case c5 => simp; omega
        intro v' w5 hown5 hgrow5 hnil5
        have HB5 : Hid (Below w.heap.size w w5) := (hbl.alloc (by omega) _).grown hgrow5 (by simp; omega) (owns_row_ge Hown.out)
        have HY5 : Hid ((ys ++ [(⟨xn, xd⟩ : Mb.Nm)]).length = n + 1 ∧ Mb.withoutN (xs.take (k + 1)) s.data.toList = ys ++ [⟨xn, xd⟩]) := by
          unfold Hid
          rw [HT.out, Mb.withoutN_snoc, if_neg HE.out, HY.out.2]
          exact ⟨by simp [HY.out.1], rfl⟩
        rw [Hbn.out, ← nmCells_snoc ys ⟨xn, xd⟩] at hown5
        have Hown5 := Lib.hid hown5
        clear hown5 hgrow5 hnil5
        go_wp2
        go_roundw
        case rel => exact ⟨k + 1, n + 1, ys ++ [⟨xn, xd⟩], by omega, by omega, by go_num, HY5, Hown5, HB5.out⟩
        case measure => simp [intOf]; omega
    · have hke : k = xs.length := by omega
      subst hke
      go_wp2
      go_ret
      have h := HY.out
      rw [List.take_length] at h
      refine ⟨⟨_, rfl, ?_⟩, hbl⟩
      rw [h.2]
      unfold OwnN
      rw [h.1]
      exact Hown.out

theorem without_empty (a : Option Addr) (cap : Nat) (s : ByteArray) (w : World) :
    Calls Tryz.prog 24 #[.slice a 0 cap, .string s] w fun e w' => (∃ v, e = .returned v ∧ OwnN w' w.heap.size v []) ∧ Below w.heap.size w w' := by
  go_enter Tryz.func24, Tryz.ntmps24
  go_wp2_with fail
  go_loop [5, 6] (fun vo vi => vo = .slice none 0 0 ∧ vi = .int .i64 0) (fun _ _ => 0)
  case atStart => exact ⟨rfl, rfl⟩
  case round =>
    obtain ⟨rfl, rfl⟩ := hrel
    go_wp2
    go_ret
    exact ⟨⟨_, rfl, World.ownsRow_nil _ _ _ _⟩, Below.refl _ _⟩

theorem without_any (a : Option Addr) (cap : Nat) (xs : List Mb.Nm) (s : ByteArray) (w : World) (h : NmAt w a xs) (hl : xs.length ≤ 1099511627776) :
    Calls Tryz.prog 24 #[.slice a xs.length cap, .string s] w fun e w' => (∃ v, e = .returned v ∧ OwnN w' w.heap.size v (Mb.withoutN xs s.data.toList)) ∧ Below w.heap.size w w' := by
  rcases h with rfl | ⟨b, off, rfl, hb, hc⟩
  · exact without_empty a cap s w
  · exact without_some b off cap xs s w hb hc hl

set_option maxRecDepth 100000 in
set_option maxHeartbeats 1000000 in
theorem with_any (a : Option Addr) (cap : Nat) (xs : List Mb.Nm) (s : ByteArray) (d : Int) (w : World) (h : NmAt w a xs) (hl : xs.length ≤ 1099511627775) :
    Calls Tryz.prog 23 #[.slice a xs.length cap, .string s, .int .i64 d] w fun e w' => (∃ v, e = .returned v ∧ OwnN w' w.heap.size v (Mb.withN xs s.data.toList d)) ∧ Below w.heap.size w w' := by
  obtain ⟨i0, hi, hz0, hz1, hz2⟩ := info_parts Tryz.info_named
  have g := without_any a cap xs s w h (by omega)
  have HL : Hid ((Mb.withoutN xs s.data.toList).length ≤ 1099511627775) := by have := Mb.withoutN_len xs s.data.toList; unfold Hid; omega
  have HS : Hid (Mb.withN xs s.data.toList d = Mb.withoutN xs s.data.toList ++ [⟨s.data.toList, d⟩]) := rfl
  clear hl h
  generalize Mb.withoutN xs s.data.toList = ys at *
  generalize Mb.withN xs s.data.toList d = zs at *
  go_enter Tryz.func23, Tryz.ntmps23
  go_wp2_with fail
  refine g.mono ?_
  rintro e' w1 ⟨⟨v, rfl, hown⟩, hb1⟩
  clear g
  have hs1 := hb1.size
  have hl := HL.out
  have Hown : Hid (w1.ownsRow w.heap.size 52 2 v ys.length (nmCells ys)) := hown
  clear hown
  generalize hn : ys.length = n at *
  go_wp2_with (at_builtin; refine wpList_append_own _ rfl (.tmp 11) (.tmp 15) 43 rfl w.heap.size 52 i0 (.agg #[.string ByteArray.empty, .int .i64 0]) 2 24 Tryz.underlying43 hi hz0 hz1 hz2 rfl (by decide) _ n (nmCells ys) rfl (Hown.out.alloc _) ⟨w1.heap.size, 0, none⟩ 1 1 [.string s, .int .i64 d] rfl rfl ?c1 ?c2 ?c3 ?c4 ?c5 ?_)
  case c1 => exact fun j u hj => new_cells2 w1 _ _ _ j u hj
  case c2 => intro u hu; simp only [List.mem_cons, List.not_mem_nil, or_false] at hu; rcases hu with rfl | rfl <;> rfl
  case c3 => unfold maxLen; omega
  case c4 => omega
  case c5 => simp; omega
  intro v' w5 hown5 hgrow5 hnil5
  have HB5 : Hid (Below w.heap.size w w5) := (hb1.alloc (by omega) _).grown hgrow5 (by simp; omega) (owns_row_ge Hown.out)
  have hOwn5 : OwnN w5 w.heap.size v' zs := by
    rw [HS.out]
    unfold OwnN
    rw [nmCells_snoc, List.length_append, hn]
    exact hown5
  have HO := Lib.hid hOwn5
  clear hown5 hgrow5 hnil5 hOwn5
  go_wp2
  go_ret
  exact ⟨⟨_, rfl, HO.out⟩, HB5.out⟩

end Go.Proofs.YtamglanahpcedaaGreatDoor
