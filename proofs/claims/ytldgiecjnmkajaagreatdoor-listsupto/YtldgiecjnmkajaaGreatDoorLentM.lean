/-
  OWN TEXT: entries in a row: one stored, all made; the builtin copy of elements of several cells.
  OWN TEXT: lentEntries.
  OWN TEXT: wholeEntries at a list that is as it was: true; the caller has written into all of it.
-/
import Derived.Test.YtldgiecjnmkajaaGreatDoorRoleM
import Derived.Laws.MakeOwn
import Derived.Lib.SliceRun
namespace Go.Proofs.YtldgiecjnmkajaaGreatDoor
open Go.RowKit Go.Lib

theorem entCells_append (xs ys : List Mb.Ent) : entCells (xs ++ ys) = entCells xs ++ entCells ys := by simp [entCells]
theorem entCells_cons (x : Mb.Ent) (xs : List Mb.Ent) : entCells (x :: xs) = [.int .i64 x.key, .int .i64 x.uid, .string ⟨x.flags.toArray⟩] ++ entCells xs := by simp [entCells]

theorem ent_set : ∀ (xs : List Mb.Ent) (i : Nat) (x : Mb.Ent), (((entCells xs).set (i * 3) (.int .i64 x.key)).set (i * 3 + 1) (.int .i64 x.uid)).set (i * 3 + 2) (.string ⟨x.flags.toArray⟩) = entCells (xs.set i x)
  | [], i, x => by simp [entCells]
  | y :: ys, 0, x => by simp [entCells_cons]
  | y :: ys, i + 1, x => by
    rw [List.set_cons_succ, entCells_cons, entCells_cons, ← ent_set ys i x]
    rw [show (i + 1) * 3 = i * 3 + 3 by omega]
    simp [List.set_cons_succ]

/-- an element is stored -/
theorem ent_stored {W : World} {M : Nat} {xs : List Mb.Ent} {t : TypeId} (i : Nat) (x : Mb.Ent) (h : W.heap[M]? = some (.cells (entCells xs).toArray t (0, 0))) :
    (((W.setCell ⟨M, i * 3, none⟩ (.int .i64 x.key)).setCell ⟨M, i * 3 + 1, none⟩ (.int .i64 x.uid)).setCell ⟨M, i * 3 + 2, none⟩ (.string ⟨x.flags.toArray⟩)).heap[M]? = some (.cells (entCells (xs.set i x)).toArray t (0, 0)) := by
  rw [heap_set_at _ (heap_set_at _ (heap_set_at _ h)), ← ent_set xs i x]
  simp

/-- an element is read -/
theorem ent_read {W : World} {M : Nat} {xs : List Mb.Ent} {t : TypeId} (h : W.heap[M]? = some (.cells (entCells xs).toArray t (0, 0))) : EntsAt W M 0 xs := by
  intro i x hx
  obtain ⟨h0, h1, h2⟩ := entCells_get xs i x hx
  rw [Nat.zero_add]
  exact ⟨by simp [World.cell?, h, h0], by simp [World.cell?, h, h1], by simp [World.cell?, h, h2]⟩
theorem ent_unfrozen {W : World} {M : Nat} {cs : Array Value} {t : TypeId} (h : W.heap[M]? = some (.cells cs t (0, 0))) (o : Nat) : W.frozen? ⟨M, o, none⟩ = false := by simp [World.frozen?, h]

theorem made_ents (k : Nat) : madeCells (#[.int .i64 0, .int .i64 0, .string ⟨#[]⟩] : Array Value) (k * 3) = (entCells (List.replicate k (⟨0, 0, []⟩ : Mb.Ent))).toArray := by
  apply Array.ext_getElem?
  intro j
  by_cases hj : j < k * 3
  · have h3 : j = j / 3 * 3 + j % 3 := by omega
    obtain ⟨h0, h1, h2⟩ := entCells_get (List.replicate k (⟨0, 0, []⟩ : Mb.Ent)) (j / 3) ⟨0, 0, []⟩ (by rw [List.getElem?_replicate, if_pos (by omega)])
    have hr : j % 3 = 0 ∨ j % 3 = 1 ∨ j % 3 = 2 := by omega
    simp only [madeCells, List.getElem?_toArray]
    rw [Array.getElem?_map, Array.getElem?_range, if_pos hj]
    rcases hr with hr | hr | hr
    · rw [h3, hr, Nat.add_zero, h0]
      simp
    · rw [h3, hr, h1]
      simp [Nat.add_mod]
    · rw [h3, hr, h2]
      simp [Nat.add_mod]
  · rw [Array.getElem?_eq_none (by rw [size_madeCells]; omega)]
    rw [Array.getElem?_eq_none (by simp [entCells_len]; omega)]

theorem run_copy_rows {P : Program} (w : World) (dT sT ty elem : TypeId) (g o dLen dCap : Nat) (a : Addr) (sLen sCap sz : Nat) (cur : Array Value) (t : TypeId) (cs : List Value)
    (hu : P.underlying dT = some (.slice elem)) (hs : (P.info? elem).map (·.size) = some sz)
    (hg : w.heap[g]? = some (.cells cur t (0, 0))) (hn : cs.length = Nat.min sLen dLen * sz)
    (hsrc : ∀ j v, cs[j]? = some v → w.cell? (a.add j) = some v) (hfit : o + cs.length ≤ cur.size) (h1 : ∀ v ∈ cs, v.oneCell' = true) :
    (Builtin.copy_ #[dT, sT] ty #[.slice (some ⟨g, o, none⟩) dLen dCap, .slice (some a) sLen sCap]).run P w =
      .ok (goInt (Nat.min sLen dLen)) (w.setRow g (cur.toList.take o ++ cs ++ cur.toList.drop (o + cs.length)).toArray) := by
  have hl := run_loadCells_list (P := P) w a cs hsrc
  have hst := run_storeCells_at P g o t cs 0 cur w hg (by simpa using hfit) h1
  cases hq : P.info? elem with
  | none => simp [hq] at hs
  | some i =>
    have hi : i.size = sz := by simpa [hq] using hs
    simp [Builtin.copy_, run_underlying hu, Builtin.lenOf, Builtin.firstCells, sizeOf, typeInfo, hq, hi, ← hn, hl, hst]

theorem entry_nil (a : Option Addr) (n c : Nat) (W : World) : (binOp .eql 78 (.slice a n c) (.slice none 0 0)).run Tryz.prog W = .ok (.bool a.isNone) W := by
  rw [run_eql_slice_nil W 78 221 a n c 0 0 Tryz.underlying78]

end Go.Proofs.YtldgiecjnmkajaaGreatDoor
namespace Go.Proofs.YtldgiecjnmkajaaGreatDoor
open Go.RowKit Go.Lib

def beyE : Mb.Ent := ⟨-1, -1, [98, 101, 121, 111, 110, 100]⟩
def spoE : Mb.Ent := ⟨-1, -1, [115, 112, 111, 105, 108, 116]⟩
def zeroE : Mb.Ent := ⟨0, 0, []⟩

theorem info_entry_size : (Tryz.prog.info? 221).map (·.size) = some 3 := by kernel_rfl

set_option maxRecDepth 100000 in
set_option maxHeartbeats 400000 in
theorem lent_nil (w : World) : Calls Tryz.prog 108 #[.slice none 0 0] w fun e w' => e = .returned (.slice none 0 0) ∧ w' = w := by
  have hnil : ∀ W, (binOp .eql 78 (.slice none 0 0) (.slice none 0 0)).run Tryz.prog W = .ok (.bool true) W := fun W => entry_nil none 0 0 W
  go_enter Tryz.func108, Tryz.ntmps108
  go_wp2
  go_ret
  exact ⟨rfl, rfl⟩

theorem bey_take (es : List Mb.Ent) (k : Nat) (hk : k < 8) : (es ++ List.replicate k beyE ++ List.replicate (8 - k) zeroE).set (es.length + k) beyE = es ++ List.replicate (k + 1) beyE ++ List.replicate (8 - (k + 1)) zeroE := by
  rw [List.append_assoc, List.set_append_right _ _ (by omega)]
  rw [List.set_append_right _ _ (by simp)]
  simp only [Nat.add_sub_cancel_left, List.length_replicate, Nat.sub_self]
  rw [show 8 - k = (8 - (k + 1)) + 1 by omega, List.replicate_succ, List.set_cons_zero, List.replicate_succ']
  simp

set_option maxRecDepth 100000 in
set_option maxHeartbeats 1000000 in
theorem lent_some (g cap : Nat) (es : List Mb.Ent) (w : World) (hg : g < w.heap.size) (hc : EntsAt w g 0 es) (hn : es.length ≤ 4194304) :
    Calls Tryz.prog 108 #[.slice (some ⟨g, 0, none⟩) es.length cap] w fun e w' => e = .returned (.slice (some ⟨w.heap.size, 0, none⟩) es.length (es.length + 8)) ∧ Below w.heap.size w w' ∧ w'.heap[w.heap.size]? = some (.cells (entCells (es ++ List.replicate 8 beyE)).toArray 221 (0, 0)) := by
  obtain ⟨i0, hi, hz0, hz1, hz2⟩ := info_parts Tryz.info_entry
  obtain ⟨n, hnn⟩ : ∃ n, n = es.length := ⟨_, rfl⟩
  have hmk := run_make (P := Tryz.prog) w 78 221 i0 _ Tryz.underlying78 hi hz0 .i64 .i64 ((n : Int) + 8) ((n : Int) + 8) (by omega) (by omega) (by rw [hz2]; omega) (by omega)
  have e8 : ((n : Int) + 8).toNat = n + 8 := by omega
  rw [e8, hz1] at hmk
  have hmc : madeCells (Value.agg #[.int .i64 0, .int .i64 0, .string ByteArray.empty]).cells ((n + 8) * 3) = (entCells (List.replicate (n + 8) zeroE)).toArray := made_ents (n + 8)
  rw [hmc] at hmk
  obtain ⟨w1, hw1⟩ : ∃ w1, w1 = w.alloc (.cells (entCells (List.replicate (n + 8) zeroE)).toArray 221) := ⟨_, rfl⟩
  rw [← hw1] at hmk
  have hb1 : Below w.heap.size w w1 := by rw [hw1]; exact (Below.refl _ _).alloc (Nat.le_refl _) _
  have hs1 : w1.heap.size = w.heap.size + 1 := by rw [hw1]; simp
  have hm1 : w1.heap[w.heap.size]? = some (.cells (entCells (List.replicate (n + 8) zeroE)).toArray 221 (0, 0)) := by rw [hw1]; exact heap_alloc_new _ _
  have hcp := fun ty => run_copy_rows (P := Tryz.prog) w1 78 78 ty 221 w.heap.size 0 (n + 8) (n + 8) ⟨g, 0, none⟩ n cap 3 _ 221 (entCells es) Tryz.underlying78 info_entry_size hm1
    (by rw [entCells_len, ← hnn, show Nat.min n (n + 8) = n from Nat.min_eq_left (by omega)])
    (fun j v hj => by
      rw [Lib.add_plain, hb1.cell (p := ⟨g, 0 + j, none⟩) hg]
      have h3 : j = j / 3 * 3 + j % 3 := by omega
      have hjl : j < (entCells es).length := (List.getElem?_eq_some_iff.1 hj).1
      rw [entCells_len] at hjl
      obtain ⟨x, hx⟩ : ∃ x, es[j / 3]? = some x := ⟨_, List.getElem?_eq_getElem (by omega)⟩
      obtain ⟨c0, c1, c2⟩ := hc (j / 3) x hx
      obtain ⟨d0, d1, d2⟩ := entCells_get es (j / 3) x hx
      have hr : j % 3 = 0 ∨ j % 3 = 1 ∨ j % 3 = 2 := by omega
      rcases hr with hr | hr | hr
      · rw [h3, hr, Nat.add_zero] at hj ⊢; rw [d0] at hj; rw [c0]; exact hj
      · rw [h3, hr] at hj ⊢; rw [d1] at hj; rw [← Nat.add_assoc, c1]; exact hj
      · rw [h3, hr] at hj ⊢; rw [d2] at hj; rw [← Nat.add_assoc, c2]; exact hj)
    (by simp [entCells_len]; omega)
    (by
      intro v hv
      obtain ⟨x, _, hx⟩ := List.mem_flatMap.1 hv
      simp only [List.mem_cons, List.not_mem_nil, or_false] at hx
      rcases hx with rfl | rfl | rfl <;> rfl)
  rw [show Nat.min n (n + 8) = n from Nat.min_eq_left (by omega)] at hcp
  obtain ⟨w2, hw2⟩ : ∃ w2, w2 = w1.setRow w.heap.size ((entCells (List.replicate (n + 8) zeroE)).toArray.toList.take 0 ++ entCells es ++ (entCells (List.replicate (n + 8) zeroE)).toArray.toList.drop (0 + (entCells es).length)).toArray := ⟨_, rfl⟩
  rw [← hw2] at hcp
  have hm2 : w2.heap[w.heap.size]? = some (.cells (entCells (es ++ List.replicate 0 beyE ++ List.replicate (8 - 0) zeroE)).toArray 221 (0, 0)) := by
    rw [hw2, setRow_heap _ _ _ _ _ _ hm1]
    have e : (entCells (List.replicate (n + 8) zeroE)).drop (0 + (entCells es).length) = entCells (List.replicate 8 zeroE) := by
      rw [← List.replicate_append_replicate, entCells_append, Nat.zero_add, List.drop_append_of_le_length (by simp [entCells_len, hnn]), List.drop_of_length_le (by simp [entCells_len, hnn]), List.nil_append]
    simp only [List.take_zero, List.nil_append, e, List.replicate_zero, List.append_nil, Nat.sub_zero, entCells_append]
  have hb2 : Below w.heap.size w w2 := by
    rw [hw2]
    exact hb1.trans ⟨rfl, rfl, rfl, by simp, fun k hk => setRow_other _ _ _ _ (by omega)⟩
  have hmn : (n : Int) ≤ 4194304 := by omega
  have hnil : ∀ W, (binOp .eql 78 (.slice (some ⟨g, 0, none⟩) n cap) (.slice none 0 0)).run Tryz.prog W = .ok (.bool false) W := fun W => entry_nil (some ⟨g, 0, none⟩) n cap W
  have HM2 := Lib.hid hm2
  have HB2 := Lib.hid hb2
  have HNN := Lib.hid hnn
  rw [← hnn]
  clear hw1 hw2 hm1 hm2 hb1 hb2 hmc hs1 e8 hc hnn hz0 hz1 hz2 hi hn
  go_enter Tryz.func108, Tryz.ntmps108
  go_wp2
  go_loopw [5] (fun vi wr => ∃ (i k : Nat), vi = .int .i64 (i : Int) ∧ i = n + k ∧ k ≤ 8 ∧ Hid (wr.heap[w.heap.size]? = some (.cells (entCells (es ++ List.replicate k beyE ++ List.replicate (8 - k) zeroE)).toArray 221 (0, 0))) ∧ Hid (Below w.heap.size w wr)) (fun vi _ => n + 8 - (RowKit.intOf vi).toNat)
  case atStart => exact ⟨n, 0, rfl, rfl, by omega, HM2, HB2⟩
  case round =>
    clear hmk hcp
    obtain ⟨i, k, rfl, hik, hk, HM, HB⟩ := hrel
    by_cases hlt : k < 8
    · obtain ⟨c0, c1, c2⟩ := ent_read HM.out i zeroE (by
        rw [List.getElem?_append_right (by simp [← HNN.out]; omega)]
        simp only [List.length_append, List.length_replicate, ← HNN.out, hik, Nat.sub_self]
        rw [List.getElem?_replicate, if_pos (by omega)])
      have f0 := ent_unfrozen HM.out (i * 3)
      have f1 := ent_unfrozen HM.out (i * 3 + 1)
      have f2 := ent_unfrozen HM.out (i * 3 + 2)
      simp only [Nat.zero_add] at c0 c1 c2
      have HN : Hid ((((wr.setCell ⟨w.heap.size, i * 3, none⟩ (.int .i64 (-1))).setCell ⟨w.heap.size, i * 3 + 1, none⟩ (.int .i64 (-1))).setCell ⟨w.heap.size, i * 3 + 2, none⟩ (.string ⟨#[98, 101, 121, 111, 110, 100]⟩)).heap[w.heap.size]? = some (.cells (entCells (es ++ List.replicate (k + 1) beyE ++ List.replicate (8 - (k + 1)) zeroE)).toArray 221 (0, 0))) := by
        have := ent_stored i beyE HM.out
        rw [hik, HNN.out, bey_take es k hlt] at this
        rw [hik, HNN.out]
        exact this
      have HBn : Hid (Below w.heap.size w (((wr.setCell ⟨w.heap.size, i * 3, none⟩ (.int .i64 (-1))).setCell ⟨w.heap.size, i * 3 + 1, none⟩ (.int .i64 (-1))).setCell ⟨w.heap.size, i * 3 + 2, none⟩ (.string ⟨#[98, 101, 121, 111, 110, 100]⟩))) := ((HB.out.setCell (by simp) _).setCell (by simp) _).setCell (by simp) _
      have i1 : (i : Int) < (n : Int) + 8 := by omega
      have i2 : (i : Int) ≤ 4194320 := by omega
      have HIK := Lib.hid hik
      clear HM HB hik
      go_wp2
      refine ⟨⟨i + 1, k + 1, by first | rfl | (congr 1; omega), by rw [HIK.out]; omega, by omega, HN, HBn⟩, by simp [RowKit.intOf]; omega⟩
    · have hk8 : k = 8 := by omega
      subst hk8
      have i1 : ¬ (i : Int) < (n : Int) + 8 := by omega
      have HIK := Lib.hid hik
      have HF : Hid (wr.heap[w.heap.size]? = some (.cells (entCells (es ++ List.replicate 8 beyE)).toArray 221 (0, 0))) := by
        have := HM.out
        rw [Nat.sub_self, List.replicate_zero, List.append_nil] at this
        exact this
      clear hik hk hlt HM
      go_wp2
      go_ret
      exact ⟨rfl, HB.out, HF.out⟩

end Go.Proofs.YtldgiecjnmkajaaGreatDoor
namespace Go.Proofs.YtldgiecjnmkajaaGreatDoor
open Go.RowKit Go.Lib

/-- one block has a role of its own -/
def only (M : Nat) : Nat → Nat := fun b => if b = M then 1 else 0
theorem only_at (M : Nat) : only M M = 1 := if_pos rfl
theorem only_not {M b : Nat} (h : b ≠ M) : only M b = 0 := if_neg h

set_option maxRecDepth 100000 in
set_option maxHeartbeats 400000 in
theorem whole_nil (v : Value) (w : World) : Calls Tryz.prog 111 #[v, .slice none 0 0] w fun e w' => e = .returned (.bool true) ∧ w' = w := by
  have hnil : ∀ W, (binOp .eql 78 (.slice none 0 0) (.slice none 0 0)).run Tryz.prog W = .ok (.bool true) W := fun W => entry_nil none 0 0 W
  go_enter Tryz.func111, Tryz.ntmps111
  go_wp2
  go_ret
  exact ⟨rfl, rfl⟩

theorem spo_take (l : List Mb.Ent) (k : Nat) (hk : k < l.length) : (List.replicate k spoE ++ l.drop k).set k spoE = List.replicate (k + 1) spoE ++ l.drop (k + 1) := by
  rw [List.set_append_right _ _ (by simp)]
  rw [List.drop_eq_getElem_cons hk]
  simp only [List.length_replicate, Nat.sub_self, List.set_cons_zero]
  rw [List.replicate_succ']
  simp

set_option maxRecDepth 100000 in
set_option maxHeartbeats 2000000 in
theorem whole_some (M g cap : Nat) (es : List Mb.Ent) (w : World) (hM : w.heap[M]? = some (.cells (entCells (es ++ List.replicate 8 beyE)).toArray 221 (0, 0))) (hgM : g ≠ M) (hg : g < w.heap.size) (hc : EntsAt w g 0 es) (hn : es.length ≤ 4194304) (hcap : es.length ≤ cap) :
    Calls Tryz.prog 111 #[.slice (some ⟨M, 0, none⟩) es.length (es.length + 8), .slice (some ⟨g, 0, none⟩) es.length cap] w fun e w' => e = .returned (.bool true) ∧ Chg (only M) 1 w w' ∧ w'.heap[M]? = some (.cells (entCells (List.replicate (es.length + 8) spoE)).toArray 221 (0, 0)) := by
  obtain ⟨n, hnn⟩ : ∃ n, n = es.length := ⟨_, rfl⟩
  have hnil : ∀ W, (binOp .eql 78 (.slice (some ⟨g, 0, none⟩) n cap) (.slice none 0 0)).run Tryz.prog W = .ok (.bool false) W := fun W => entry_nil (some ⟨g, 0, none⟩) n cap W
  have hmn : (n : Int) ≤ 4194304 := by omega
  have hMlt : M < w.heap.size := (Array.getElem?_eq_some_iff.1 hM).1
  have HM0 := Lib.hid hM
  have HC := Lib.hid hc
  have HNN := Lib.hid hnn
  have HL : Hid ((es ++ List.replicate 8 beyE).length = n + 8) := by unfold Hid; simp [hnn]
  rw [← hnn]
  clear hM hc hn hnn
  go_enter Tryz.func111, Tryz.ntmps111
  go_wp2
  go_loopw [7, 8] (fun vok vi wr => ∃ (i : Nat), vok = .bool true ∧ vi = .int .i64 (i : Int) ∧ i ≤ n + 8 ∧ Hid (wr.heap[M]? = some (.cells (entCells (List.replicate i spoE ++ (es ++ List.replicate 8 beyE).drop i)).toArray 221 (0, 0))) ∧ Hid (Chg (only M) 1 w wr)) (fun _ vi _ => n + 8 - (RowKit.intOf vi).toNat)
  case atStart => exact ⟨0, rfl, rfl, by omega, HM0, Chg.refl _ _ _⟩
  case round =>
    obtain ⟨i, rfl, rfl, hi, HM, HB⟩ := hrel
    have hsz := HB.out.size
    by_cases hlt : i < n + 8
    · have hlt' : i < (es ++ List.replicate 8 beyE).length := by rw [HL.out]; exact hlt
      obtain ⟨x, hx⟩ : ∃ x, (es ++ List.replicate 8 beyE)[i]? = some x := ⟨_, List.getElem?_eq_getElem hlt'⟩
      obtain ⟨c0, c1, c2⟩ := ent_read HM.out i x (by
        rw [List.getElem?_append_right (by simp), List.length_replicate, Nat.sub_self, List.getElem?_drop, Nat.add_zero]
        exact hx)
      simp only [Nat.zero_add] at c0 c1 c2
      have f0 := ent_unfrozen HM.out (i * 3)
      have f1 := ent_unfrozen HM.out (i * 3 + 1)
      have f2 := ent_unfrozen HM.out (i * 3 + 2)
      have i1 : (i : Int) < (n : Int) + 8 := by omega
      have i2 : (i : Int) ≤ 4194320 := by omega
      have i3 : (0 : Int) ≤ (i : Int) := by omega
      have HS : Hid (∀ W : World, W.heap[M]? = wr.heap[M]? → (((W.setCell ⟨M, i * 3, none⟩ (.int .i64 (-1))).setCell ⟨M, i * 3 + 1, none⟩ (.int .i64 (-1))).setCell ⟨M, i * 3 + 2, none⟩ (.string ⟨#[115, 112, 111, 105, 108, 116]⟩)).heap[M]? = some (.cells (entCells (List.replicate (i + 1) spoE ++ (es ++ List.replicate 8 beyE).drop (i + 1))).toArray 221 (0, 0))) := by
        intro W hW
        have := ent_stored i spoE (hW.trans HM.out)
        rw [spo_take _ i hlt'] at this
        exact this
      have hMr : M < wr.heap.size := Nat.lt_of_lt_of_le hMlt hsz
      by_cases hin : i < n
      · have hxe : es[i]? = some x := by
          rw [List.getElem?_append_left (by rw [← HNN.out]; exact hin)] at hx
          exact hx
        obtain ⟨d0, d1, d2⟩ := HC.out i x hxe
        have e0 := (HB.out.cell (p := ⟨g, 0 + i * 3, none⟩) hg (by rw [only_not hgM]; omega)).trans d0
        have e1 := (HB.out.cell (p := ⟨g, 0 + i * 3 + 1, none⟩) hg (by rw [only_not hgM]; omega)).trans d1
        have e2 := (HB.out.cell (p := ⟨g, 0 + i * 3 + 2, none⟩) hg (by rw [only_not hgM]; omega)).trans d2
        simp only [Nat.zero_add] at e0 e1 e2
        have hgr : g < wr.heap.size := Nat.lt_of_lt_of_le hg hsz
        have q0 : ∀ o, (wr.alloc o).cell? ⟨g, i * 3, none⟩ = some (.int .i64 x.key) := fun o => (World.cell?_of_block (a := ⟨g, i * 3, none⟩) (Go.heap_alloc_old wr o hgr)).trans e0
        have q1 : ∀ o, (wr.alloc o).cell? ⟨g, i * 3 + 1, none⟩ = some (.int .i64 x.uid) := fun o => (World.cell?_of_block (a := ⟨g, i * 3 + 1, none⟩) (Go.heap_alloc_old wr o hgr)).trans e1
        have q2 : ∀ o, (wr.alloc o).cell? ⟨g, i * 3 + 2, none⟩ = some (.string ⟨x.flags.toArray⟩) := fun o => (World.cell?_of_block (a := ⟨g, i * 3 + 2, none⟩) (Go.heap_alloc_old wr o hgr)).trans e2
        have i4 : (i : Int) < (n : Int) := by omega
        have i5 : (i : Int) < (cap : Int) := by rw [HNN.out] at hin; omega
        clear d0 d1 d2 hx hxe HM hlt' HC
        have hNE := Later.some (wr.heap.size + 1) (wr.alloc (.cells #[.int .i64 x.key, .int .i64 x.uid, .string ⟨x.flags.toArray⟩] 221))
        have W0 : ∀ z : Later (wr.heap.size + 1) (wr.alloc (.cells #[.int .i64 x.key, .int .i64 x.uid, .string ⟨x.flags.toArray⟩] 221)), Below wr.heap.size wr z.w := fun z => ((Below.refl _ _).alloc (Nat.le_refl _) _).trans (z.h.mono (by omega))
        have zc0 : ∀ z : Later (wr.heap.size + 1) (wr.alloc (.cells #[.int .i64 x.key, .int .i64 x.uid, .string ⟨x.flags.toArray⟩] 221)), z.w.cell? ⟨M, i * 3, none⟩ = some (.int .i64 x.key) := fun z => ((W0 z).cell (p := ⟨M, i * 3, none⟩) hMr).trans c0
        have zc1 : ∀ z : Later (wr.heap.size + 1) (wr.alloc (.cells #[.int .i64 x.key, .int .i64 x.uid, .string ⟨x.flags.toArray⟩] 221)), z.w.cell? ⟨M, i * 3 + 1, none⟩ = some (.int .i64 x.uid) := fun z => ((W0 z).cell (p := ⟨M, i * 3 + 1, none⟩) hMr).trans c1
        have zc2 : ∀ z : Later (wr.heap.size + 1) (wr.alloc (.cells #[.int .i64 x.key, .int .i64 x.uid, .string ⟨x.flags.toArray⟩] 221)), z.w.cell? ⟨M, i * 3 + 2, none⟩ = some (.string ⟨x.flags.toArray⟩) := fun z => ((W0 z).cell (p := ⟨M, i * 3 + 2, none⟩) hMr).trans c2
        have zf0 : ∀ z : Later (wr.heap.size + 1) (wr.alloc (.cells #[.int .i64 x.key, .int .i64 x.uid, .string ⟨x.flags.toArray⟩] 221)), z.w.frozen? ⟨M, i * 3, none⟩ = false := fun z => ((W0 z).frozen (p := ⟨M, i * 3, none⟩) hMr).trans f0
        have zf1 : ∀ z : Later (wr.heap.size + 1) (wr.alloc (.cells #[.int .i64 x.key, .int .i64 x.uid, .string ⟨x.flags.toArray⟩] 221)), z.w.frozen? ⟨M, i * 3 + 1, none⟩ = false := fun z => ((W0 z).frozen (p := ⟨M, i * 3 + 1, none⟩) hMr).trans f1
        have zf2 : ∀ z : Later (wr.heap.size + 1) (wr.alloc (.cells #[.int .i64 x.key, .int .i64 x.uid, .string ⟨x.flags.toArray⟩] 221)), z.w.frozen? ⟨M, i * 3 + 2, none⟩ = false := fun z => ((W0 z).frozen (p := ⟨M, i * 3 + 2, none⟩) hMr).trans f2
        have zw0 : ∀ z : Later (wr.heap.size + 1) (wr.alloc (.cells #[.int .i64 x.key, .int .i64 x.uid, .string ⟨x.flags.toArray⟩] 221)), z.w.cell? ⟨wr.heap.size, 0, none⟩ = some (.int .i64 x.key) := fun z => (z.h.cell (p := ⟨wr.heap.size, 0, none⟩) (by simp)).trans (by simp)
        have zw1 : ∀ z : Later (wr.heap.size + 1) (wr.alloc (.cells #[.int .i64 x.key, .int .i64 x.uid, .string ⟨x.flags.toArray⟩] 221)), z.w.cell? ⟨wr.heap.size, 1, none⟩ = some (.int .i64 x.uid) := fun z => (z.h.cell (p := ⟨wr.heap.size, 1, none⟩) (by simp)).trans (by simp)
        have zw2 : ∀ z : Later (wr.heap.size + 1) (wr.alloc (.cells #[.int .i64 x.key, .int .i64 x.uid, .string ⟨x.flags.toArray⟩] 221)), z.w.cell? ⟨wr.heap.size, 2, none⟩ = some (.string ⟨x.flags.toArray⟩) := fun z => (z.h.cell (p := ⟨wr.heap.size, 2, none⟩) (by simp)).trans (by simp)
        have HZ : Hid (∀ z : Later (wr.heap.size + 1) (wr.alloc (.cells #[.int .i64 x.key, .int .i64 x.uid, .string ⟨x.flags.toArray⟩] 221)), Chg (only M) 1 w (((z.w.setCell ⟨M, i * 3, none⟩ (.int .i64 (-1))).setCell ⟨M, i * 3 + 1, none⟩ (.int .i64 (-1))).setCell ⟨M, i * 3 + 2, none⟩ (.string ⟨#[115, 112, 111, 105, 108, 116]⟩)) ∧ z.w.heap[M]? = wr.heap[M]?) := fun z => ⟨(((HB.out.trans (Chg.of_below _ _ (W0 z))).setCell (only_at M) _).setCell (only_at M) _).setCell (only_at M) _, (W0 z).block M hMr⟩
        clear W0 c0 c1 c2 f0 f1 f2 HB
        go_upto_region 12 with fail
        refine wp_region_later (wr.heap.size + 1) (by kernel_rfl) (by kernel_rfl) ?_
        repeat (go_big_quiet_step (fail))
        refine wpQuiet_nil ?_
        intro _ hw'
        obtain ⟨z, rfl⟩ := hw'
        have HF := Lib.hid (HS.out z.w (HZ.out z).2)
        have HG := Lib.hid (HZ.out z).1
        clear HS HZ
        go_wp2
        go_roundw
        case rel => exact ⟨i + 1, rfl, by go_num, by omega, HF, HG⟩
        case measure => simp [RowKit.intOf]; omega
      · have hxb : x = beyE := by
          rw [List.getElem?_append_right (by rw [← HNN.out]; omega), List.getElem?_replicate, ← HNN.out, if_pos (by omega)] at hx
          exact (Option.some.inj hx).symm
        subst hxb
        have i4 : ¬ (i : Int) < (n : Int) := by omega
        clear hx HM hlt' HC
        have hNE := Later.some (wr.heap.size + 1) (wr.alloc (.cells #[.int .i64 (-1), .int .i64 (-1), .string ⟨#[98, 101, 121, 111, 110, 100]⟩] 221))
        have W0 : ∀ z : Later (wr.heap.size + 1) (wr.alloc (.cells #[.int .i64 (-1), .int .i64 (-1), .string ⟨#[98, 101, 121, 111, 110, 100]⟩] 221)), Below wr.heap.size wr z.w := fun z => ((Below.refl _ _).alloc (Nat.le_refl _) _).trans (z.h.mono (by omega))
        have zc0 : ∀ z : Later (wr.heap.size + 1) (wr.alloc (.cells #[.int .i64 (-1), .int .i64 (-1), .string ⟨#[98, 101, 121, 111, 110, 100]⟩] 221)), z.w.cell? ⟨M, i * 3, none⟩ = some (.int .i64 (-1)) := fun z => ((W0 z).cell (p := ⟨M, i * 3, none⟩) hMr).trans c0
        have zc1 : ∀ z : Later (wr.heap.size + 1) (wr.alloc (.cells #[.int .i64 (-1), .int .i64 (-1), .string ⟨#[98, 101, 121, 111, 110, 100]⟩] 221)), z.w.cell? ⟨M, i * 3 + 1, none⟩ = some (.int .i64 (-1)) := fun z => ((W0 z).cell (p := ⟨M, i * 3 + 1, none⟩) hMr).trans c1
        have zc2 : ∀ z : Later (wr.heap.size + 1) (wr.alloc (.cells #[.int .i64 (-1), .int .i64 (-1), .string ⟨#[98, 101, 121, 111, 110, 100]⟩] 221)), z.w.cell? ⟨M, i * 3 + 2, none⟩ = some (.string ⟨#[98, 101, 121, 111, 110, 100]⟩) := fun z => ((W0 z).cell (p := ⟨M, i * 3 + 2, none⟩) hMr).trans c2
        have zf0 : ∀ z : Later (wr.heap.size + 1) (wr.alloc (.cells #[.int .i64 (-1), .int .i64 (-1), .string ⟨#[98, 101, 121, 111, 110, 100]⟩] 221)), z.w.frozen? ⟨M, i * 3, none⟩ = false := fun z => ((W0 z).frozen (p := ⟨M, i * 3, none⟩) hMr).trans f0
        have zf1 : ∀ z : Later (wr.heap.size + 1) (wr.alloc (.cells #[.int .i64 (-1), .int .i64 (-1), .string ⟨#[98, 101, 121, 111, 110, 100]⟩] 221)), z.w.frozen? ⟨M, i * 3 + 1, none⟩ = false := fun z => ((W0 z).frozen (p := ⟨M, i * 3 + 1, none⟩) hMr).trans f1
        have zf2 : ∀ z : Later (wr.heap.size + 1) (wr.alloc (.cells #[.int .i64 (-1), .int .i64 (-1), .string ⟨#[98, 101, 121, 111, 110, 100]⟩] 221)), z.w.frozen? ⟨M, i * 3 + 2, none⟩ = false := fun z => ((W0 z).frozen (p := ⟨M, i * 3 + 2, none⟩) hMr).trans f2
        have zw0 : ∀ z : Later (wr.heap.size + 1) (wr.alloc (.cells #[.int .i64 (-1), .int .i64 (-1), .string ⟨#[98, 101, 121, 111, 110, 100]⟩] 221)), z.w.cell? ⟨wr.heap.size, 0, none⟩ = some (.int .i64 (-1)) := fun z => (z.h.cell (p := ⟨wr.heap.size, 0, none⟩) (by simp)).trans (by simp)
        have zw1 : ∀ z : Later (wr.heap.size + 1) (wr.alloc (.cells #[.int .i64 (-1), .int .i64 (-1), .string ⟨#[98, 101, 121, 111, 110, 100]⟩] 221)), z.w.cell? ⟨wr.heap.size, 1, none⟩ = some (.int .i64 (-1)) := fun z => (z.h.cell (p := ⟨wr.heap.size, 1, none⟩) (by simp)).trans (by simp)
        have zw2 : ∀ z : Later (wr.heap.size + 1) (wr.alloc (.cells #[.int .i64 (-1), .int .i64 (-1), .string ⟨#[98, 101, 121, 111, 110, 100]⟩] 221)), z.w.cell? ⟨wr.heap.size, 2, none⟩ = some (.string ⟨#[98, 101, 121, 111, 110, 100]⟩) := fun z => (z.h.cell (p := ⟨wr.heap.size, 2, none⟩) (by simp)).trans (by simp)
        have HZ : Hid (∀ z : Later (wr.heap.size + 1) (wr.alloc (.cells #[.int .i64 (-1), .int .i64 (-1), .string ⟨#[98, 101, 121, 111, 110, 100]⟩] 221)), Chg (only M) 1 w (((z.w.setCell ⟨M, i * 3, none⟩ (.int .i64 (-1))).setCell ⟨M, i * 3 + 1, none⟩ (.int .i64 (-1))).setCell ⟨M, i * 3 + 2, none⟩ (.string ⟨#[115, 112, 111, 105, 108, 116]⟩)) ∧ z.w.heap[M]? = wr.heap[M]?) := fun z => ⟨(((HB.out.trans (Chg.of_below _ _ (W0 z))).setCell (only_at M) _).setCell (only_at M) _).setCell (only_at M) _, (W0 z).block M hMr⟩
        clear W0 c0 c1 c2 f0 f1 f2 HB
        go_upto_region 12 with fail
        refine wp_region_later (wr.heap.size + 1) (by kernel_rfl) (by kernel_rfl) ?_
        repeat (go_big_quiet_step (fail))
        refine wpQuiet_nil ?_
        intro _ hw'
        obtain ⟨z, rfl⟩ := hw'
        have HF := Lib.hid (HS.out z.w (HZ.out z).2)
        have HG := Lib.hid (HZ.out z).1
        clear HS HZ
        go_wp2
        go_roundw
        case rel => exact ⟨i + 1, rfl, by go_num, by omega, HF, HG⟩
        case measure => simp [RowKit.intOf]; omega
    · have hi8 : i = n + 8 := by omega
      subst hi8
      have HF : Hid (wr.heap[M]? = some (.cells (entCells (List.replicate (n + 8) spoE)).toArray 221 (0, 0))) := by
        have := HM.out
        rw [List.drop_of_length_le (by rw [HL.out]; omega), List.append_nil] at this
        exact this
      clear HM hlt hi
      go_wp2
      go_ret
      exact ⟨rfl, HB.out, HF.out⟩

end Go.Proofs.YtldgiecjnmkajaaGreatDoor
