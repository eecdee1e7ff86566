/-
  OWN TEXT: sameEntries at two lists of the same; allEntries at a list of one alone.
-/
import Derived.Test.YtldgiecjnmkajaaGreatDoorListWalkI
namespace Go.Proofs.YtldgiecjnmkajaaGreatDoor
open Go.RowKit

set_option maxRecDepth 100000 in
set_option maxHeartbeats 1000000 in
theorem sameE_some (b off cap b' off' cap' : Nat) (xs : List Mb.Ent) (w : World) (hb : b < w.heap.size) (hc : EntsAt w b off xs) (hb' : b' < w.heap.size) (hc' : EntsAt w b' off' xs) (hl : xs.length ≤ maxLen) :
    Calls Tryz.prog 114 #[.slice (some ⟨b, off, none⟩) xs.length cap, .slice (some ⟨b', off', none⟩) xs.length cap'] w fun r w' => r = .returned (.bool true) ∧ Below w.heap.size w w' := by
  unfold maxLen at hl
  go_enter Tryz.func114, Tryz.ntmps114
  go_wp2_with fail
  go_loopw [5] (fun i wr => ∃ (k : Nat), k ≤ xs.length ∧ i = .int .i64 k ∧ Below w.heap.size w wr) (fun i _ => xs.length - (intOf i).toNat)
  case atStart => exact ⟨0, Nat.zero_le _, rfl, Below.refl _ _⟩
  case round =>
    obtain ⟨k, hk, rfl, hbl⟩ := hrel
    have hsz := hbl.size
    by_cases hlt : k < xs.length
    · have hNE := Later.some wr.heap.size wr
      have W0 : ∀ z : Later wr.heap.size wr, Below w.heap.size w z.w := fun z => hbl.trans (z.h.mono (by omega))
      obtain ⟨c0, c1, c2⟩ := hc k xs[k] (by simp [hlt])
      obtain ⟨d0, d1, d2⟩ := hc' k xs[k] (by simp [hlt])
      have e0 : ∀ z : Later wr.heap.size wr, z.w.cell? ⟨b, off + k * 3, none⟩ = some (.int .i64 xs[k].key) := fun z => ((W0 z).cell (p := ⟨b, off + k * 3, none⟩) hb).trans c0
      have e1 : ∀ z : Later wr.heap.size wr, z.w.cell? ⟨b, off + k * 3 + 1, none⟩ = some (.int .i64 xs[k].uid) := fun z => ((W0 z).cell (p := ⟨b, off + k * 3 + 1, none⟩) hb).trans c1
      have e2 : ∀ z : Later wr.heap.size wr, z.w.cell? ⟨b, off + k * 3 + 2, none⟩ = some (.string ⟨xs[k].flags.toArray⟩) := fun z => ((W0 z).cell (p := ⟨b, off + k * 3 + 2, none⟩) hb).trans c2
      have f0 : ∀ z : Later wr.heap.size wr, z.w.cell? ⟨b', off' + k * 3, none⟩ = some (.int .i64 xs[k].key) := fun z => ((W0 z).cell (p := ⟨b', off' + k * 3, none⟩) hb').trans d0
      have f1 : ∀ z : Later wr.heap.size wr, z.w.cell? ⟨b', off' + k * 3 + 1, none⟩ = some (.int .i64 xs[k].uid) := fun z => ((W0 z).cell (p := ⟨b', off' + k * 3 + 1, none⟩) hb').trans d1
      have f2 : ∀ z : Later wr.heap.size wr, z.w.cell? ⟨b', off' + k * 3 + 2, none⟩ = some (.string ⟨xs[k].flags.toArray⟩) := fun z => ((W0 z).cell (p := ⟨b', off' + k * 3 + 2, none⟩) hb').trans d2
      have HBL : Hid (Below w.heap.size w wr) := hbl
      clear hbl c0 c1 c2 d0 d1 d2
      go_upto_region 6 with fail
      refine wp_region_later wr.heap.size (by kernel_rfl) (by kernel_rfl) ?_
      repeat (go_big_quiet_step (fail))
      refine wpQuiet_nil ?_
      intro _ hw'
      obtain ⟨z, rfl⟩ := hw'
      go_wp2
      go_roundw
      case rel => exact ⟨k + 1, by omega, by go_num, HBL.out.trans (z.h.mono (by omega))⟩
      case measure => simp [intOf]; omega
    · go_wp2
      go_ret
      exact ⟨rfl, hbl⟩

set_option maxHeartbeats 400000 in
theorem sameE_empty (a a' : Option Addr) (cap cap' : Nat) (w : World) :
    Calls Tryz.prog 114 #[.slice a 0 cap, .slice a' 0 cap'] w fun r w' => r = .returned (.bool true) ∧ Below w.heap.size w w' := by
  go_enter Tryz.func114, Tryz.ntmps114
  go_wp2_with fail
  go_loop [5] (fun i => i = .int .i64 0) (fun _ => 0)
  case atStart => rfl
  case round =>
    subst hrel
    go_wp2
    go_ret
    exact ⟨rfl, Below.refl _ _⟩

theorem sameE_any (a a' : Option Addr) (cap cap' : Nat) (xs : List Mb.Ent) (w : World) (h : SlAt w a xs) (h' : SlAt w a' xs) (hl : xs.length ≤ maxLen) :
    Calls Tryz.prog 114 #[.slice a xs.length cap, .slice a' xs.length cap'] w fun r w' => r = .returned (.bool true) ∧ Below w.heap.size w w' := by
  rcases h with rfl | ⟨b, off, rfl, hb, hc⟩
  · exact sameE_empty a a' cap cap' w
  · rcases h' with rfl | ⟨b', off', rfl, hb', hc'⟩
    · exact sameE_empty _ a' cap cap' w
    · exact sameE_some b off cap b' off' cap' xs w hb hc hb' hc' hl

set_option maxRecDepth 100000 in
set_option maxHeartbeats 1000000 in
theorem allE_some (b off cap : Nat) (m : Mb.Ent) (xs : List Mb.Ent) (w : World) (hb : b < w.heap.size) (hc : EntsAt w b off xs) (hm : ∀ x ∈ xs, x = m) (hl : xs.length ≤ maxLen) :
    Calls Tryz.prog 124 #[.slice (some ⟨b, off, none⟩) xs.length cap, .agg #[.int .i64 m.key, .int .i64 m.uid, .string ⟨m.flags.toArray⟩]] w fun r w' => r = .returned (.bool true) ∧ Below w.heap.size w w' := by
  unfold maxLen at hl
  have HM := Lib.hid hm
  clear hm
  go_enter Tryz.func124, Tryz.ntmps124
  go_wp2_with fail
  go_loopw [5] (fun i wr => ∃ (k : Nat), k ≤ xs.length ∧ i = .int .i64 k ∧ Below (w.heap.size + 1) (w.alloc (.cells #[.int .i64 m.key, .int .i64 m.uid, .string ⟨m.flags.toArray⟩] 221)) wr) (fun i _ => xs.length - (intOf i).toNat)
  case atStart => exact ⟨0, Nat.zero_le _, rfl, Below.refl _ _⟩
  case round =>
    obtain ⟨k, hk, rfl, hbl⟩ := hrel
    have hsz := hbl.size
    simp at hsz
    have hbw : Below w.heap.size w wr := ((Below.refl _ _).alloc (Nat.le_refl _) _).trans (hbl.mono (by omega))
    by_cases hlt : k < xs.length
    · have hNE := Later.some wr.heap.size wr
      have W0 : ∀ z : Later wr.heap.size wr, Below w.heap.size w z.w := fun z => hbw.trans (z.h.mono (by omega))
      obtain ⟨c0, c1, c2⟩ := hc k xs[k] (by simp [hlt])
      rw [HM.out xs[k] (List.getElem_mem hlt)] at c0 c1 c2
      have e0 : ∀ z : Later wr.heap.size wr, z.w.cell? ⟨b, off + k * 3, none⟩ = some (.int .i64 m.key) := fun z => ((W0 z).cell (p := ⟨b, off + k * 3, none⟩) hb).trans c0
      have e1 : ∀ z : Later wr.heap.size wr, z.w.cell? ⟨b, off + k * 3 + 1, none⟩ = some (.int .i64 m.uid) := fun z => ((W0 z).cell (p := ⟨b, off + k * 3 + 1, none⟩) hb).trans c1
      have e2 : ∀ z : Later wr.heap.size wr, z.w.cell? ⟨b, off + k * 3 + 2, none⟩ = some (.string ⟨m.flags.toArray⟩) := fun z => ((W0 z).cell (p := ⟨b, off + k * 3 + 2, none⟩) hb).trans c2
      have f0 : ∀ z : Later wr.heap.size wr, z.w.cell? ⟨w.heap.size, 0, none⟩ = some (.int .i64 m.key) := fun z => (z.h.cell (p := ⟨w.heap.size, 0, none⟩) (by simp; omega)).trans ((hbl.cell (p := ⟨w.heap.size, 0, none⟩) (by simp)).trans (by simp))
      have f1 : ∀ z : Later wr.heap.size wr, z.w.cell? ⟨w.heap.size, 1, none⟩ = some (.int .i64 m.uid) := fun z => (z.h.cell (p := ⟨w.heap.size, 1, none⟩) (by simp; omega)).trans ((hbl.cell (p := ⟨w.heap.size, 1, none⟩) (by simp)).trans (by simp))
      have f2 : ∀ z : Later wr.heap.size wr, z.w.cell? ⟨w.heap.size, 2, none⟩ = some (.string ⟨m.flags.toArray⟩) := fun z => (z.h.cell (p := ⟨w.heap.size, 2, none⟩) (by simp; omega)).trans ((hbl.cell (p := ⟨w.heap.size, 2, none⟩) (by simp)).trans (by simp))
      have HBL : Hid (Below (w.heap.size + 1) (w.alloc (.cells #[.int .i64 m.key, .int .i64 m.uid, .string ⟨m.flags.toArray⟩] 221)) wr) := hbl
      clear hbl c0 c1 c2 hbw
      go_upto_region 4 with fail
      refine wp_region_later wr.heap.size (by kernel_rfl) (by kernel_rfl) ?_
      repeat (go_big_quiet_step (fail))
      refine wpQuiet_nil ?_
      intro _ hw'
      obtain ⟨z, rfl⟩ := hw'
      go_wp2
      go_roundw
      case rel => exact ⟨k + 1, by omega, by go_num, HBL.out.trans (z.h.mono (by omega))⟩
      case measure => simp [intOf]; omega
    · go_wp2
      go_ret
      exact ⟨rfl, hbw⟩

set_option maxHeartbeats 400000 in
theorem allE_empty (a : Option Addr) (cap : Nat) (m : Mb.Ent) (w : World) :
    Calls Tryz.prog 124 #[.slice a 0 cap, .agg #[.int .i64 m.key, .int .i64 m.uid, .string ⟨m.flags.toArray⟩]] w fun r w' => r = .returned (.bool true) ∧ Below w.heap.size w w' := by
  go_enter Tryz.func124, Tryz.ntmps124
  go_wp2_with fail
  go_loop [5] (fun i => i = .int .i64 0) (fun _ => 0)
  case atStart => rfl
  case round =>
    subst hrel
    go_wp2
    go_ret
    exact ⟨rfl, (Below.refl _ _).alloc (Nat.le_refl _) _⟩

theorem allE_any (a : Option Addr) (cap : Nat) (m : Mb.Ent) (xs : List Mb.Ent) (w : World) (h : SlAt w a xs) (hm : ∀ x ∈ xs, x = m) (hl : xs.length ≤ maxLen) :
    Calls Tryz.prog 124 #[.slice a xs.length cap, .agg #[.int .i64 m.key, .int .i64 m.uid, .string ⟨m.flags.toArray⟩]] w fun r w' => r = .returned (.bool true) ∧ Below w.heap.size w w' := by
  rcases h with rfl | ⟨b, off, rfl, hb, hc⟩
  · exact allE_empty a cap m w
  · exact allE_some b off cap m xs w hb hc hm hl

end Go.Proofs.YtldgiecjnmkajaaGreatDoor
