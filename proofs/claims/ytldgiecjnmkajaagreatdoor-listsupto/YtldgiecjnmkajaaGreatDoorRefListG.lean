/-
  OWN TEXT: mailbagref.entry.
-/
import Derived.Test.YtldgiecjnmkajaaGreatDoorRefW
import Derived.Deep.RegionHeld3
namespace Go.Proofs.YtldgiecjnmkajaaGreatDoor
open Go.RowKit Go.Lib

/-- what entry gives -/
def EntryO (l : List UInt8) (v : Value) : Prop := ∃ (K U : Int) (g : ByteArray) (r : Bool), v = .tuple #[.agg #[.int .i64 K, .int .i64 U, .string g], .bool r] ∧
  ((r = true ∧ Mb.entL l = some ⟨K, U, g.data.toList⟩) ∨ (r = false ∧ Mb.entL l = none))

theorem entL_no1 {l : List UInt8} (h : Mb.cutL 32 l = none) : Mb.entL l = none := by unfold Mb.entL; rw [h]
theorem entL_no2 {l k rest : List UInt8} (h : Mb.cutL 32 l = some (k, rest)) (h2 : Mb.cutL 32 rest = none) : Mb.entL l = none := by unfold Mb.entL; rw [h]; simp only; rw [h2]
theorem entL_no3 {l k rest u f : List UInt8} (h : Mb.cutL 32 l = some (k, rest)) (h2 : Mb.cutL 32 rest = some (u, f)) (h3 : Mb.askL f = none) : Mb.entL l = none := by unfold Mb.entL; rw [h]; simp only; rw [h2]; simp only; rw [h3]
theorem numV_neg {l : List UInt8} {m : Nat} (h : Mb.numV l m < 0) : Mb.numL l m = none := by
  unfold Mb.numV at h
  cases hn : Mb.numL l m with
  | none => rfl
  | some n => rw [hn] at h; simp only at h; omega
theorem numV_pos {l : List UInt8} {m : Nat} (h : 0 ≤ Mb.numV l m) : Mb.numL l m = some (Mb.numV l m).toNat := by
  unfold Mb.numV at h ⊢
  cases hn : Mb.numL l m with
  | none => rw [hn] at h; simp only at h; omega
  | some n => simp
theorem entL_no4 {l k rest u f g : List UInt8} (h : Mb.cutL 32 l = some (k, rest)) (h2 : Mb.cutL 32 rest = some (u, f)) (h3 : Mb.askL f = some g) (h4 : Mb.numV k 999 < 0 ∨ Mb.numV u 99 < 0) : Mb.entL l = none := by
  unfold Mb.entL
  rw [h]; simp only; rw [h2]; simp only; rw [h3]
  rcases h4 with h4 | h4
  · rw [numV_neg h4]
  · rw [numV_neg h4]
    cases Mb.numL k 999 <;> rfl
theorem entL_yes {l k rest u f g : List UInt8} (h : Mb.cutL 32 l = some (k, rest)) (h2 : Mb.cutL 32 rest = some (u, f)) (h3 : Mb.askL f = some g) (h4 : 0 ≤ Mb.numV k 999) (h5 : 0 ≤ Mb.numV u 99) : Mb.entL l = some ⟨Mb.numV k 999, Mb.numV u 99, g⟩ := by
  unfold Mb.entL
  rw [h]; simp only; rw [h2]; simp only; rw [h3, numV_pos h4, numV_pos h5]
  simp only [Option.some.injEq, Mb.Ent.mk.injEq, and_true]
  omega

theorem set3_far (W : World) (R P j : Nat) (x y z : Value) (h : ¬ P = R) : (((W.setCell ⟨R, 0, none⟩ x).setCell ⟨R, 1, none⟩ y).setCell ⟨R, 2, none⟩ z).cell? ⟨P, j, none⟩ = W.cell? ⟨P, j, none⟩ := by
  refine World.cell?_of_block ?_
  rw [heap_setCell_other _ _ _ _ (by simpa using h), heap_setCell_other _ _ _ _ (by simpa using h), heap_setCell_other _ _ _ _ (by simpa using h)]

set_option maxHeartbeats 16000000 in
set_option maxRecDepth 100000 in
theorem rentry_any (s : ByteArray) (hs : s.size ≤ 400) (w : World) :
    Calls Tryz.prog 180 #[.string s] w fun e w' => (∃ v, e = .returned v ∧ EntryO s.data.toList v) ∧ Below w.heap.size w w' := by
  have hss : s.data.toList.length ≤ 400 := by rw [← Lib.size_eq]; exact hs
  have g1 := fun W => rcut_any s 32 (by omega) W
  go_enter Tryz.func180, Tryz.ntmps180
  go_wp2_with fail
  go_at_call 178
  refine (g1 _).mono (fun e w1 hpost => ?_)
  obtain ⟨⟨v1, rfl, k, rest, A, rfl, hA, hk, hrest⟩, hb1⟩ := hpost
  have g2 := rcut_any rest 32 (by rw [Lib.size_eq]; omega) w1
  clear g1
  have HB1 := Lib.hid (((Below.refl w.heap.size w).alloc (Nat.le_refl _) (.cells #[.int .i64 0, .int .i64 0, .string ⟨#[]⟩] 221)).trans (hb1.mono (by simp)))
  have r0 := hb1.cell (p := ⟨w.heap.size, 0, none⟩) (by simp)
  have r1 := hb1.cell (p := ⟨w.heap.size, 1, none⟩) (by simp)
  have r2 := hb1.cell (p := ⟨w.heap.size, 2, none⟩) (by simp)
  have f0 := hb1.frozen (p := ⟨w.heap.size, 0, none⟩) (by simp)
  have f1 := hb1.frozen (p := ⟨w.heap.size, 1, none⟩) (by simp)
  have f2 := hb1.frozen (p := ⟨w.heap.size, 2, none⟩) (by simp)
  have hz1 := hb1.size
  simp at r0 r1 r2 f0 f1 f2 hz1
  clear hb1
  go_wp2_with fail
  go_at_call 178
  refine g2.mono (fun e w2 hpost => ?_)
  obtain ⟨⟨v2, rfl, u, f, B, rfl, hB, hu, hf⟩, hb2⟩ := hpost
  clear g2
  have HB2 := Lib.hid (HB1.out.trans (hb2.mono (by omega)))
  replace r0 := (hb2.cell (p := ⟨w.heap.size, 0, none⟩) (by simp; omega)).trans r0
  replace r1 := (hb2.cell (p := ⟨w.heap.size, 1, none⟩) (by simp; omega)).trans r1
  replace r2 := (hb2.cell (p := ⟨w.heap.size, 2, none⟩) (by simp; omega)).trans r2
  replace f0 := (hb2.frozen (p := ⟨w.heap.size, 0, none⟩) (by simp; omega)).trans f0
  replace f1 := (hb2.frozen (p := ⟨w.heap.size, 1, none⟩) (by simp; omega)).trans f1
  replace f2 := (hb2.frozen (p := ⟨w.heap.size, 2, none⟩) (by simp; omega)).trans f2
  have hz2 := hb2.size
  have g3 := rasked_any f (by rw [Lib.size_eq]; omega) w2
  have g4 := fun W => rnumber_any k 999 (by omega) (by rw [Lib.size_eq]; omega) W
  have g5 := fun W => rnumber_any u 99 (by omega) (by rw [Lib.size_eq]; omega) W
  clear hb2 HB1
  go_wp2_with fail
  go_at_call 245
  refine g3.mono (fun e w3 hpost => ?_)
  obtain ⟨⟨v3, rfl, g, C, rfl, hC⟩, hw3⟩ := hpost
  subst w3
  clear g3
  have HH : Hid (EntryO s.data.toList (.tuple #[.agg #[.int .i64 (Mb.numV k.data.toList 999), .int .i64 (Mb.numV u.data.toList 99), .string g], .bool (A && B && C && decide (0 ≤ Mb.numV k.data.toList 999) && decide (0 ≤ Mb.numV u.data.toList 99))])) := by
    refine ⟨_, _, _, _, rfl, ?_⟩
    rcases hA with ⟨rfl, hA⟩ | ⟨rfl, hA⟩
    · rcases hB with ⟨rfl, hB⟩ | ⟨rfl, hB⟩
      · rcases hC with ⟨rfl, hC⟩ | ⟨rfl, hC⟩
        · by_cases h4 : 0 ≤ Mb.numV k.data.toList 999
          · by_cases h5 : 0 ≤ Mb.numV u.data.toList 99
            · exact Or.inl ⟨by simp [h4, h5], entL_yes hA hB hC h4 h5⟩
            · exact Or.inr ⟨by simp [h5], entL_no4 hA hB hC (Or.inr (by omega))⟩
          · exact Or.inr ⟨by simp [h4], entL_no4 hA hB hC (Or.inl (by omega))⟩
        · exact Or.inr ⟨by simp, entL_no3 hA hB hC⟩
      · exact Or.inr ⟨by simp, entL_no2 hA hB⟩
    · exact Or.inr ⟨by simp, entL_no1 hA⟩
  clear hA hB hC hk hrest hu hf
  generalize Mb.numV k.data.toList 999 = K at g4 HH
  generalize Mb.numV u.data.toList 99 = U at g5 HH
  have hR : w.heap.size < w2.heap.size := by omega
  go_wp2_with (first
    | (go_at_call_of 179 (k); refine (g4 _).mono ?_; rintro e w' ⟨rfl, rfl⟩)
    | (go_at_call_of 179 (u); refine (g5 _).mono ?_; rintro e w' ⟨rfl, rfl⟩))
  have q0 : (w2.alloc (.cells #[.int .i64 K, .int .i64 U, .string g] 221)).cell? ⟨w2.heap.size, 0, none⟩ = some (.int .i64 K) := by simp
  have q1 : (w2.alloc (.cells #[.int .i64 K, .int .i64 U, .string g] 221)).cell? ⟨w2.heap.size, 1, none⟩ = some (.int .i64 U) := by simp
  have q2 : (w2.alloc (.cells #[.int .i64 K, .int .i64 U, .string g] 221)).cell? ⟨w2.heap.size, 2, none⟩ = some (.string g) := by simp
  have hb3 : Below w2.heap.size w2 (w2.alloc (.cells #[.int .i64 K, .int .i64 U, .string g] 221)) := (Below.refl _ _).alloc (Nat.le_refl _) _
  replace r0 := (hb3.cell (p := ⟨w.heap.size, 0, none⟩) hR).trans r0
  replace r1 := (hb3.cell (p := ⟨w.heap.size, 1, none⟩) hR).trans r1
  replace r2 := (hb3.cell (p := ⟨w.heap.size, 2, none⟩) hR).trans r2
  replace f0 := (hb3.frozen (p := ⟨w.heap.size, 0, none⟩) hR).trans f0
  replace f1 := (hb3.frozen (p := ⟨w.heap.size, 1, none⟩) hR).trans f1
  replace f2 := (hb3.frozen (p := ⟨w.heap.size, 2, none⟩) hR).trans f2
  have HB3 := Lib.hid (HB2.out.trans (hb3.mono (by omega)))
  have hne : ¬ w.heap.size = w2.heap.size := by omega
  have hne2 : ¬ w2.heap.size = w.heap.size := by omega
  clear hb3 HB2 g4 g5
  generalize w2.alloc (.cells #[.int .i64 K, .int .i64 U, .string g] 221) = W1 at *
  generalize w2.heap.size = P at *
  have hc : A = false ∨ (A = true ∧ B = false) ∨ (A = true ∧ B = true ∧ C = false) ∨ (A = true ∧ B = true ∧ C = true ∧ K < 0) ∨ (A = true ∧ B = true ∧ C = true ∧ 0 ≤ K ∧ U < 0) ∨ (A = true ∧ B = true ∧ C = true ∧ 0 ≤ K ∧ 0 ≤ U) := by
    cases A <;> cases B <;> cases C <;> simp <;> omega
  rcases hc with rfl | ⟨rfl, rfl⟩ | ⟨rfl, rfl, rfl⟩ | ⟨rfl, rfl, rfl, hK⟩ | ⟨rfl, rfl, rfl, hK, hU⟩ | ⟨rfl, rfl, rfl, hK, hU⟩
  · refine wp_region_held_drew (S := fun w' : World => w'.cell? ⟨P, 0, none⟩ = some (.int .i64 K) ∧ w'.cell? ⟨P, 1, none⟩ = some (.int .i64 U) ∧ w'.cell? ⟨P, 2, none⟩ = some (.string g)) (by kernel_rfl) ⟨q0, q1, q2⟩ (fun hSd => ?_)
    refine wpAnyH_take (i := 0) (v := ?_) rfl (by kernel_rfl) (by kernel_rfl) (by kernel_rfl) (fun _ _ _ h => h) (Or.inl ⟨by rfl, ?_⟩) (by assumption) ?_
    rotate_left
    · intro w0 hS0
      obtain ⟨s0, s1, s2⟩ := hS0
      go_simp
      try rfl
    repeat (first | simp only [Act.put] | simp only [List.setIfInBounds_toArray] | simp only [List.set_cons_zero] | simp only [List.set_cons_succ])
    refine wpAnyH_take (i := 1) (v := ?_) rfl (by kernel_rfl) (by kernel_rfl) (by kernel_rfl) (fun _ _ _ h => h) (Or.inl ⟨by rfl, ?_⟩) (by assumption) ?_
    rotate_left
    · intro w0 hS0
      obtain ⟨s0, s1, s2⟩ := hS0
      go_simp
      try rfl
    repeat (first | simp only [Act.put] | simp only [List.setIfInBounds_toArray] | simp only [List.set_cons_zero] | simp only [List.set_cons_succ])
    refine wpAnyH_take (i := 2) (v := ?_) rfl (by kernel_rfl) (by kernel_rfl) (by kernel_rfl) (fun _ _ _ h => h) (Or.inl ⟨by rfl, ?_⟩) (by assumption) ?_
    rotate_left
    · intro w0 hS0
      obtain ⟨s0, s1, s2⟩ := hS0
      go_simp
      try rfl
    repeat (first | simp only [Act.put] | simp only [List.setIfInBounds_toArray] | simp only [List.set_cons_zero] | simp only [List.set_cons_succ])
    refine wpAnyH_take (i := 3) (v := undef) rfl (by kernel_rfl) (by kernel_rfl) (by kernel_rfl) (fun _ _ _ h => h) (Or.inr ⟨by kernel_rfl, rfl⟩) (by assumption) ?_
    repeat (first | simp only [Act.put] | simp only [List.setIfInBounds_toArray] | simp only [List.set_cons_zero] | simp only [List.set_cons_succ])
    refine wpAnyH_take (i := 4) (v := ?_) rfl (by kernel_rfl) (by kernel_rfl) (by kernel_rfl) (fun _ _ _ h => h) (Or.inl ⟨by rfl, ?_⟩) (by assumption) ?_
    rotate_left
    · intro w0 hS0
      obtain ⟨s0, s1, s2⟩ := hS0
      go_simp
      try rfl
    repeat (first | simp only [Act.put] | simp only [List.setIfInBounds_toArray] | simp only [List.set_cons_zero] | simp only [List.set_cons_succ])
    refine wpAnyH_take (i := 5) (v := ?_) rfl (by kernel_rfl) (by kernel_rfl) (by kernel_rfl) (fun _ _ _ h => h) (Or.inl ⟨by rfl, ?_⟩) (by assumption) ?_
    rotate_left
    · intro w0 hS0
      obtain ⟨s0, s1, s2⟩ := hS0
      go_simp
      try rfl
    repeat (first | simp only [Act.put] | simp only [List.setIfInBounds_toArray] | simp only [List.set_cons_zero] | simp only [List.set_cons_succ])
    refine wpAnyH_take (i := 6) (v := undef) rfl (by kernel_rfl) (by kernel_rfl) (by kernel_rfl) (fun _ _ _ h => h) (Or.inr ⟨by kernel_rfl, rfl⟩) (by assumption) ?_
    repeat (first | simp only [Act.put] | simp only [List.setIfInBounds_toArray] | simp only [List.set_cons_zero] | simp only [List.set_cons_succ])
    refine wpAnyH_take (i := 7) (v := ?_) rfl (by kernel_rfl) (by kernel_rfl) (by kernel_rfl) (fun _ _ _ h => h) (Or.inl ⟨by rfl, ?_⟩) (by assumption) ?_
    rotate_left
    · intro w0 hS0
      obtain ⟨s0, s1, s2⟩ := hS0
      go_simp
      try rfl
    repeat (first | simp only [Act.put] | simp only [List.setIfInBounds_toArray] | simp only [List.set_cons_zero] | simp only [List.set_cons_succ])
    refine wpAnyH_take (i := 8) (v := ?_) rfl (by kernel_rfl) (by kernel_rfl) (by kernel_rfl) (fun _ _ _ h => h) (Or.inl ⟨by rfl, ?_⟩) (by assumption) ?_
    rotate_left
    · intro w0 hS0
      obtain ⟨s0, s1, s2⟩ := hS0
      go_simp
      try rfl
    repeat (first | simp only [Act.put] | simp only [List.setIfInBounds_toArray] | simp only [List.set_cons_zero] | simp only [List.set_cons_succ])
    refine wpAnyH_take (i := 9) (v := undef) rfl (by kernel_rfl) (by kernel_rfl) (by kernel_rfl) (fun _ _ _ h => h) (Or.inr ⟨by kernel_rfl, rfl⟩) (by assumption) ?_
    repeat (first | simp only [Act.put] | simp only [List.setIfInBounds_toArray] | simp only [List.set_cons_zero] | simp only [List.set_cons_succ])
    refine wpAnyH_take (i := 10) (v := undef) rfl (by kernel_rfl) (by kernel_rfl) (by kernel_rfl) (fun _ _ _ h => h) (Or.inr ⟨by kernel_rfl, rfl⟩) (by assumption) ?_
    repeat (first | simp only [Act.put] | simp only [List.setIfInBounds_toArray] | simp only [List.set_cons_zero] | simp only [List.set_cons_succ])
    refine wpAnyH_take (i := 11) (v := undef) rfl (by kernel_rfl) (by kernel_rfl) (by kernel_rfl) (fun _ _ _ h => h) (Or.inr ⟨by kernel_rfl, rfl⟩) (by assumption) ?_
    repeat (first | simp only [Act.put] | simp only [List.setIfInBounds_toArray] | simp only [List.set_cons_zero] | simp only [List.set_cons_succ])
    refine wpAnyH_take (i := 12) (v := ?_) rfl (by kernel_rfl) (by kernel_rfl) (by kernel_rfl) (fun _ _ _ h => h) (Or.inl ⟨by rfl, ?_⟩) (by assumption) ?_
    rotate_left
    · intro w0 hS0
      obtain ⟨s0, s1, s2⟩ := hS0
      go_simp
      try rfl
    repeat (first | simp only [Act.put] | simp only [List.setIfInBounds_toArray] | simp only [List.set_cons_zero] | simp only [List.set_cons_succ])
    refine wpAnyH_take (i := 13) (v := ?_) rfl (by kernel_rfl) (by kernel_rfl) (by kernel_rfl) (fun _ _ _ h => h) (Or.inl ⟨by rfl, ?_⟩) (by assumption) ?_
    rotate_left
    · intro w0 hS0
      obtain ⟨s0, s1, s2⟩ := hS0
      go_simp
      try rfl
    repeat (first | simp only [Act.put] | simp only [List.setIfInBounds_toArray] | simp only [List.set_cons_zero] | simp only [List.set_cons_succ])
    refine wpAnyH_take (i := 14) (v := undef) rfl (by kernel_rfl) (by kernel_rfl) (by kernel_rfl) (fun _ _ _ h => h) (Or.inr ⟨by kernel_rfl, rfl⟩) (by assumption) ?_
    repeat (first | simp only [Act.put] | simp only [List.setIfInBounds_toArray] | simp only [List.set_cons_zero] | simp only [List.set_cons_succ])
    refine wpAnyH_take (i := 15) (v := undef) rfl (by kernel_rfl) (by kernel_rfl) (by kernel_rfl) (fun _ _ _ h => h) (Or.inr ⟨by kernel_rfl, rfl⟩) (by assumption) ?_
    repeat (first | simp only [Act.put] | simp only [List.setIfInBounds_toArray] | simp only [List.set_cons_zero] | simp only [List.set_cons_succ])
    refine wpAnyH_take (i := 16) (v := undef) rfl (by kernel_rfl) (by kernel_rfl) (by kernel_rfl) (fun _ _ _ h => h) (Or.inr ⟨by kernel_rfl, rfl⟩) (by assumption) ?_
    repeat (first | simp only [Act.put] | simp only [List.setIfInBounds_toArray] | simp only [List.set_cons_zero] | simp only [List.set_cons_succ])
    refine wpAnyH_take (i := 17) (v := ?_) rfl (by kernel_rfl) (by kernel_rfl) (by kernel_rfl) (fun _ _ _ h => h) (Or.inl ⟨by rfl, ?_⟩) (by assumption) ?_
    rotate_left
    · intro w0 hS0
      obtain ⟨s0, s1, s2⟩ := hS0
      go_simp
      try rfl
    repeat (first | simp only [Act.put] | simp only [List.setIfInBounds_toArray] | simp only [List.set_cons_zero] | simp only [List.set_cons_succ])
    refine wpAnyH_ready (rs := [18]) (by kernel_rfl) (by simp) ?_
    refine AllReadyH.cons rfl (fun K' hK' => ?_) AllReadyH.nil
    go_simp
    refine hK'.out _ _ ?_ (fun hS2 => ?_)
    · exact ⟨(set3_far W1 w.heap.size P 0 _ _ _ hne2).trans q0, (set3_far W1 w.heap.size P 1 _ _ _ hne2).trans q1, (set3_far W1 w.heap.size P 2 _ _ _ hne2).trans q2⟩
    clear hK'
    refine wpAnyH_take (i := 19) (v := ?_) rfl (by kernel_rfl) (by kernel_rfl) (by kernel_rfl) (fun _ _ _ h => h) (Or.inl ⟨by rfl, ?_⟩) (by assumption) ?_
    rotate_left
    · intro w0 hS0
      go_simp
      try rfl
    refine wpAnyH_done (by kernel_rfl) ?_ _
    have b0 := World.cell?_setCell_same W1 ⟨w.heap.size, 0, none⟩ (.int .i64 K) r0
    have b1 := World.cell?_setCell_same (W1.setCell ⟨w.heap.size, 0, none⟩ (.int .i64 K)) ⟨w.heap.size, 1, none⟩ (.int .i64 U) ((World.cell?_setCell_other _ _ _ _ (by simp)).trans r1)
    have b2 := World.cell?_setCell_same ((W1.setCell ⟨w.heap.size, 0, none⟩ (.int .i64 K)).setCell ⟨w.heap.size, 1, none⟩ (.int .i64 U)) ⟨w.heap.size, 2, none⟩ (.string g) ((World.cell?_setCell_other _ _ _ _ (by simp)).trans ((World.cell?_setCell_other _ _ _ _ (by simp)).trans r2))
    go_wp2
    refine bodyPost_ret (v := .tuple #[.agg #[.int .i64 K, .int .i64 U, .string g], .bool false]) (by simp [results, Tryz.results180, go_sem, b0, b1, b2]) rfl ⟨⟨_, rfl, ?_⟩, ((((HB3.out).setCell (by simp) _).setCell (by simp) _).setCell (by simp) _).drew⟩
    exact HH.out
  · refine wp_region_held_drew (S := fun w' : World => w'.cell? ⟨P, 0, none⟩ = some (.int .i64 K) ∧ w'.cell? ⟨P, 1, none⟩ = some (.int .i64 U) ∧ w'.cell? ⟨P, 2, none⟩ = some (.string g)) (by kernel_rfl) ⟨q0, q1, q2⟩ (fun hSd => ?_)
    refine wpAnyH_take (i := 0) (v := ?_) rfl (by kernel_rfl) (by kernel_rfl) (by kernel_rfl) (fun _ _ _ h => h) (Or.inl ⟨by rfl, ?_⟩) (by assumption) ?_
    rotate_left
    · intro w0 hS0
      obtain ⟨s0, s1, s2⟩ := hS0
      go_simp
      try rfl
    repeat (first | simp only [Act.put] | simp only [List.setIfInBounds_toArray] | simp only [List.set_cons_zero] | simp only [List.set_cons_succ])
    refine wpAnyH_take (i := 1) (v := ?_) rfl (by kernel_rfl) (by kernel_rfl) (by kernel_rfl) (fun _ _ _ h => h) (Or.inl ⟨by rfl, ?_⟩) (by assumption) ?_
    rotate_left
    · intro w0 hS0
      obtain ⟨s0, s1, s2⟩ := hS0
      go_simp
      try rfl
    repeat (first | simp only [Act.put] | simp only [List.setIfInBounds_toArray] | simp only [List.set_cons_zero] | simp only [List.set_cons_succ])
    refine wpAnyH_take (i := 2) (v := ?_) rfl (by kernel_rfl) (by kernel_rfl) (by kernel_rfl) (fun _ _ _ h => h) (Or.inl ⟨by rfl, ?_⟩) (by assumption) ?_
    rotate_left
    · intro w0 hS0
      obtain ⟨s0, s1, s2⟩ := hS0
      go_simp
      try rfl
    repeat (first | simp only [Act.put] | simp only [List.setIfInBounds_toArray] | simp only [List.set_cons_zero] | simp only [List.set_cons_succ])
    refine wpAnyH_take (i := 3) (v := ?_) rfl (by kernel_rfl) (by kernel_rfl) (by kernel_rfl) (fun _ _ _ h => h) (Or.inl ⟨by kernel_rfl, ?_⟩) (by assumption) ?_
    rotate_left
    · intro w0 hS0
      obtain ⟨s0, s1, s2⟩ := hS0
      go_simp
      try rfl
    repeat (first | simp only [Act.put] | simp only [List.setIfInBounds_toArray] | simp only [List.set_cons_zero] | simp only [List.set_cons_succ])
    refine wpAnyH_take (i := 4) (v := ?_) rfl (by kernel_rfl) (by kernel_rfl) (by kernel_rfl) (fun _ _ _ h => h) (Or.inl ⟨by rfl, ?_⟩) (by assumption) ?_
    rotate_left
    · intro w0 hS0
      obtain ⟨s0, s1, s2⟩ := hS0
      go_simp
      try rfl
    repeat (first | simp only [Act.put] | simp only [List.setIfInBounds_toArray] | simp only [List.set_cons_zero] | simp only [List.set_cons_succ])
    refine wpAnyH_take (i := 5) (v := ?_) rfl (by kernel_rfl) (by kernel_rfl) (by kernel_rfl) (fun _ _ _ h => h) (Or.inl ⟨by rfl, ?_⟩) (by assumption) ?_
    rotate_left
    · intro w0 hS0
      obtain ⟨s0, s1, s2⟩ := hS0
      go_simp
      try rfl
    repeat (first | simp only [Act.put] | simp only [List.setIfInBounds_toArray] | simp only [List.set_cons_zero] | simp only [List.set_cons_succ])
    refine wpAnyH_take (i := 6) (v := undef) rfl (by kernel_rfl) (by kernel_rfl) (by kernel_rfl) (fun _ _ _ h => h) (Or.inr ⟨by kernel_rfl, rfl⟩) (by assumption) ?_
    repeat (first | simp only [Act.put] | simp only [List.setIfInBounds_toArray] | simp only [List.set_cons_zero] | simp only [List.set_cons_succ])
    refine wpAnyH_take (i := 7) (v := ?_) rfl (by kernel_rfl) (by kernel_rfl) (by kernel_rfl) (fun _ _ _ h => h) (Or.inl ⟨by rfl, ?_⟩) (by assumption) ?_
    rotate_left
    · intro w0 hS0
      obtain ⟨s0, s1, s2⟩ := hS0
      go_simp
      try rfl
    repeat (first | simp only [Act.put] | simp only [List.setIfInBounds_toArray] | simp only [List.set_cons_zero] | simp only [List.set_cons_succ])
    refine wpAnyH_take (i := 8) (v := ?_) rfl (by kernel_rfl) (by kernel_rfl) (by kernel_rfl) (fun _ _ _ h => h) (Or.inl ⟨by rfl, ?_⟩) (by assumption) ?_
    rotate_left
    · intro w0 hS0
      obtain ⟨s0, s1, s2⟩ := hS0
      go_simp
      try rfl
    repeat (first | simp only [Act.put] | simp only [List.setIfInBounds_toArray] | simp only [List.set_cons_zero] | simp only [List.set_cons_succ])
    refine wpAnyH_take (i := 9) (v := undef) rfl (by kernel_rfl) (by kernel_rfl) (by kernel_rfl) (fun _ _ _ h => h) (Or.inr ⟨by kernel_rfl, rfl⟩) (by assumption) ?_
    repeat (first | simp only [Act.put] | simp only [List.setIfInBounds_toArray] | simp only [List.set_cons_zero] | simp only [List.set_cons_succ])
    refine wpAnyH_take (i := 10) (v := undef) rfl (by kernel_rfl) (by kernel_rfl) (by kernel_rfl) (fun _ _ _ h => h) (Or.inr ⟨by kernel_rfl, rfl⟩) (by assumption) ?_
    repeat (first | simp only [Act.put] | simp only [List.setIfInBounds_toArray] | simp only [List.set_cons_zero] | simp only [List.set_cons_succ])
    refine wpAnyH_take (i := 11) (v := undef) rfl (by kernel_rfl) (by kernel_rfl) (by kernel_rfl) (fun _ _ _ h => h) (Or.inr ⟨by kernel_rfl, rfl⟩) (by assumption) ?_
    repeat (first | simp only [Act.put] | simp only [List.setIfInBounds_toArray] | simp only [List.set_cons_zero] | simp only [List.set_cons_succ])
    refine wpAnyH_take (i := 12) (v := ?_) rfl (by kernel_rfl) (by kernel_rfl) (by kernel_rfl) (fun _ _ _ h => h) (Or.inl ⟨by rfl, ?_⟩) (by assumption) ?_
    rotate_left
    · intro w0 hS0
      obtain ⟨s0, s1, s2⟩ := hS0
      go_simp
      try rfl
    repeat (first | simp only [Act.put] | simp only [List.setIfInBounds_toArray] | simp only [List.set_cons_zero] | simp only [List.set_cons_succ])
    refine wpAnyH_take (i := 13) (v := ?_) rfl (by kernel_rfl) (by kernel_rfl) (by kernel_rfl) (fun _ _ _ h => h) (Or.inl ⟨by rfl, ?_⟩) (by assumption) ?_
    rotate_left
    · intro w0 hS0
      obtain ⟨s0, s1, s2⟩ := hS0
      go_simp
      try rfl
    repeat (first | simp only [Act.put] | simp only [List.setIfInBounds_toArray] | simp only [List.set_cons_zero] | simp only [List.set_cons_succ])
    refine wpAnyH_take (i := 14) (v := undef) rfl (by kernel_rfl) (by kernel_rfl) (by kernel_rfl) (fun _ _ _ h => h) (Or.inr ⟨by kernel_rfl, rfl⟩) (by assumption) ?_
    repeat (first | simp only [Act.put] | simp only [List.setIfInBounds_toArray] | simp only [List.set_cons_zero] | simp only [List.set_cons_succ])
    refine wpAnyH_take (i := 15) (v := undef) rfl (by kernel_rfl) (by kernel_rfl) (by kernel_rfl) (fun _ _ _ h => h) (Or.inr ⟨by kernel_rfl, rfl⟩) (by assumption) ?_
    repeat (first | simp only [Act.put] | simp only [List.setIfInBounds_toArray] | simp only [List.set_cons_zero] | simp only [List.set_cons_succ])
    refine wpAnyH_take (i := 16) (v := undef) rfl (by kernel_rfl) (by kernel_rfl) (by kernel_rfl) (fun _ _ _ h => h) (Or.inr ⟨by kernel_rfl, rfl⟩) (by assumption) ?_
    repeat (first | simp only [Act.put] | simp only [List.setIfInBounds_toArray] | simp only [List.set_cons_zero] | simp only [List.set_cons_succ])
    refine wpAnyH_take (i := 17) (v := ?_) rfl (by kernel_rfl) (by kernel_rfl) (by kernel_rfl) (fun _ _ _ h => h) (Or.inl ⟨by rfl, ?_⟩) (by assumption) ?_
    rotate_left
    · intro w0 hS0
      obtain ⟨s0, s1, s2⟩ := hS0
      go_simp
      try rfl
    repeat (first | simp only [Act.put] | simp only [List.setIfInBounds_toArray] | simp only [List.set_cons_zero] | simp only [List.set_cons_succ])
    refine wpAnyH_ready (rs := [18]) (by kernel_rfl) (by simp) ?_
    refine AllReadyH.cons rfl (fun K' hK' => ?_) AllReadyH.nil
    go_simp
    refine hK'.out _ _ ?_ (fun hS2 => ?_)
    · exact ⟨(set3_far W1 w.heap.size P 0 _ _ _ hne2).trans q0, (set3_far W1 w.heap.size P 1 _ _ _ hne2).trans q1, (set3_far W1 w.heap.size P 2 _ _ _ hne2).trans q2⟩
    clear hK'
    refine wpAnyH_take (i := 19) (v := ?_) rfl (by kernel_rfl) (by kernel_rfl) (by kernel_rfl) (fun _ _ _ h => h) (Or.inl ⟨by rfl, ?_⟩) (by assumption) ?_
    rotate_left
    · intro w0 hS0
      go_simp
      try rfl
    refine wpAnyH_done (by kernel_rfl) ?_ _
    have b0 := World.cell?_setCell_same W1 ⟨w.heap.size, 0, none⟩ (.int .i64 K) r0
    have b1 := World.cell?_setCell_same (W1.setCell ⟨w.heap.size, 0, none⟩ (.int .i64 K)) ⟨w.heap.size, 1, none⟩ (.int .i64 U) ((World.cell?_setCell_other _ _ _ _ (by simp)).trans r1)
    have b2 := World.cell?_setCell_same ((W1.setCell ⟨w.heap.size, 0, none⟩ (.int .i64 K)).setCell ⟨w.heap.size, 1, none⟩ (.int .i64 U)) ⟨w.heap.size, 2, none⟩ (.string g) ((World.cell?_setCell_other _ _ _ _ (by simp)).trans ((World.cell?_setCell_other _ _ _ _ (by simp)).trans r2))
    go_wp2
    refine bodyPost_ret (v := .tuple #[.agg #[.int .i64 K, .int .i64 U, .string g], .bool false]) (by simp [results, Tryz.results180, go_sem, b0, b1, b2]) rfl ⟨⟨_, rfl, ?_⟩, ((((HB3.out).setCell (by simp) _).setCell (by simp) _).setCell (by simp) _).drew⟩
    exact HH.out
  · refine wp_region_held_drew (S := fun w' : World => w'.cell? ⟨P, 0, none⟩ = some (.int .i64 K) ∧ w'.cell? ⟨P, 1, none⟩ = some (.int .i64 U) ∧ w'.cell? ⟨P, 2, none⟩ = some (.string g)) (by kernel_rfl) ⟨q0, q1, q2⟩ (fun hSd => ?_)
    refine wpAnyH_take (i := 0) (v := ?_) rfl (by kernel_rfl) (by kernel_rfl) (by kernel_rfl) (fun _ _ _ h => h) (Or.inl ⟨by rfl, ?_⟩) (by assumption) ?_
    rotate_left
    · intro w0 hS0
      obtain ⟨s0, s1, s2⟩ := hS0
      go_simp
      try rfl
    repeat (first | simp only [Act.put] | simp only [List.setIfInBounds_toArray] | simp only [List.set_cons_zero] | simp only [List.set_cons_succ])
    refine wpAnyH_take (i := 1) (v := ?_) rfl (by kernel_rfl) (by kernel_rfl) (by kernel_rfl) (fun _ _ _ h => h) (Or.inl ⟨by rfl, ?_⟩) (by assumption) ?_
    rotate_left
    · intro w0 hS0
      obtain ⟨s0, s1, s2⟩ := hS0
      go_simp
      try rfl
    repeat (first | simp only [Act.put] | simp only [List.setIfInBounds_toArray] | simp only [List.set_cons_zero] | simp only [List.set_cons_succ])
    refine wpAnyH_take (i := 2) (v := ?_) rfl (by kernel_rfl) (by kernel_rfl) (by kernel_rfl) (fun _ _ _ h => h) (Or.inl ⟨by rfl, ?_⟩) (by assumption) ?_
    rotate_left
    · intro w0 hS0
      obtain ⟨s0, s1, s2⟩ := hS0
      go_simp
      try rfl
    repeat (first | simp only [Act.put] | simp only [List.setIfInBounds_toArray] | simp only [List.set_cons_zero] | simp only [List.set_cons_succ])
    refine wpAnyH_take (i := 3) (v := ?_) rfl (by kernel_rfl) (by kernel_rfl) (by kernel_rfl) (fun _ _ _ h => h) (Or.inl ⟨by kernel_rfl, ?_⟩) (by assumption) ?_
    rotate_left
    · intro w0 hS0
      obtain ⟨s0, s1, s2⟩ := hS0
      go_simp
      try rfl
    repeat (first | simp only [Act.put] | simp only [List.setIfInBounds_toArray] | simp only [List.set_cons_zero] | simp only [List.set_cons_succ])
    refine wpAnyH_take (i := 4) (v := ?_) rfl (by kernel_rfl) (by kernel_rfl) (by kernel_rfl) (fun _ _ _ h => h) (Or.inl ⟨by rfl, ?_⟩) (by assumption) ?_
    rotate_left
    · intro w0 hS0
      obtain ⟨s0, s1, s2⟩ := hS0
      go_simp
      try rfl
    repeat (first | simp only [Act.put] | simp only [List.setIfInBounds_toArray] | simp only [List.set_cons_zero] | simp only [List.set_cons_succ])
    refine wpAnyH_take (i := 5) (v := ?_) rfl (by kernel_rfl) (by kernel_rfl) (by kernel_rfl) (fun _ _ _ h => h) (Or.inl ⟨by rfl, ?_⟩) (by assumption) ?_
    rotate_left
    · intro w0 hS0
      obtain ⟨s0, s1, s2⟩ := hS0
      go_simp
      try rfl
    repeat (first | simp only [Act.put] | simp only [List.setIfInBounds_toArray] | simp only [List.set_cons_zero] | simp only [List.set_cons_succ])
    refine wpAnyH_take (i := 6) (v := ?_) rfl (by kernel_rfl) (by kernel_rfl) (by kernel_rfl) (fun _ _ _ h => h) (Or.inl ⟨by kernel_rfl, ?_⟩) (by assumption) ?_
    rotate_left
    · intro w0 hS0
      obtain ⟨s0, s1, s2⟩ := hS0
      go_simp
      try rfl
    repeat (first | simp only [Act.put] | simp only [List.setIfInBounds_toArray] | simp only [List.set_cons_zero] | simp only [List.set_cons_succ])
    refine wpAnyH_take (i := 7) (v := ?_) rfl (by kernel_rfl) (by kernel_rfl) (by kernel_rfl) (fun _ _ _ h => h) (Or.inl ⟨by rfl, ?_⟩) (by assumption) ?_
    rotate_left
    · intro w0 hS0
      obtain ⟨s0, s1, s2⟩ := hS0
      go_simp
      try rfl
    repeat (first | simp only [Act.put] | simp only [List.setIfInBounds_toArray] | simp only [List.set_cons_zero] | simp only [List.set_cons_succ])
    refine wpAnyH_take (i := 8) (v := ?_) rfl (by kernel_rfl) (by kernel_rfl) (by kernel_rfl) (fun _ _ _ h => h) (Or.inl ⟨by rfl, ?_⟩) (by assumption) ?_
    rotate_left
    · intro w0 hS0
      obtain ⟨s0, s1, s2⟩ := hS0
      go_simp
      try rfl
    repeat (first | simp only [Act.put] | simp only [List.setIfInBounds_toArray] | simp only [List.set_cons_zero] | simp only [List.set_cons_succ])
    refine wpAnyH_take (i := 9) (v := undef) rfl (by kernel_rfl) (by kernel_rfl) (by kernel_rfl) (fun _ _ _ h => h) (Or.inr ⟨by kernel_rfl, rfl⟩) (by assumption) ?_
    repeat (first | simp only [Act.put] | simp only [List.setIfInBounds_toArray] | simp only [List.set_cons_zero] | simp only [List.set_cons_succ])
    refine wpAnyH_take (i := 10) (v := undef) rfl (by kernel_rfl) (by kernel_rfl) (by kernel_rfl) (fun _ _ _ h => h) (Or.inr ⟨by kernel_rfl, rfl⟩) (by assumption) ?_
    repeat (first | simp only [Act.put] | simp only [List.setIfInBounds_toArray] | simp only [List.set_cons_zero] | simp only [List.set_cons_succ])
    refine wpAnyH_take (i := 11) (v := undef) rfl (by kernel_rfl) (by kernel_rfl) (by kernel_rfl) (fun _ _ _ h => h) (Or.inr ⟨by kernel_rfl, rfl⟩) (by assumption) ?_
    repeat (first | simp only [Act.put] | simp only [List.setIfInBounds_toArray] | simp only [List.set_cons_zero] | simp only [List.set_cons_succ])
    refine wpAnyH_take (i := 12) (v := ?_) rfl (by kernel_rfl) (by kernel_rfl) (by kernel_rfl) (fun _ _ _ h => h) (Or.inl ⟨by rfl, ?_⟩) (by assumption) ?_
    rotate_left
    · intro w0 hS0
      obtain ⟨s0, s1, s2⟩ := hS0
      go_simp
      try rfl
    repeat (first | simp only [Act.put] | simp only [List.setIfInBounds_toArray] | simp only [List.set_cons_zero] | simp only [List.set_cons_succ])
    refine wpAnyH_take (i := 13) (v := ?_) rfl (by kernel_rfl) (by kernel_rfl) (by kernel_rfl) (fun _ _ _ h => h) (Or.inl ⟨by rfl, ?_⟩) (by assumption) ?_
    rotate_left
    · intro w0 hS0
      obtain ⟨s0, s1, s2⟩ := hS0
      go_simp
      try rfl
    repeat (first | simp only [Act.put] | simp only [List.setIfInBounds_toArray] | simp only [List.set_cons_zero] | simp only [List.set_cons_succ])
    refine wpAnyH_take (i := 14) (v := undef) rfl (by kernel_rfl) (by kernel_rfl) (by kernel_rfl) (fun _ _ _ h => h) (Or.inr ⟨by kernel_rfl, rfl⟩) (by assumption) ?_
    repeat (first | simp only [Act.put] | simp only [List.setIfInBounds_toArray] | simp only [List.set_cons_zero] | simp only [List.set_cons_succ])
    refine wpAnyH_take (i := 15) (v := undef) rfl (by kernel_rfl) (by kernel_rfl) (by kernel_rfl) (fun _ _ _ h => h) (Or.inr ⟨by kernel_rfl, rfl⟩) (by assumption) ?_
    repeat (first | simp only [Act.put] | simp only [List.setIfInBounds_toArray] | simp only [List.set_cons_zero] | simp only [List.set_cons_succ])
    refine wpAnyH_take (i := 16) (v := undef) rfl (by kernel_rfl) (by kernel_rfl) (by kernel_rfl) (fun _ _ _ h => h) (Or.inr ⟨by kernel_rfl, rfl⟩) (by assumption) ?_
    repeat (first | simp only [Act.put] | simp only [List.setIfInBounds_toArray] | simp only [List.set_cons_zero] | simp only [List.set_cons_succ])
    refine wpAnyH_take (i := 17) (v := ?_) rfl (by kernel_rfl) (by kernel_rfl) (by kernel_rfl) (fun _ _ _ h => h) (Or.inl ⟨by rfl, ?_⟩) (by assumption) ?_
    rotate_left
    · intro w0 hS0
      obtain ⟨s0, s1, s2⟩ := hS0
      go_simp
      try rfl
    repeat (first | simp only [Act.put] | simp only [List.setIfInBounds_toArray] | simp only [List.set_cons_zero] | simp only [List.set_cons_succ])
    refine wpAnyH_ready (rs := [18]) (by kernel_rfl) (by simp) ?_
    refine AllReadyH.cons rfl (fun K' hK' => ?_) AllReadyH.nil
    go_simp
    refine hK'.out _ _ ?_ (fun hS2 => ?_)
    · exact ⟨(set3_far W1 w.heap.size P 0 _ _ _ hne2).trans q0, (set3_far W1 w.heap.size P 1 _ _ _ hne2).trans q1, (set3_far W1 w.heap.size P 2 _ _ _ hne2).trans q2⟩
    clear hK'
    refine wpAnyH_take (i := 19) (v := ?_) rfl (by kernel_rfl) (by kernel_rfl) (by kernel_rfl) (fun _ _ _ h => h) (Or.inl ⟨by rfl, ?_⟩) (by assumption) ?_
    rotate_left
    · intro w0 hS0
      go_simp
      try rfl
    refine wpAnyH_done (by kernel_rfl) ?_ _
    have b0 := World.cell?_setCell_same W1 ⟨w.heap.size, 0, none⟩ (.int .i64 K) r0
    have b1 := World.cell?_setCell_same (W1.setCell ⟨w.heap.size, 0, none⟩ (.int .i64 K)) ⟨w.heap.size, 1, none⟩ (.int .i64 U) ((World.cell?_setCell_other _ _ _ _ (by simp)).trans r1)
    have b2 := World.cell?_setCell_same ((W1.setCell ⟨w.heap.size, 0, none⟩ (.int .i64 K)).setCell ⟨w.heap.size, 1, none⟩ (.int .i64 U)) ⟨w.heap.size, 2, none⟩ (.string g) ((World.cell?_setCell_other _ _ _ _ (by simp)).trans ((World.cell?_setCell_other _ _ _ _ (by simp)).trans r2))
    go_wp2
    refine bodyPost_ret (v := .tuple #[.agg #[.int .i64 K, .int .i64 U, .string g], .bool false]) (by simp [results, Tryz.results180, go_sem, b0, b1, b2]) rfl ⟨⟨_, rfl, ?_⟩, ((((HB3.out).setCell (by simp) _).setCell (by simp) _).setCell (by simp) _).drew⟩
    exact HH.out
  · have hKn : ¬ 0 ≤ K := by omega
    clear hK
    refine wp_region_held_drew (S := fun w' : World => w'.cell? ⟨P, 0, none⟩ = some (.int .i64 K) ∧ w'.cell? ⟨P, 1, none⟩ = some (.int .i64 U) ∧ w'.cell? ⟨P, 2, none⟩ = some (.string g)) (by kernel_rfl) ⟨q0, q1, q2⟩ (fun hSd => ?_)
    refine wpAnyH_take (i := 0) (v := ?_) rfl (by kernel_rfl) (by kernel_rfl) (by kernel_rfl) (fun _ _ _ h => h) (Or.inl ⟨by rfl, ?_⟩) (by assumption) ?_
    rotate_left
    · intro w0 hS0
      obtain ⟨s0, s1, s2⟩ := hS0
      go_simp
      try rfl
    repeat (first | simp only [Act.put] | simp only [List.setIfInBounds_toArray] | simp only [List.set_cons_zero] | simp only [List.set_cons_succ])
    refine wpAnyH_take (i := 1) (v := ?_) rfl (by kernel_rfl) (by kernel_rfl) (by kernel_rfl) (fun _ _ _ h => h) (Or.inl ⟨by rfl, ?_⟩) (by assumption) ?_
    rotate_left
    · intro w0 hS0
      obtain ⟨s0, s1, s2⟩ := hS0
      go_simp
      try rfl
    repeat (first | simp only [Act.put] | simp only [List.setIfInBounds_toArray] | simp only [List.set_cons_zero] | simp only [List.set_cons_succ])
    refine wpAnyH_take (i := 2) (v := ?_) rfl (by kernel_rfl) (by kernel_rfl) (by kernel_rfl) (fun _ _ _ h => h) (Or.inl ⟨by rfl, ?_⟩) (by assumption) ?_
    rotate_left
    · intro w0 hS0
      obtain ⟨s0, s1, s2⟩ := hS0
      go_simp
      try rfl
    repeat (first | simp only [Act.put] | simp only [List.setIfInBounds_toArray] | simp only [List.set_cons_zero] | simp only [List.set_cons_succ])
    refine wpAnyH_take (i := 3) (v := ?_) rfl (by kernel_rfl) (by kernel_rfl) (by kernel_rfl) (fun _ _ _ h => h) (Or.inl ⟨by kernel_rfl, ?_⟩) (by assumption) ?_
    rotate_left
    · intro w0 hS0
      obtain ⟨s0, s1, s2⟩ := hS0
      go_simp
      try rfl
    repeat (first | simp only [Act.put] | simp only [List.setIfInBounds_toArray] | simp only [List.set_cons_zero] | simp only [List.set_cons_succ])
    refine wpAnyH_take (i := 4) (v := ?_) rfl (by kernel_rfl) (by kernel_rfl) (by kernel_rfl) (fun _ _ _ h => h) (Or.inl ⟨by rfl, ?_⟩) (by assumption) ?_
    rotate_left
    · intro w0 hS0
      obtain ⟨s0, s1, s2⟩ := hS0
      go_simp
      try rfl
    repeat (first | simp only [Act.put] | simp only [List.setIfInBounds_toArray] | simp only [List.set_cons_zero] | simp only [List.set_cons_succ])
    refine wpAnyH_take (i := 5) (v := ?_) rfl (by kernel_rfl) (by kernel_rfl) (by kernel_rfl) (fun _ _ _ h => h) (Or.inl ⟨by rfl, ?_⟩) (by assumption) ?_
    rotate_left
    · intro w0 hS0
      obtain ⟨s0, s1, s2⟩ := hS0
      go_simp
      try rfl
    repeat (first | simp only [Act.put] | simp only [List.setIfInBounds_toArray] | simp only [List.set_cons_zero] | simp only [List.set_cons_succ])
    refine wpAnyH_take (i := 6) (v := ?_) rfl (by kernel_rfl) (by kernel_rfl) (by kernel_rfl) (fun _ _ _ h => h) (Or.inl ⟨by kernel_rfl, ?_⟩) (by assumption) ?_
    rotate_left
    · intro w0 hS0
      obtain ⟨s0, s1, s2⟩ := hS0
      go_simp
      try rfl
    repeat (first | simp only [Act.put] | simp only [List.setIfInBounds_toArray] | simp only [List.set_cons_zero] | simp only [List.set_cons_succ])
    refine wpAnyH_take (i := 7) (v := ?_) rfl (by kernel_rfl) (by kernel_rfl) (by kernel_rfl) (fun _ _ _ h => h) (Or.inl ⟨by rfl, ?_⟩) (by assumption) ?_
    rotate_left
    · intro w0 hS0
      obtain ⟨s0, s1, s2⟩ := hS0
      go_simp
      try rfl
    repeat (first | simp only [Act.put] | simp only [List.setIfInBounds_toArray] | simp only [List.set_cons_zero] | simp only [List.set_cons_succ])
    refine wpAnyH_take (i := 8) (v := ?_) rfl (by kernel_rfl) (by kernel_rfl) (by kernel_rfl) (fun _ _ _ h => h) (Or.inl ⟨by rfl, ?_⟩) (by assumption) ?_
    rotate_left
    · intro w0 hS0
      obtain ⟨s0, s1, s2⟩ := hS0
      go_simp
      try rfl
    repeat (first | simp only [Act.put] | simp only [List.setIfInBounds_toArray] | simp only [List.set_cons_zero] | simp only [List.set_cons_succ])
    refine wpAnyH_take (i := 9) (v := ?_) rfl (by kernel_rfl) (by kernel_rfl) (by kernel_rfl) (fun _ _ _ h => h) (Or.inl ⟨by kernel_rfl, ?_⟩) (by assumption) ?_
    rotate_left
    · intro w0 hS0
      obtain ⟨s0, s1, s2⟩ := hS0
      go_simp
      try rfl
    repeat (first | simp only [Act.put] | simp only [List.setIfInBounds_toArray] | simp only [List.set_cons_zero] | simp only [List.set_cons_succ])
    refine wpAnyH_take (i := 10) (v := ?_) rfl (by kernel_rfl) (by kernel_rfl) (by kernel_rfl) (fun _ _ _ h => h) (Or.inl ⟨by kernel_rfl, ?_⟩) (by assumption) ?_
    rotate_left
    · intro w0 hS0
      obtain ⟨s0, s1, s2⟩ := hS0
      go_simp
      try rfl
    repeat (first | simp only [Act.put] | simp only [List.setIfInBounds_toArray] | simp only [List.set_cons_zero] | simp only [List.set_cons_succ])
    refine wpAnyH_take (i := 11) (v := .bool false) rfl (by kernel_rfl) (by kernel_rfl) (by kernel_rfl) (fun _ _ _ h => h) (Or.inl ⟨by kernel_rfl, ?_⟩) (by assumption) ?_
    · intro w0 hS0
      obtain ⟨s0, s1, s2⟩ := hS0
      go_simp
      try rfl
    repeat (first | simp only [Act.put] | simp only [List.setIfInBounds_toArray] | simp only [List.set_cons_zero] | simp only [List.set_cons_succ])
    refine wpAnyH_take (i := 12) (v := ?_) rfl (by kernel_rfl) (by kernel_rfl) (by kernel_rfl) (fun _ _ _ h => h) (Or.inl ⟨by rfl, ?_⟩) (by assumption) ?_
    rotate_left
    · intro w0 hS0
      obtain ⟨s0, s1, s2⟩ := hS0
      go_simp
      try rfl
    repeat (first | simp only [Act.put] | simp only [List.setIfInBounds_toArray] | simp only [List.set_cons_zero] | simp only [List.set_cons_succ])
    refine wpAnyH_take (i := 13) (v := ?_) rfl (by kernel_rfl) (by kernel_rfl) (by kernel_rfl) (fun _ _ _ h => h) (Or.inl ⟨by rfl, ?_⟩) (by assumption) ?_
    rotate_left
    · intro w0 hS0
      obtain ⟨s0, s1, s2⟩ := hS0
      go_simp
      try rfl
    repeat (first | simp only [Act.put] | simp only [List.setIfInBounds_toArray] | simp only [List.set_cons_zero] | simp only [List.set_cons_succ])
    refine wpAnyH_take (i := 14) (v := undef) rfl (by kernel_rfl) (by kernel_rfl) (by kernel_rfl) (fun _ _ _ h => h) (Or.inr ⟨by kernel_rfl, rfl⟩) (by assumption) ?_
    repeat (first | simp only [Act.put] | simp only [List.setIfInBounds_toArray] | simp only [List.set_cons_zero] | simp only [List.set_cons_succ])
    refine wpAnyH_take (i := 15) (v := undef) rfl (by kernel_rfl) (by kernel_rfl) (by kernel_rfl) (fun _ _ _ h => h) (Or.inr ⟨by kernel_rfl, rfl⟩) (by assumption) ?_
    repeat (first | simp only [Act.put] | simp only [List.setIfInBounds_toArray] | simp only [List.set_cons_zero] | simp only [List.set_cons_succ])
    refine wpAnyH_take (i := 16) (v := undef) rfl (by kernel_rfl) (by kernel_rfl) (by kernel_rfl) (fun _ _ _ h => h) (Or.inr ⟨by kernel_rfl, rfl⟩) (by assumption) ?_
    repeat (first | simp only [Act.put] | simp only [List.setIfInBounds_toArray] | simp only [List.set_cons_zero] | simp only [List.set_cons_succ])
    refine wpAnyH_take (i := 17) (v := ?_) rfl (by kernel_rfl) (by kernel_rfl) (by kernel_rfl) (fun _ _ _ h => h) (Or.inl ⟨by rfl, ?_⟩) (by assumption) ?_
    rotate_left
    · intro w0 hS0
      obtain ⟨s0, s1, s2⟩ := hS0
      go_simp
      try rfl
    repeat (first | simp only [Act.put] | simp only [List.setIfInBounds_toArray] | simp only [List.set_cons_zero] | simp only [List.set_cons_succ])
    refine wpAnyH_ready (rs := [18]) (by kernel_rfl) (by simp) ?_
    refine AllReadyH.cons rfl (fun K' hK' => ?_) AllReadyH.nil
    go_simp
    refine hK'.out _ _ ?_ (fun hS2 => ?_)
    · exact ⟨(set3_far W1 w.heap.size P 0 _ _ _ hne2).trans q0, (set3_far W1 w.heap.size P 1 _ _ _ hne2).trans q1, (set3_far W1 w.heap.size P 2 _ _ _ hne2).trans q2⟩
    clear hK'
    refine wpAnyH_take (i := 19) (v := ?_) rfl (by kernel_rfl) (by kernel_rfl) (by kernel_rfl) (fun _ _ _ h => h) (Or.inl ⟨by rfl, ?_⟩) (by assumption) ?_
    rotate_left
    · intro w0 hS0
      go_simp
      try rfl
    refine wpAnyH_done (by kernel_rfl) ?_ _
    have b0 := World.cell?_setCell_same W1 ⟨w.heap.size, 0, none⟩ (.int .i64 K) r0
    have b1 := World.cell?_setCell_same (W1.setCell ⟨w.heap.size, 0, none⟩ (.int .i64 K)) ⟨w.heap.size, 1, none⟩ (.int .i64 U) ((World.cell?_setCell_other _ _ _ _ (by simp)).trans r1)
    have b2 := World.cell?_setCell_same ((W1.setCell ⟨w.heap.size, 0, none⟩ (.int .i64 K)).setCell ⟨w.heap.size, 1, none⟩ (.int .i64 U)) ⟨w.heap.size, 2, none⟩ (.string g) ((World.cell?_setCell_other _ _ _ _ (by simp)).trans ((World.cell?_setCell_other _ _ _ _ (by simp)).trans r2))
    go_wp2
    refine bodyPost_ret (v := .tuple #[.agg #[.int .i64 K, .int .i64 U, .string g], .bool false]) (by simp [results, Tryz.results180, go_sem, b0, b1, b2]) rfl ⟨⟨_, rfl, ?_⟩, ((((HB3.out).setCell (by simp) _).setCell (by simp) _).setCell (by simp) _).drew⟩
    have h := HH.out
    have e : decide (0 ≤ K) = false := by simpa using hKn
    rw [e] at h
    exact h
  · have hUn : ¬ 0 ≤ U := by omega
    clear hU
    refine wp_region_held_drew (S := fun w' : World => w'.cell? ⟨P, 0, none⟩ = some (.int .i64 K) ∧ w'.cell? ⟨P, 1, none⟩ = some (.int .i64 U) ∧ w'.cell? ⟨P, 2, none⟩ = some (.string g)) (by kernel_rfl) ⟨q0, q1, q2⟩ (fun hSd => ?_)
    refine wpAnyH_take (i := 0) (v := ?_) rfl (by kernel_rfl) (by kernel_rfl) (by kernel_rfl) (fun _ _ _ h => h) (Or.inl ⟨by rfl, ?_⟩) (by assumption) ?_
    rotate_left
    · intro w0 hS0
      obtain ⟨s0, s1, s2⟩ := hS0
      go_simp
      try rfl
    repeat (first | simp only [Act.put] | simp only [List.setIfInBounds_toArray] | simp only [List.set_cons_zero] | simp only [List.set_cons_succ])
    refine wpAnyH_take (i := 1) (v := ?_) rfl (by kernel_rfl) (by kernel_rfl) (by kernel_rfl) (fun _ _ _ h => h) (Or.inl ⟨by rfl, ?_⟩) (by assumption) ?_
    rotate_left
    · intro w0 hS0
      obtain ⟨s0, s1, s2⟩ := hS0
      go_simp
      try rfl
    repeat (first | simp only [Act.put] | simp only [List.setIfInBounds_toArray] | simp only [List.set_cons_zero] | simp only [List.set_cons_succ])
    refine wpAnyH_take (i := 2) (v := ?_) rfl (by kernel_rfl) (by kernel_rfl) (by kernel_rfl) (fun _ _ _ h => h) (Or.inl ⟨by rfl, ?_⟩) (by assumption) ?_
    rotate_left
    · intro w0 hS0
      obtain ⟨s0, s1, s2⟩ := hS0
      go_simp
      try rfl
    repeat (first | simp only [Act.put] | simp only [List.setIfInBounds_toArray] | simp only [List.set_cons_zero] | simp only [List.set_cons_succ])
    refine wpAnyH_take (i := 3) (v := ?_) rfl (by kernel_rfl) (by kernel_rfl) (by kernel_rfl) (fun _ _ _ h => h) (Or.inl ⟨by kernel_rfl, ?_⟩) (by assumption) ?_
    rotate_left
    · intro w0 hS0
      obtain ⟨s0, s1, s2⟩ := hS0
      go_simp
      try rfl
    repeat (first | simp only [Act.put] | simp only [List.setIfInBounds_toArray] | simp only [List.set_cons_zero] | simp only [List.set_cons_succ])
    refine wpAnyH_take (i := 4) (v := ?_) rfl (by kernel_rfl) (by kernel_rfl) (by kernel_rfl) (fun _ _ _ h => h) (Or.inl ⟨by rfl, ?_⟩) (by assumption) ?_
    rotate_left
    · intro w0 hS0
      obtain ⟨s0, s1, s2⟩ := hS0
      go_simp
      try rfl
    repeat (first | simp only [Act.put] | simp only [List.setIfInBounds_toArray] | simp only [List.set_cons_zero] | simp only [List.set_cons_succ])
    refine wpAnyH_take (i := 5) (v := ?_) rfl (by kernel_rfl) (by kernel_rfl) (by kernel_rfl) (fun _ _ _ h => h) (Or.inl ⟨by rfl, ?_⟩) (by assumption) ?_
    rotate_left
    · intro w0 hS0
      obtain ⟨s0, s1, s2⟩ := hS0
      go_simp
      try rfl
    repeat (first | simp only [Act.put] | simp only [List.setIfInBounds_toArray] | simp only [List.set_cons_zero] | simp only [List.set_cons_succ])
    refine wpAnyH_take (i := 6) (v := ?_) rfl (by kernel_rfl) (by kernel_rfl) (by kernel_rfl) (fun _ _ _ h => h) (Or.inl ⟨by kernel_rfl, ?_⟩) (by assumption) ?_
    rotate_left
    · intro w0 hS0
      obtain ⟨s0, s1, s2⟩ := hS0
      go_simp
      try rfl
    repeat (first | simp only [Act.put] | simp only [List.setIfInBounds_toArray] | simp only [List.set_cons_zero] | simp only [List.set_cons_succ])
    refine wpAnyH_take (i := 7) (v := ?_) rfl (by kernel_rfl) (by kernel_rfl) (by kernel_rfl) (fun _ _ _ h => h) (Or.inl ⟨by rfl, ?_⟩) (by assumption) ?_
    rotate_left
    · intro w0 hS0
      obtain ⟨s0, s1, s2⟩ := hS0
      go_simp
      try rfl
    repeat (first | simp only [Act.put] | simp only [List.setIfInBounds_toArray] | simp only [List.set_cons_zero] | simp only [List.set_cons_succ])
    refine wpAnyH_take (i := 8) (v := ?_) rfl (by kernel_rfl) (by kernel_rfl) (by kernel_rfl) (fun _ _ _ h => h) (Or.inl ⟨by rfl, ?_⟩) (by assumption) ?_
    rotate_left
    · intro w0 hS0
      obtain ⟨s0, s1, s2⟩ := hS0
      go_simp
      try rfl
    repeat (first | simp only [Act.put] | simp only [List.setIfInBounds_toArray] | simp only [List.set_cons_zero] | simp only [List.set_cons_succ])
    refine wpAnyH_take (i := 9) (v := ?_) rfl (by kernel_rfl) (by kernel_rfl) (by kernel_rfl) (fun _ _ _ h => h) (Or.inl ⟨by kernel_rfl, ?_⟩) (by assumption) ?_
    rotate_left
    · intro w0 hS0
      obtain ⟨s0, s1, s2⟩ := hS0
      go_simp
      try rfl
    repeat (first | simp only [Act.put] | simp only [List.setIfInBounds_toArray] | simp only [List.set_cons_zero] | simp only [List.set_cons_succ])
    refine wpAnyH_take (i := 10) (v := ?_) rfl (by kernel_rfl) (by kernel_rfl) (by kernel_rfl) (fun _ _ _ h => h) (Or.inl ⟨by kernel_rfl, ?_⟩) (by assumption) ?_
    rotate_left
    · intro w0 hS0
      obtain ⟨s0, s1, s2⟩ := hS0
      go_simp
      try rfl
    repeat (first | simp only [Act.put] | simp only [List.setIfInBounds_toArray] | simp only [List.set_cons_zero] | simp only [List.set_cons_succ])
    refine wpAnyH_take (i := 11) (v := .bool true) rfl (by kernel_rfl) (by kernel_rfl) (by kernel_rfl) (fun _ _ _ h => h) (Or.inl ⟨by kernel_rfl, ?_⟩) (by assumption) ?_
    · intro w0 hS0
      obtain ⟨s0, s1, s2⟩ := hS0
      go_simp
      try rfl
    repeat (first | simp only [Act.put] | simp only [List.setIfInBounds_toArray] | simp only [List.set_cons_zero] | simp only [List.set_cons_succ])
    refine wpAnyH_take (i := 12) (v := ?_) rfl (by kernel_rfl) (by kernel_rfl) (by kernel_rfl) (fun _ _ _ h => h) (Or.inl ⟨by rfl, ?_⟩) (by assumption) ?_
    rotate_left
    · intro w0 hS0
      obtain ⟨s0, s1, s2⟩ := hS0
      go_simp
      try rfl
    repeat (first | simp only [Act.put] | simp only [List.setIfInBounds_toArray] | simp only [List.set_cons_zero] | simp only [List.set_cons_succ])
    refine wpAnyH_take (i := 13) (v := ?_) rfl (by kernel_rfl) (by kernel_rfl) (by kernel_rfl) (fun _ _ _ h => h) (Or.inl ⟨by rfl, ?_⟩) (by assumption) ?_
    rotate_left
    · intro w0 hS0
      obtain ⟨s0, s1, s2⟩ := hS0
      go_simp
      try rfl
    repeat (first | simp only [Act.put] | simp only [List.setIfInBounds_toArray] | simp only [List.set_cons_zero] | simp only [List.set_cons_succ])
    refine wpAnyH_take (i := 14) (v := ?_) rfl (by kernel_rfl) (by kernel_rfl) (by kernel_rfl) (fun _ _ _ h => h) (Or.inl ⟨by kernel_rfl, ?_⟩) (by assumption) ?_
    rotate_left
    · intro w0 hS0
      obtain ⟨s0, s1, s2⟩ := hS0
      go_simp
      try rfl
    repeat (first | simp only [Act.put] | simp only [List.setIfInBounds_toArray] | simp only [List.set_cons_zero] | simp only [List.set_cons_succ])
    refine wpAnyH_take (i := 15) (v := ?_) rfl (by kernel_rfl) (by kernel_rfl) (by kernel_rfl) (fun _ _ _ h => h) (Or.inl ⟨by kernel_rfl, ?_⟩) (by assumption) ?_
    rotate_left
    · intro w0 hS0
      obtain ⟨s0, s1, s2⟩ := hS0
      go_simp
      try rfl
    repeat (first | simp only [Act.put] | simp only [List.setIfInBounds_toArray] | simp only [List.set_cons_zero] | simp only [List.set_cons_succ])
    refine wpAnyH_take (i := 16) (v := .bool false) rfl (by kernel_rfl) (by kernel_rfl) (by kernel_rfl) (fun _ _ _ h => h) (Or.inl ⟨by kernel_rfl, ?_⟩) (by assumption) ?_
    · intro w0 hS0
      obtain ⟨s0, s1, s2⟩ := hS0
      go_simp
      try rfl
    repeat (first | simp only [Act.put] | simp only [List.setIfInBounds_toArray] | simp only [List.set_cons_zero] | simp only [List.set_cons_succ])
    refine wpAnyH_take (i := 17) (v := ?_) rfl (by kernel_rfl) (by kernel_rfl) (by kernel_rfl) (fun _ _ _ h => h) (Or.inl ⟨by rfl, ?_⟩) (by assumption) ?_
    rotate_left
    · intro w0 hS0
      obtain ⟨s0, s1, s2⟩ := hS0
      go_simp
      try rfl
    repeat (first | simp only [Act.put] | simp only [List.setIfInBounds_toArray] | simp only [List.set_cons_zero] | simp only [List.set_cons_succ])
    refine wpAnyH_ready (rs := [18]) (by kernel_rfl) (by simp) ?_
    refine AllReadyH.cons rfl (fun K' hK' => ?_) AllReadyH.nil
    go_simp
    refine hK'.out _ _ ?_ (fun hS2 => ?_)
    · exact ⟨(set3_far W1 w.heap.size P 0 _ _ _ hne2).trans q0, (set3_far W1 w.heap.size P 1 _ _ _ hne2).trans q1, (set3_far W1 w.heap.size P 2 _ _ _ hne2).trans q2⟩
    clear hK'
    refine wpAnyH_take (i := 19) (v := ?_) rfl (by kernel_rfl) (by kernel_rfl) (by kernel_rfl) (fun _ _ _ h => h) (Or.inl ⟨by rfl, ?_⟩) (by assumption) ?_
    rotate_left
    · intro w0 hS0
      go_simp
      try rfl
    refine wpAnyH_done (by kernel_rfl) ?_ _
    have b0 := World.cell?_setCell_same W1 ⟨w.heap.size, 0, none⟩ (.int .i64 K) r0
    have b1 := World.cell?_setCell_same (W1.setCell ⟨w.heap.size, 0, none⟩ (.int .i64 K)) ⟨w.heap.size, 1, none⟩ (.int .i64 U) ((World.cell?_setCell_other _ _ _ _ (by simp)).trans r1)
    have b2 := World.cell?_setCell_same ((W1.setCell ⟨w.heap.size, 0, none⟩ (.int .i64 K)).setCell ⟨w.heap.size, 1, none⟩ (.int .i64 U)) ⟨w.heap.size, 2, none⟩ (.string g) ((World.cell?_setCell_other _ _ _ _ (by simp)).trans ((World.cell?_setCell_other _ _ _ _ (by simp)).trans r2))
    go_wp2
    refine bodyPost_ret (v := .tuple #[.agg #[.int .i64 K, .int .i64 U, .string g], .bool false]) (by simp [results, Tryz.results180, go_sem, b0, b1, b2]) rfl ⟨⟨_, rfl, ?_⟩, ((((HB3.out).setCell (by simp) _).setCell (by simp) _).setCell (by simp) _).drew⟩
    have h := HH.out
    have e : decide (0 ≤ K) = true := by simpa using hK
    have e2 : decide (0 ≤ U) = false := by simpa using hUn
    rw [e, e2] at h
    exact h
  · refine wp_region_held_drew (S := fun w' : World => w'.cell? ⟨P, 0, none⟩ = some (.int .i64 K) ∧ w'.cell? ⟨P, 1, none⟩ = some (.int .i64 U) ∧ w'.cell? ⟨P, 2, none⟩ = some (.string g)) (by kernel_rfl) ⟨q0, q1, q2⟩ (fun hSd => ?_)
    refine wpAnyH_take (i := 0) (v := ?_) rfl (by kernel_rfl) (by kernel_rfl) (by kernel_rfl) (fun _ _ _ h => h) (Or.inl ⟨by rfl, ?_⟩) (by assumption) ?_
    rotate_left
    · intro w0 hS0
      obtain ⟨s0, s1, s2⟩ := hS0
      go_simp
      try rfl
    repeat (first | simp only [Act.put] | simp only [List.setIfInBounds_toArray] | simp only [List.set_cons_zero] | simp only [List.set_cons_succ])
    refine wpAnyH_take (i := 1) (v := ?_) rfl (by kernel_rfl) (by kernel_rfl) (by kernel_rfl) (fun _ _ _ h => h) (Or.inl ⟨by rfl, ?_⟩) (by assumption) ?_
    rotate_left
    · intro w0 hS0
      obtain ⟨s0, s1, s2⟩ := hS0
      go_simp
      try rfl
    repeat (first | simp only [Act.put] | simp only [List.setIfInBounds_toArray] | simp only [List.set_cons_zero] | simp only [List.set_cons_succ])
    refine wpAnyH_take (i := 2) (v := ?_) rfl (by kernel_rfl) (by kernel_rfl) (by kernel_rfl) (fun _ _ _ h => h) (Or.inl ⟨by rfl, ?_⟩) (by assumption) ?_
    rotate_left
    · intro w0 hS0
      obtain ⟨s0, s1, s2⟩ := hS0
      go_simp
      try rfl
    repeat (first | simp only [Act.put] | simp only [List.setIfInBounds_toArray] | simp only [List.set_cons_zero] | simp only [List.set_cons_succ])
    refine wpAnyH_take (i := 3) (v := ?_) rfl (by kernel_rfl) (by kernel_rfl) (by kernel_rfl) (fun _ _ _ h => h) (Or.inl ⟨by kernel_rfl, ?_⟩) (by assumption) ?_
    rotate_left
    · intro w0 hS0
      obtain ⟨s0, s1, s2⟩ := hS0
      go_simp
      try rfl
    repeat (first | simp only [Act.put] | simp only [List.setIfInBounds_toArray] | simp only [List.set_cons_zero] | simp only [List.set_cons_succ])
    refine wpAnyH_take (i := 4) (v := ?_) rfl (by kernel_rfl) (by kernel_rfl) (by kernel_rfl) (fun _ _ _ h => h) (Or.inl ⟨by rfl, ?_⟩) (by assumption) ?_
    rotate_left
    · intro w0 hS0
      obtain ⟨s0, s1, s2⟩ := hS0
      go_simp
      try rfl
    repeat (first | simp only [Act.put] | simp only [List.setIfInBounds_toArray] | simp only [List.set_cons_zero] | simp only [List.set_cons_succ])
    refine wpAnyH_take (i := 5) (v := ?_) rfl (by kernel_rfl) (by kernel_rfl) (by kernel_rfl) (fun _ _ _ h => h) (Or.inl ⟨by rfl, ?_⟩) (by assumption) ?_
    rotate_left
    · intro w0 hS0
      obtain ⟨s0, s1, s2⟩ := hS0
      go_simp
      try rfl
    repeat (first | simp only [Act.put] | simp only [List.setIfInBounds_toArray] | simp only [List.set_cons_zero] | simp only [List.set_cons_succ])
    refine wpAnyH_take (i := 6) (v := ?_) rfl (by kernel_rfl) (by kernel_rfl) (by kernel_rfl) (fun _ _ _ h => h) (Or.inl ⟨by kernel_rfl, ?_⟩) (by assumption) ?_
    rotate_left
    · intro w0 hS0
      obtain ⟨s0, s1, s2⟩ := hS0
      go_simp
      try rfl
    repeat (first | simp only [Act.put] | simp only [List.setIfInBounds_toArray] | simp only [List.set_cons_zero] | simp only [List.set_cons_succ])
    refine wpAnyH_take (i := 7) (v := ?_) rfl (by kernel_rfl) (by kernel_rfl) (by kernel_rfl) (fun _ _ _ h => h) (Or.inl ⟨by rfl, ?_⟩) (by assumption) ?_
    rotate_left
    · intro w0 hS0
      obtain ⟨s0, s1, s2⟩ := hS0
      go_simp
      try rfl
    repeat (first | simp only [Act.put] | simp only [List.setIfInBounds_toArray] | simp only [List.set_cons_zero] | simp only [List.set_cons_succ])
    refine wpAnyH_take (i := 8) (v := ?_) rfl (by kernel_rfl) (by kernel_rfl) (by kernel_rfl) (fun _ _ _ h => h) (Or.inl ⟨by rfl, ?_⟩) (by assumption) ?_
    rotate_left
    · intro w0 hS0
      obtain ⟨s0, s1, s2⟩ := hS0
      go_simp
      try rfl
    repeat (first | simp only [Act.put] | simp only [List.setIfInBounds_toArray] | simp only [List.set_cons_zero] | simp only [List.set_cons_succ])
    refine wpAnyH_take (i := 9) (v := ?_) rfl (by kernel_rfl) (by kernel_rfl) (by kernel_rfl) (fun _ _ _ h => h) (Or.inl ⟨by kernel_rfl, ?_⟩) (by assumption) ?_
    rotate_left
    · intro w0 hS0
      obtain ⟨s0, s1, s2⟩ := hS0
      go_simp
      try rfl
    repeat (first | simp only [Act.put] | simp only [List.setIfInBounds_toArray] | simp only [List.set_cons_zero] | simp only [List.set_cons_succ])
    refine wpAnyH_take (i := 10) (v := ?_) rfl (by kernel_rfl) (by kernel_rfl) (by kernel_rfl) (fun _ _ _ h => h) (Or.inl ⟨by kernel_rfl, ?_⟩) (by assumption) ?_
    rotate_left
    · intro w0 hS0
      obtain ⟨s0, s1, s2⟩ := hS0
      go_simp
      try rfl
    repeat (first | simp only [Act.put] | simp only [List.setIfInBounds_toArray] | simp only [List.set_cons_zero] | simp only [List.set_cons_succ])
    refine wpAnyH_take (i := 11) (v := .bool true) rfl (by kernel_rfl) (by kernel_rfl) (by kernel_rfl) (fun _ _ _ h => h) (Or.inl ⟨by kernel_rfl, ?_⟩) (by assumption) ?_
    · intro w0 hS0
      obtain ⟨s0, s1, s2⟩ := hS0
      go_simp
      try rfl
    repeat (first | simp only [Act.put] | simp only [List.setIfInBounds_toArray] | simp only [List.set_cons_zero] | simp only [List.set_cons_succ])
    refine wpAnyH_take (i := 12) (v := ?_) rfl (by kernel_rfl) (by kernel_rfl) (by kernel_rfl) (fun _ _ _ h => h) (Or.inl ⟨by rfl, ?_⟩) (by assumption) ?_
    rotate_left
    · intro w0 hS0
      obtain ⟨s0, s1, s2⟩ := hS0
      go_simp
      try rfl
    repeat (first | simp only [Act.put] | simp only [List.setIfInBounds_toArray] | simp only [List.set_cons_zero] | simp only [List.set_cons_succ])
    refine wpAnyH_take (i := 13) (v := ?_) rfl (by kernel_rfl) (by kernel_rfl) (by kernel_rfl) (fun _ _ _ h => h) (Or.inl ⟨by rfl, ?_⟩) (by assumption) ?_
    rotate_left
    · intro w0 hS0
      obtain ⟨s0, s1, s2⟩ := hS0
      go_simp
      try rfl
    repeat (first | simp only [Act.put] | simp only [List.setIfInBounds_toArray] | simp only [List.set_cons_zero] | simp only [List.set_cons_succ])
    refine wpAnyH_take (i := 14) (v := ?_) rfl (by kernel_rfl) (by kernel_rfl) (by kernel_rfl) (fun _ _ _ h => h) (Or.inl ⟨by kernel_rfl, ?_⟩) (by assumption) ?_
    rotate_left
    · intro w0 hS0
      obtain ⟨s0, s1, s2⟩ := hS0
      go_simp
      try rfl
    repeat (first | simp only [Act.put] | simp only [List.setIfInBounds_toArray] | simp only [List.set_cons_zero] | simp only [List.set_cons_succ])
    refine wpAnyH_take (i := 15) (v := ?_) rfl (by kernel_rfl) (by kernel_rfl) (by kernel_rfl) (fun _ _ _ h => h) (Or.inl ⟨by kernel_rfl, ?_⟩) (by assumption) ?_
    rotate_left
    · intro w0 hS0
      obtain ⟨s0, s1, s2⟩ := hS0
      go_simp
      try rfl
    repeat (first | simp only [Act.put] | simp only [List.setIfInBounds_toArray] | simp only [List.set_cons_zero] | simp only [List.set_cons_succ])
    refine wpAnyH_take (i := 16) (v := .bool true) rfl (by kernel_rfl) (by kernel_rfl) (by kernel_rfl) (fun _ _ _ h => h) (Or.inl ⟨by kernel_rfl, ?_⟩) (by assumption) ?_
    · intro w0 hS0
      obtain ⟨s0, s1, s2⟩ := hS0
      go_simp
      try rfl
    repeat (first | simp only [Act.put] | simp only [List.setIfInBounds_toArray] | simp only [List.set_cons_zero] | simp only [List.set_cons_succ])
    refine wpAnyH_take (i := 17) (v := ?_) rfl (by kernel_rfl) (by kernel_rfl) (by kernel_rfl) (fun _ _ _ h => h) (Or.inl ⟨by rfl, ?_⟩) (by assumption) ?_
    rotate_left
    · intro w0 hS0
      obtain ⟨s0, s1, s2⟩ := hS0
      go_simp
      try rfl
    repeat (first | simp only [Act.put] | simp only [List.setIfInBounds_toArray] | simp only [List.set_cons_zero] | simp only [List.set_cons_succ])
    refine wpAnyH_ready (rs := [18]) (by kernel_rfl) (by simp) ?_
    refine AllReadyH.cons rfl (fun K' hK' => ?_) AllReadyH.nil
    go_simp
    refine hK'.out _ _ ?_ (fun hS2 => ?_)
    · exact ⟨(set3_far W1 w.heap.size P 0 _ _ _ hne2).trans q0, (set3_far W1 w.heap.size P 1 _ _ _ hne2).trans q1, (set3_far W1 w.heap.size P 2 _ _ _ hne2).trans q2⟩
    clear hK'
    refine wpAnyH_take (i := 19) (v := ?_) rfl (by kernel_rfl) (by kernel_rfl) (by kernel_rfl) (fun _ _ _ h => h) (Or.inl ⟨by rfl, ?_⟩) (by assumption) ?_
    rotate_left
    · intro w0 hS0
      go_simp
      try rfl
    refine wpAnyH_done (by kernel_rfl) ?_ _
    have b0 := World.cell?_setCell_same W1 ⟨w.heap.size, 0, none⟩ (.int .i64 K) r0
    have b1 := World.cell?_setCell_same (W1.setCell ⟨w.heap.size, 0, none⟩ (.int .i64 K)) ⟨w.heap.size, 1, none⟩ (.int .i64 U) ((World.cell?_setCell_other _ _ _ _ (by simp)).trans r1)
    have b2 := World.cell?_setCell_same ((W1.setCell ⟨w.heap.size, 0, none⟩ (.int .i64 K)).setCell ⟨w.heap.size, 1, none⟩ (.int .i64 U)) ⟨w.heap.size, 2, none⟩ (.string g) ((World.cell?_setCell_other _ _ _ _ (by simp)).trans ((World.cell?_setCell_other _ _ _ _ (by simp)).trans r2))
    go_wp2
    refine bodyPost_ret (v := .tuple #[.agg #[.int .i64 K, .int .i64 U, .string g], .bool true]) (by simp [results, Tryz.results180, go_sem, b0, b1, b2]) rfl ⟨⟨_, rfl, ?_⟩, ((((HB3.out).setCell (by simp) _).setCell (by simp) _).setCell (by simp) _).drew⟩
    have h := HH.out
    have e : decide (0 ≤ K) = true := by simpa using hK
    have e2 : decide (0 ≤ U) = true := by simpa using hU
    rw [e, e2] at h
    exact h

end Go.Proofs.YtldgiecjnmkajaaGreatDoor
