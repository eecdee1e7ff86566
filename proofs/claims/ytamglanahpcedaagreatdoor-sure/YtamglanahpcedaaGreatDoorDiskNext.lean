/-
  OWN TEXT: mailbagref.Picks.next, one below 1.
-/
import Derived.Test.YtamglanahpcedaaGreatDoorDiskBC
namespace Go.Proofs.YtamglanahpcedaaGreatDoor
open Go.RowKit Go.Lib

theorem int_index {g off n cap k : Nat} {w : World} (hk : k < n) : (Instr.indexAt 35 (.slice (some ⟨g, off, none⟩) n cap) (.int .i64 (k : Int))).run Tryz.prog w = .ok (.pointer (some ⟨g, off + k, none⟩)) w := by
  have h1 : ¬ (k : Int) < 0 := by omega
  have h2 : ((k : Int)).toNat = k := by omega
  go_simp

/-- picks in memory: the slice, and how many are used up -/
structure PkAt (w : World) (K : Nat) (pa : Option Addr) (n pc k : Nat) : Prop where
  blk : w.heap[K]? = some (.cells #[.slice pa n pc, .int .i64 (k : Int)] 75 (0, 0))
  le : k ≤ n
/-- only a block has changed, and the tape was drawn from -/
structure OnlyAt (K : Nat) (w w' : World) : Prop where
  os : w'.os = w.os
  tape : w'.tape = w.tape
  output : w'.output = w.output
  size : w'.heap.size = w.heap.size
  block : ∀ b, b ≠ K → w'.heap[b]? = w.heap[b]?

/-- picks given: integers in memory -/
def IntsAt (w : World) (pa : Option Addr) (n : Nat) : Prop := n = 0 ∨ ∃ b off, pa = some ⟨b, off, none⟩ ∧ b < w.heap.size ∧ ∀ i, i < n → ∃ z : Int, w.cell? ⟨b, off + i, none⟩ = some (.int .i64 z) ∧ -9223372036854775808 ≤ z ∧ z ≤ 9223372036854775807

set_option maxRecDepth 100000 in
set_option maxHeartbeats 4000000 in
theorem next_one {w : World} {K : Nat} {pa : Option Addr} {n pc k : Nat} (h : PkAt w K pa n pc k) (hI : IntsAt w pa n) (hn : n ≤ maxLen) :
    Calls Tryz.prog 21 #[.pointer (some ⟨K, 0, none⟩), .int .i64 1] w fun e w' => e = .returned (.int .i64 0) ∧ (∃ k', PkAt w' K pa n pc k') ∧ OnlyAt K w w' := by
  unfold maxLen at hn
  have c0 : w.cell? ⟨K, 0, none⟩ = some (.slice pa n pc) := by simp [World.cell?, h.blk]
  have c1 : w.cell? ⟨K, 1, none⟩ = some (.int .i64 (k : Int)) := by simp [World.cell?, h.blk]
  have f1 : w.frozen? ⟨K, 1, none⟩ = false := by simp [World.frozen?, h.blk]
  have hk := h.le
  have Hh := Lib.hid h
  clear h
  rcases Nat.lt_or_ge k n with hkn | hkn
  · rcases hI with hI | ⟨pb, po, rfl, hpb, hI⟩
    · omega
    obtain ⟨z, cz, hz1, hz2⟩ := hI k hkn
    have hcmp : ∀ w, (do eqGuard .geq 3 (.tmp 9) (.tmp 14) (.int .i64 (k : Int)) (.int .i64 (n : Int)); binOp .geq 3 (.int .i64 (k : Int)) (.int .i64 (n : Int)) : Sem Value).run Tryz.prog w = .ok (.bool false) w := fun w => by
      have : ¬ (n : Int) ≤ (k : Int) := by omega
      go_simp
    clear hI
    go_enter Tryz.func21, Tryz.ntmps21
    go_wp2_with fail
    refine region_until 10 (fun w' : World => w'.cell? ⟨K, 0, none⟩ = some (.slice (some ⟨pb, po, none⟩) n pc) ∧ w'.cell? ⟨K, 1, none⟩ = some (.int .i64 (k : Int))) 10 rfl (by kernel_rfl) ⟨c0, c1⟩ (fun a' Q hA hQ hP hS => ?_)
    have z : a'.tmps.size = 41 := by rw [hA.out]; rfl
    have e0 : a'.eval (.tmp 0) = Value.pointer (some ⟨K, 0, none⟩) := by rw [hA.out]; rfl
    refine tk (i := 0) (d := (some 6)) rfl rfl (by kernel_rfl) hP (fun w hw => run_move rfl e0) hS ?_
    refine tk (i := 1) (d := (some 7)) rfl rfl (by kernel_rfl) hP (fun w hw => run_nil rfl (eve (Nat.lt_of_lt_of_eq (by decide : 6 < 41) z.symm))) hS ?_
    refine tk (i := 2) (d := (some 8)) rfl rfl (by kernel_rfl) hP (fun w hw => run_field (p' := ⟨K, 1, none⟩) rfl (eve (Nat.lt_of_lt_of_eq (by decide : 7 < 41) (szq z).symm)) (fun w => by kernel_rfl)) hS ?_
    refine tk (i := 3) (d := (some 9)) rfl rfl (by kernel_rfl) hP (fun w hw => run_load rfl (eve (Nat.lt_of_lt_of_eq (by decide : 8 < 41) (szq (szq z)).symm)) (loadAt_one (fun w => by kernel_rfl) hw.2)) hS ?_
    refine tk (i := 4) (d := (some 10)) rfl rfl (by kernel_rfl) hP (fun w hw => run_move rfl (evq (by decide) (evq (by decide) (evq (by decide) (evq (by decide) e0))))) hS ?_
    refine tk (i := 5) (d := (some 11)) rfl rfl (by kernel_rfl) hP (fun w hw => run_nil rfl (eve (Nat.lt_of_lt_of_eq (by decide : 10 < 41) (szq (szq (szq (szq z)))).symm))) hS ?_
    refine tk (i := 6) (d := (some 12)) rfl rfl (by kernel_rfl) hP (fun w hw => run_field (p' := ⟨K, 0, none⟩) rfl (eve (Nat.lt_of_lt_of_eq (by decide : 11 < 41) (szq (szq (szq (szq (szq z))))).symm)) (fun w => by kernel_rfl)) hS ?_
    refine tk (i := 7) (d := (some 13)) rfl rfl (by kernel_rfl) hP (fun w hw => run_load rfl (eve (Nat.lt_of_lt_of_eq (by decide : 12 < 41) (szq (szq (szq (szq (szq (szq z)))))).symm)) (loadAt_one (fun w => by kernel_rfl) hw.1)) hS ?_
    refine tk (i := 8) (d := (some 14)) rfl rfl (by kernel_rfl) hP (fun w hw => run_len (v := .int .i64 (n : Int)) rfl (eve (Nat.lt_of_lt_of_eq (by decide : 13 < 41) (szq (szq (szq (szq (szq (szq (szq z))))))).symm)) (fun ρ hρ => by go_simp)) hS ?_
    refine tk (i := 9) (d := (some 15)) rfl rfl (by kernel_rfl) hP (fun w hw => run_bin (v := .bool false) rfl (evq (by decide) (evq (by decide) (evq (by decide) (evq (by decide) (evq (by decide) (eve (Nat.lt_of_lt_of_eq (by decide : 9 < 41) (szq (szq (szq z))).symm))))))) (eve (Nat.lt_of_lt_of_eq (by decide : 14 < 41) (szq (szq (szq (szq (szq (szq (szq (szq z)))))))).symm)) (hcmp w)) hS ?_
    refine wpAnyU_done (by kernel_rfl) (hQ.out _ _ ?_) _
    rw [hA.out]
    simp only [Act.put, List.setIfInBounds_toArray]
    dsimp only [List.set]
    clear hQ hP hA z hS Q a' e0 
    go_wp2_with fail
    refine region_until 11 (fun w' : World => w'.cell? ⟨K, 0, none⟩ = some (.slice (some ⟨pb, po, none⟩) n pc) ∧ w'.cell? ⟨K, 1, none⟩ = some (.int .i64 (k : Int)) ∧ w'.cell? ⟨pb, po + k, none⟩ = some (.int .i64 z)) 11 rfl (by kernel_rfl) ⟨c0, c1, cz⟩ (fun a' Q hA hQ hP hS => ?_)
    have z : a'.tmps.size = 41 := by rw [hA.out]; rfl
    have e0 : a'.eval (.tmp 0) = Value.pointer (some ⟨K, 0, none⟩) := by rw [hA.out]; rfl
    refine tk (i := 0) (d := (some 16)) rfl rfl (by kernel_rfl) hP (fun w hw => run_move rfl e0) hS ?_
    refine tk (i := 1) (d := (some 17)) rfl rfl (by kernel_rfl) hP (fun w hw => run_nil rfl (eve (Nat.lt_of_lt_of_eq (by decide : 16 < 41) z.symm))) hS ?_
    refine tk (i := 2) (d := (some 18)) rfl rfl (by kernel_rfl) hP (fun w hw => run_field (p' := ⟨K, 0, none⟩) rfl (eve (Nat.lt_of_lt_of_eq (by decide : 17 < 41) (szq z).symm)) (fun w => by kernel_rfl)) hS ?_
    refine tk (i := 3) (d := (some 19)) rfl rfl (by kernel_rfl) hP (fun w hw => run_load rfl (eve (Nat.lt_of_lt_of_eq (by decide : 18 < 41) (szq (szq z)).symm)) (loadAt_one (fun w => by kernel_rfl) hw.1)) hS ?_
    refine tk (i := 4) (d := (some 20)) rfl rfl (by kernel_rfl) hP (fun w hw => run_move rfl (evq (by decide) (evq (by decide) (evq (by decide) (evq (by decide) e0))))) hS ?_
    refine tk (i := 5) (d := (some 21)) rfl rfl (by kernel_rfl) hP (fun w hw => run_nil rfl (eve (Nat.lt_of_lt_of_eq (by decide : 20 < 41) (szq (szq (szq (szq z)))).symm))) hS ?_
    refine tk (i := 6) (d := (some 22)) rfl rfl (by kernel_rfl) hP (fun w hw => run_field (p' := ⟨K, 1, none⟩) rfl (eve (Nat.lt_of_lt_of_eq (by decide : 21 < 41) (szq (szq (szq (szq (szq z))))).symm)) (fun w => by kernel_rfl)) hS ?_
    refine tk (i := 7) (d := (some 23)) rfl rfl (by kernel_rfl) hP (fun w hw => run_load rfl (eve (Nat.lt_of_lt_of_eq (by decide : 22 < 41) (szq (szq (szq (szq (szq (szq z)))))).symm)) (loadAt_one (fun w => by kernel_rfl) hw.2.1)) hS ?_
    refine tk (i := 8) (d := (some 24)) rfl rfl (by kernel_rfl) hP (fun w hw => run_index (v := .pointer (some ⟨pb, po + k, none⟩)) rfl (evq (by decide) (evq (by decide) (evq (by decide) (evq (by decide) (eve (Nat.lt_of_lt_of_eq (by decide : 19 < 41) (szq (szq (szq z))).symm)))))) (eve (Nat.lt_of_lt_of_eq (by decide : 23 < 41) (szq (szq (szq (szq (szq (szq (szq z))))))).symm)) (int_index hkn)) hS ?_
    refine tk (i := 9) (d := (some 25)) rfl rfl (by kernel_rfl) hP (fun w hw => run_load rfl (eve (Nat.lt_of_lt_of_eq (by decide : 24 < 41) (szq (szq (szq (szq (szq (szq (szq (szq z)))))))).symm)) (loadAt_one (fun w => by kernel_rfl) hw.2.2)) hS ?_
    refine go_val (i := 10) (d := (some 5)) (by kernel_rfl) rfl rfl rfl (run_assign rfl (eve (Nat.lt_of_lt_of_eq (by decide : 25 < 41) (szq (szq (szq (szq (szq (szq (szq (szq (szq z))))))))).symm))) (fun _ => hS) ?_
    refine wpAnyU_done (by kernel_rfl) (hQ.out _ _ ?_) _
    rw [hA.out]
    simp only [Act.put, List.setIfInBounds_toArray]
    dsimp only [List.set]
    clear hQ hP hA z hS Q a' e0 
    have d1 : ((w.drew).drew).cell? ⟨K, 1, none⟩ = some (.int .i64 (k : Int)) := c1
    have g1 : ((w.drew).drew).frozen? ⟨K, 1, none⟩ = false := f1
    have hwr : IntKind.i64.wrap ((k : Int) + 1) = (k : Int) + 1 := IntWalk.i64_in _ (by omega)
    have hout : ∃ k', PkAt (((w.drew).drew).setCell ⟨K, 1, none⟩ (.int .i64 ((k : Int) + 1))) K (some ⟨pb, po, none⟩) n pc k' := ⟨k + 1, by
      have := heap_set_in (W := (w.drew).drew) (K := K) (o := 1) (.int .i64 ((k : Int) + 1)) Hh.out.blk
      simpa using this, hkn⟩
    have honly : OnlyAt K w (((w.drew).drew).setCell ⟨K, 1, none⟩ (.int .i64 ((k : Int) + 1))) := by
      have hb := (((Below.refl 0 w).drew).drew).setCell (p := ⟨K, 1, none⟩) (Nat.zero_le _) (.int .i64 ((k : Int) + 1))
      exact ⟨hb.os, hb.tape, hb.output, by simp, fun b hb => Below.heap_setCell _ _ _ _ hb⟩
    have HP := Lib.hid (And.intro hout honly)
    clear hout honly
    rcases Int.lt_or_le z 0 with hz | hz
    · have hneg : IntKind.i64.wrap (z + 1) = z + 1 := IntWalk.i64_in _ (by omega)
      go_wp2_with fail
      go_ret
      exact ⟨rfl, HP.out.1, HP.out.2⟩
    · go_wp2_with fail
      go_ret
      exact ⟨rfl, HP.out.1, HP.out.2⟩
  · have hcmp : ∀ w, (do eqGuard .geq 3 (.tmp 9) (.tmp 14) (.int .i64 (k : Int)) (.int .i64 (n : Int)); binOp .geq 3 (.int .i64 (k : Int)) (.int .i64 (n : Int)) : Sem Value).run Tryz.prog w = .ok (.bool true) w := fun w => by
      have : (n : Int) ≤ (k : Int) := by omega
      go_simp
    go_enter Tryz.func21, Tryz.ntmps21
    go_wp2_with fail
    refine region_until 10 (fun w' : World => w'.cell? ⟨K, 0, none⟩ = some (.slice pa n pc) ∧ w'.cell? ⟨K, 1, none⟩ = some (.int .i64 (k : Int))) 10 rfl (by kernel_rfl) ⟨c0, c1⟩ (fun a' Q hA hQ hP hS => ?_)
    have z : a'.tmps.size = 41 := by rw [hA.out]; rfl
    have e0 : a'.eval (.tmp 0) = Value.pointer (some ⟨K, 0, none⟩) := by rw [hA.out]; rfl
    refine tk (i := 0) (d := (some 6)) rfl rfl (by kernel_rfl) hP (fun w hw => run_move rfl e0) hS ?_
    refine tk (i := 1) (d := (some 7)) rfl rfl (by kernel_rfl) hP (fun w hw => run_nil rfl (eve (Nat.lt_of_lt_of_eq (by decide : 6 < 41) z.symm))) hS ?_
    refine tk (i := 2) (d := (some 8)) rfl rfl (by kernel_rfl) hP (fun w hw => run_field (p' := ⟨K, 1, none⟩) rfl (eve (Nat.lt_of_lt_of_eq (by decide : 7 < 41) (szq z).symm)) (fun w => by kernel_rfl)) hS ?_
    refine tk (i := 3) (d := (some 9)) rfl rfl (by kernel_rfl) hP (fun w hw => run_load rfl (eve (Nat.lt_of_lt_of_eq (by decide : 8 < 41) (szq (szq z)).symm)) (loadAt_one (fun w => by kernel_rfl) hw.2)) hS ?_
    refine tk (i := 4) (d := (some 10)) rfl rfl (by kernel_rfl) hP (fun w hw => run_move rfl (evq (by decide) (evq (by decide) (evq (by decide) (evq (by decide) e0))))) hS ?_
    refine tk (i := 5) (d := (some 11)) rfl rfl (by kernel_rfl) hP (fun w hw => run_nil rfl (eve (Nat.lt_of_lt_of_eq (by decide : 10 < 41) (szq (szq (szq (szq z)))).symm))) hS ?_
    refine tk (i := 6) (d := (some 12)) rfl rfl (by kernel_rfl) hP (fun w hw => run_field (p' := ⟨K, 0, none⟩) rfl (eve (Nat.lt_of_lt_of_eq (by decide : 11 < 41) (szq (szq (szq (szq (szq z))))).symm)) (fun w => by kernel_rfl)) hS ?_
    refine tk (i := 7) (d := (some 13)) rfl rfl (by kernel_rfl) hP (fun w hw => run_load rfl (eve (Nat.lt_of_lt_of_eq (by decide : 12 < 41) (szq (szq (szq (szq (szq (szq z)))))).symm)) (loadAt_one (fun w => by kernel_rfl) hw.1)) hS ?_
    refine tk (i := 8) (d := (some 14)) rfl rfl (by kernel_rfl) hP (fun w hw => run_len (v := .int .i64 (n : Int)) rfl (eve (Nat.lt_of_lt_of_eq (by decide : 13 < 41) (szq (szq (szq (szq (szq (szq (szq z))))))).symm)) (fun ρ hρ => by go_simp)) hS ?_
    refine tk (i := 9) (d := (some 15)) rfl rfl (by kernel_rfl) hP (fun w hw => run_bin (v := .bool true) rfl (evq (by decide) (evq (by decide) (evq (by decide) (evq (by decide) (evq (by decide) (eve (Nat.lt_of_lt_of_eq (by decide : 9 < 41) (szq (szq (szq z))).symm))))))) (eve (Nat.lt_of_lt_of_eq (by decide : 14 < 41) (szq (szq (szq (szq (szq (szq (szq (szq z)))))))).symm)) (hcmp w)) hS ?_
    refine wpAnyU_done (by kernel_rfl) (hQ.out _ _ ?_) _
    rw [hA.out]
    simp only [Act.put, List.setIfInBounds_toArray]
    dsimp only [List.set]
    clear hQ hP hA z hS Q a' e0 
    go_wp2_with fail
    go_ret
    exact ⟨rfl, ⟨k, Hh.out.blk, hk⟩, ⟨rfl, rfl, rfl, rfl, fun _ _ => rfl⟩⟩
end Go.Proofs.YtamglanahpcedaaGreatDoor
