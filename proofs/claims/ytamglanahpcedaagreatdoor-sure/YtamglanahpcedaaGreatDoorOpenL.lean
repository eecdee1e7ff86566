/-
  OWN TEXT: disk.putInOrder, of a disk that is in order: nothing is to be done.
-/
import Derived.Test.YtamglanahpcedaaGreatDoorOpenJK
import Derived.Test.YtamglanahpcedaaGreatDoorSureMath
namespace Go.Proofs.YtamglanahpcedaaGreatDoor
open Go.RowKit Go.Lib

theorem drop_none (w : World) : Calls Tryz.prog 70 #[.slice none 0 0] w fun e w' => e = .returned (.slice none 0 0) ∧ w' = w := by
  go_enter Tryz.func70, Tryz.ntmps70
  go_wp2_with fail
  go_ret
  exact ⟨rfl, rfl⟩
theorem Op.gptr_index {g n cap : Nat} {w : World} (hn : 0 < n) : (Instr.indexAt 90 (.slice (some ⟨g, 0, none⟩) n cap) (.int .i64 0)).run Tryz.prog w = .ok (.pointer (some ⟨g, 0, none⟩)) w := by
  have h2 : ((0 : Int)).toNat = 0 := rfl
  go_simp

set_option maxRecDepth 100000 in
set_option maxHeartbeats 4000000 in
theorem putInOrder_none {w : World} {B D fr fc F T r c G : Nat} {text : ByteArray} {vm ev v : Value} {nx : Int} {ts : List (List UInt8)} (h : DsBlk w D fr fc) (hf : FrBlk w fr F) (hk : FdBlk w F Mb.inN text vm 1 nx ev false) (hM : Made B T r c G v ((ts.length + 1 : Nat) : Int) (Mb.msgsOf ts) w) (hn : ts.length ≤ 8) (htx : text.data.toList = Mb.listT ts.length) (hE : Env w) :
    Calls Tryz.prog 44 #[.pointer (some ⟨D, 0, none⟩), .pointer (some ⟨T, 0, none⟩)] w fun e w' => e = .returned (.slice none 0 0) ∧ Below w.heap.size w w' := by
  obtain ⟨hT, hR, hG, hO, _⟩ := hM
  obtain ⟨c0, _, c2, _, c4, hDw⟩ := h.cells
  obtain ⟨t0, _, _, hTw⟩ := hT.cells
  have g0 := hR.1
  obtain ⟨va, vc, hvv, _, hms, _⟩ := OwnM.form hO
  subst hvv
  have gL := listOf_any hG hms (by rw [Mb.msgsOf_len]; omega) (by decide) hE (by rw [show (Mb.msgsOf ts).map Mb.entOf = Mb.entsN 1 ts.length from Mb.msgs_ents 1 ts]; exact Mb.list_ok ts.length hn) (Mb.msgs_flags ts)
  have hI : ∀ w, (Instr.indexAt 90 (.slice (some ⟨r, 0, none⟩) 1 c) (.int .i64 0)).run Tryz.prog w = .ok (.pointer (some ⟨r, 0, none⟩)) w := fun w => Op.gptr_index (by decide)
  have f1 := hk.cells.2.1
  have hFw := hk.cells.2.2.2.2.2.2.2.2
  have fr0 := hf.1
  have hfrw := hf.2
  clear h hf hk hT hR hG hO hms hE
  go_enter Tryz.func44, Tryz.ntmps44
  go_wp2_with (go_at_call 70; refine (drop_none w).mono ?_; rintro e w' ⟨rfl, hw'⟩; subst w')
  go_loopw [5, 32] (fun l i wr => l = .slice none 0 0 ∧ ((i = .int .i64 0 ∧ wr = w) ∨ (i = .int .i64 1 ∧ Hid (Below w.heap.size w wr)))) (fun _ i _ => 1 - (RowKit.intOf i).toNat)
  case atStart => exact ⟨rfl, Or.inl ⟨rfl, rfl⟩⟩
  case round =>
  obtain ⟨rfl, hrel⟩ := hrel
  rcases hrel with ⟨rfl, hw⟩ | ⟨rfl, hbl⟩
  · subst wr
    go_wp2_with fail
    refine gL.mono ?_
    rintro e w1 ⟨⟨bN, bT, rfl, hbN, hbT⟩, hb1⟩
    have hTT : bT = text := bytes_ext (by rw [hbT, htx]; unfold Mb.listT; rw [show (Mb.msgsOf ts).map Mb.entOf = Mb.entsN 1 ts.length from Mb.msgs_ents 1 ts])
    subst hTT
    have hs1 := hb1.size
    have hB2 : Below w.heap.size w (w1.alloc (.cells #[.string bN, .string bT] 48)) := hb1.alloc hs1 _
    have hM2 : (w1.alloc (.cells #[.string bN, .string bT] 48)).heap[w1.heap.size]? = some (.cells #[.string bN, .string bT] 48 (0, 0)) := heap_alloc_new w1 _
    have HB2 := Lib.hid hB2
    have HM2 := Lib.hid hM2
    clear gL hb1 hB2 hM2 htx hbT hbN
    go_wp2_with fail
    generalize (w1.alloc (.cells #[.string bN, .string bT] 48)) = w2 at *
    have m1 : w2.cell? ⟨w1.heap.size, 1, none⟩ = some (.string bT) := by simp [World.cell?, HM2.out]
    have d0 : w2.cell? ⟨D, 0, none⟩ = some (.slice (some ⟨fr, 0, none⟩) 1 fc) := (HB2.out.cell (p := ⟨D, 0, none⟩) hDw).trans c0
    have q0 : w2.cell? ⟨fr, 0, none⟩ = some (.pointer (some ⟨F, 0, none⟩)) := (HB2.out.cell (p := ⟨fr, 0, none⟩) hfrw).trans fr0
    have q1 : w2.cell? ⟨F, 1, none⟩ = some (.string bT) := (HB2.out.cell (p := ⟨F, 1, none⟩) hFw).trans f1
    have hneq : ∀ w, (do eqGuard .neq 9 (.tmp 40) (.tmp 50) (.string bT) (.string bT); binOp .neq 9 (.string bT) (.string bT) : Sem Value).run Tryz.prog w = .ok (.bool false) w := fun w => by go_simp
    generalize w1.heap.size = M at *
    refine region_late [] (fun w' : World => w'.cell? ⟨M, 1, none⟩ = some (.string bT) ∧ w'.cell? ⟨D, 0, none⟩ = some (.slice (some ⟨fr, 0, none⟩) 1 fc) ∧ w'.cell? ⟨fr, 0, none⟩ = some (.pointer (some ⟨F, 0, none⟩)) ∧ w'.cell? ⟨F, 1, none⟩ = some (.string bT)) 13 rfl (by kernel_rfl) ⟨m1, d0, q0, q1⟩ (fun a' Q hA hQ hP hS => ?_)
    have z : a'.tmps.size = 58 := by rw [hA.out]; rfl
    have e0 : a'.eval (.tmp 0) = Value.pointer (some ⟨D, 0, none⟩) := by rw [hA.out]; rfl
    have e6 : a'.eval (.tmp 6) = Value.int .i64 0 := by rw [hA.out]; rfl
    have e8 : a'.eval (.tmp 8) = Value.pointer (some ⟨M, 0, none⟩) := by rw [hA.out]; rfl
    refine tkp (i := 0) (d := (some 39)) rfl rfl (by kernel_rfl) hP (wanted_all rfl) (fun wx => run_field (p' := ⟨M, 1, none⟩) rfl e8 (fun w => by kernel_rfl)) hS ?_
    refine tkv (i := 1) (d := (some 40)) rfl rfl (by kernel_rfl) hP (wanted_all rfl) (fun wx hw => run_load rfl (eve (Nat.lt_of_lt_of_eq (by decide : 39 < 58) z.symm)) (loadAt_one (fun w => by kernel_rfl) hw.1)) hS ?_
    refine tkp (i := 2) (d := (some 41)) rfl rfl (by kernel_rfl) hP (wanted_all rfl) (fun wx => run_move rfl (evq (by decide) (evq (by decide) e0))) hS ?_
    refine tkp (i := 3) (d := (some 42)) rfl rfl (by kernel_rfl) hP (wanted_all rfl) (fun wx => run_nil rfl (eve (Nat.lt_of_lt_of_eq (by decide : 41 < 58) (szq (szq z)).symm))) hS ?_
    refine tkp (i := 4) (d := (some 43)) rfl rfl (by kernel_rfl) hP (wanted_all rfl) (fun wx => run_field (p' := ⟨D, 0, none⟩) rfl (eve (Nat.lt_of_lt_of_eq (by decide : 42 < 58) (szq (szq (szq z))).symm)) (fun w => by kernel_rfl)) hS ?_
    refine tkv (i := 5) (d := (some 44)) rfl rfl (by kernel_rfl) hP (wanted_all rfl) (fun wx hw => run_load rfl (eve (Nat.lt_of_lt_of_eq (by decide : 43 < 58) (szq (szq (szq (szq z)))).symm)) (loadAt_one (fun w => by kernel_rfl) hw.2.1)) hS ?_
    refine tkp (i := 6) (d := (some 45)) rfl rfl (by kernel_rfl) hP (wanted_all rfl) (fun wx => run_move rfl (evq (by decide) (evq (by decide) (evq (by decide) (evq (by decide) (evq (by decide) (evq (by decide) e6))))))) hS ?_
    refine tkp (i := 7) (d := (some 46)) rfl rfl (by kernel_rfl) hP (wanted_all rfl) (fun wx => run_index (v := .pointer (some ⟨fr, 0, none⟩)) rfl (evq (by decide) (eve (Nat.lt_of_lt_of_eq (by decide : 44 < 58) (szq (szq (szq (szq (szq z))))).symm))) (eve (Nat.lt_of_lt_of_eq (by decide : 45 < 58) (szq (szq (szq (szq (szq (szq z)))))).symm)) (fptr_index (by decide))) hS ?_
    refine tkv (i := 8) (d := (some 47)) rfl rfl (by kernel_rfl) hP (wanted_all rfl) (fun wx hw => run_load rfl (eve (Nat.lt_of_lt_of_eq (by decide : 46 < 58) (szq (szq (szq (szq (szq (szq (szq z))))))).symm)) (loadAt_one (fun w => by kernel_rfl) hw.2.2.1)) hS ?_
    refine tkp (i := 9) (d := (some 48)) rfl rfl (by kernel_rfl) hP (wanted_all rfl) (fun wx => run_nil rfl (eve (Nat.lt_of_lt_of_eq (by decide : 47 < 58) (szq (szq (szq (szq (szq (szq (szq (szq z)))))))).symm))) hS ?_
    refine tkp (i := 10) (d := (some 49)) rfl rfl (by kernel_rfl) hP (wanted_all rfl) (fun wx => run_field (p' := ⟨F, 1, none⟩) rfl (eve (Nat.lt_of_lt_of_eq (by decide : 48 < 58) (szq (szq (szq (szq (szq (szq (szq (szq (szq z))))))))).symm)) (fun w => by kernel_rfl)) hS ?_
    refine tkv (i := 11) (d := (some 50)) rfl rfl (by kernel_rfl) hP (wanted_all rfl) (fun wx hw => run_load rfl (eve (Nat.lt_of_lt_of_eq (by decide : 49 < 58) (szq (szq (szq (szq (szq (szq (szq (szq (szq (szq z)))))))))).symm)) (loadAt_one (fun w => by kernel_rfl) hw.2.2.2)) hS ?_
    refine tkp (i := 12) (d := (some 51)) rfl rfl (by kernel_rfl) hP (wanted_all rfl) (fun wx => run_bin (v := .bool false) rfl (evq (by decide) (evq (by decide) (evq (by decide) (evq (by decide) (evq (by decide) (evq (by decide) (evq (by decide) (evq (by decide) (evq (by decide) (evq (by decide) (eve (Nat.lt_of_lt_of_eq (by decide : 40 < 58) (szq z).symm)))))))))))) (eve (Nat.lt_of_lt_of_eq (by decide : 50 < 58) (szq (szq (szq (szq (szq (szq (szq (szq (szq (szq (szq z))))))))))).symm)) (hneq wx)) hS ?_
    refine wpAnyV_done (by kernel_rfl) (hQ.out _ _ ?_) _
    rw [hA.out]
    simp only [Act.put, List.setIfInBounds_toArray]
    dsimp only [List.set]
    clear hQ hP hA z hS Q a' e0 e6 e8 
    go_wp2_with fail
    exact ⟨⟨rfl, Or.inr ⟨rfl, HB2.out.trans (Below.refl _ _).drew⟩⟩, by simp [RowKit.intOf]⟩
  · go_wp2_with fail
    go_ret
    exact ⟨rfl, hbl.out⟩
end Go.Proofs.YtamglanahpcedaaGreatDoor
