/-
  OWN TEXT: mailbagref.Sorted, of files that are in their order already.
  OWN TEXT: mailbagref.Disk.Files, of a disk whose names are in their order.
-/
import Derived.Test.YtamglanahpcedaaGreatDoorFileM
import Derived.Test.YtamglanahpcedaaGreatDoorDiskHA
namespace Go.Proofs.YtamglanahpcedaaGreatDoor
open Go.RowKit Go.Lib

set_option maxRecDepth 100000 in
set_option maxHeartbeats 4000000 in
theorem sorted_some (b off cap : Nat) (xs : List Mb.Fl) (w : World) (hb : b < w.heap.size) (hc : FlsAt w b off xs) (hl : xs.length ≤ 1048576) (hs : ∀ (i : Nat) (x y : Mb.Fl), xs[i]? = some x → xs[i + 1]? = some y → Op.bytesLess x.name y.name = true) :
    Calls Tryz.prog 20 #[.slice (some ⟨b, off, none⟩) xs.length cap] w fun e w' => (∃ v, e = .returned v ∧ OwnF w' w.heap.size v xs) ∧ Below w.heap.size w w' := by
  have Hc := Lib.hid hc
  have Hs := Lib.hid hs
  clear hc hs
  go_enter Tryz.func20, Tryz.ntmps20
  go_wp2_with fail
  go_loopw [3, 4, 5] (fun o i _ wr => ∃ (k : Nat), k ≤ xs.length ∧ i = .int .i64 k ∧ Hid (OwnF wr w.heap.size o (xs.take k)) ∧ Hid (Below w.heap.size w wr)) (fun _ i _ _ => xs.length - (RowKit.intOf i).toNat)
  case atStart => exact ⟨0, Nat.zero_le _, rfl, OwnF.nil _ _, Below.refl _ _⟩
  case round =>
    obtain ⟨k, hk, rfl, hO, hbl⟩ := hrel
    by_cases hlt : k < xs.length
    · obtain ⟨oa, oc, rfl, hoc, hoat, _⟩ := OwnF.form hO.out
      have hlen : (xs.take k).length = k := by simp; omega
      have HLT := Lib.hid hlen
      rw [hlen] at hO hoc ⊢
      clear hlen
      go_wp2_with fail
      rename World => wo
      go_loopw [5] (fun j wr => j = .int .i64 (k : Int) ∧ wr = wo) (fun _ _ => 0)
      case atStart => exact ⟨rfl, rfl⟩
      case round =>
      obtain ⟨rfl, hwr⟩ := hrel
      subst wr
      obtain ⟨i0, hi, hz0, hz1, hz2⟩ := info_parts Tryz.info_file
      have hraw : wo.ownsRow w.heap.size 48 2 (.slice oa k oc) k (flCells (xs.take k)) := by
        have := hO.out
        unfold OwnF at this
        rwa [HLT.out] at this
      have hownA := (hraw.drew).alloc (.cells #[.string ⟨#[]⟩, .string ⟨#[]⟩] 48)
      have hsz := hbl.out.size
      have hadd : ∀ w, (do eqGuard .add 3 (.tmp 37) (.const (.int .i64 1)) (.int .i64 (k : Int)) (.int .i64 1); binOp .add 3 (.int .i64 (k : Int)) (.int .i64 1) : Sem Value).run Tryz.prog w = .ok (.int .i64 ((k + 1 : Nat) : Int)) w := fun w => by
        have hw : IntKind.i64.wrap ((k : Int) + 1) = (k : Int) + 1 := IntWalk.i64_in _ (by omega)
        go_simp
      obtain ⟨c0, c1⟩ := Hc.out k xs[k] (by simp [hlt])
      have d0 : wo.cell? ⟨b, off + k * 2, none⟩ = some (.string ⟨xs[k].name.toArray⟩) := (hbl.out.cell (p := ⟨b, off + k * 2, none⟩) hb).trans c0
      have d1 : wo.cell? ⟨b, off + k * 2 + 1, none⟩ = some (.string ⟨xs[k].data.toArray⟩) := (hbl.out.cell (p := ⟨b, off + k * 2 + 1, none⟩) hb).trans c1
      obtain ⟨bn, Hbn, Hbn'⟩ := named_bytes xs[k].name
      obtain ⟨bd, Hbd, Hbd'⟩ := named_bytes xs[k].data
      rw [← Hbn.out] at d0
      rw [← Hbd.out] at d1
      clear c0 c1
      rcases Nat.eq_zero_or_pos k with hk0 | hk0
      · have hgt0 : ∀ w, (do eqGuard .gtr 3 (.tmp 14) (.const (.int .i64 0)) (.int .i64 (k : Int)) (.int .i64 0); binOp .gtr 3 (.int .i64 (k : Int)) (.int .i64 0) : Sem Value).run Tryz.prog w = .ok (.bool false) w := fun w => by
          have : ¬ (0 : Int) < (k : Int) := by omega
          go_simp
        have Hk0 := Lib.hid hk0
        clear hk0
        go_wp2_with fail
        refine region_until 16 (fun w' : World => True) 16 rfl (by kernel_rfl) trivial (fun a' Q hA hQ hP hS => ?_)
        have z : a'.tmps.size = 52 := by rw [hA.out]; rfl
        have e0 : a'.eval (.tmp 0) = Value.slice (some ⟨b, off, none⟩) xs.length cap := by rw [hA.out]; rfl
        have e3 : a'.eval (.tmp 3) = Value.slice oa k oc := by rw [hA.out]; rfl
        have e4 : a'.eval (.tmp 4) = Value.int .i64 (k : Int) := by rw [hA.out]; rfl
        have e5 : a'.eval (.tmp 5) = Value.int .i64 (k : Int) := by rw [hA.out]; rfl
        refine tk (i := 0) (d := (some 14)) rfl rfl (by kernel_rfl) hP (fun w hw => run_move rfl e5) hS ?_
        refine tk (i := 1) (d := (some 15)) rfl rfl (by kernel_rfl) hP (fun w hw => run_bin (v := .bool false) rfl (eve (Nat.lt_of_lt_of_eq (by decide : 14 < 52) z.symm)) rfl (hgt0 w)) hS ?_
        refine tk (i := 2) (d := (some 16)) rfl rfl (by kernel_rfl) hP (fun w hw => run_move rfl (eve (Nat.lt_of_lt_of_eq (by decide : 15 < 52) (szq z).symm))) hS ?_
        refine tkn (i := 3) (d := (some 17)) rfl rfl (by kernel_rfl) hP (wanted_no (e := 16) (b := true) rfl rfl (eve (Nat.lt_of_lt_of_eq (by decide : 16 < 52) (szq (szq z)).symm))) hS ?_
        refine tkn (i := 4) (d := (some 18)) rfl rfl (by kernel_rfl) hP (wanted_no (e := 16) (b := true) rfl rfl (evq (by decide) (eve (Nat.lt_of_lt_of_eq (by decide : 16 < 52) (szq (szq z)).symm)))) hS ?_
        refine tkn (i := 5) (d := (some 19)) rfl rfl (by kernel_rfl) hP (wanted_no (e := 16) (b := true) rfl rfl (evq (by decide) (evq (by decide) (eve (Nat.lt_of_lt_of_eq (by decide : 16 < 52) (szq (szq z)).symm))))) hS ?_
        refine tkn (i := 6) (d := (some 20)) rfl rfl (by kernel_rfl) hP (wanted_no (e := 16) (b := true) rfl rfl (evq (by decide) (evq (by decide) (evq (by decide) (eve (Nat.lt_of_lt_of_eq (by decide : 16 < 52) (szq (szq z)).symm)))))) hS ?_
        refine tkn (i := 7) (d := (some 21)) rfl rfl (by kernel_rfl) hP (wanted_no (e := 16) (b := true) rfl rfl (evq (by decide) (evq (by decide) (evq (by decide) (evq (by decide) (eve (Nat.lt_of_lt_of_eq (by decide : 16 < 52) (szq (szq z)).symm))))))) hS ?_
        refine tkn (i := 8) (d := (some 22)) rfl rfl (by kernel_rfl) hP (wanted_no (e := 16) (b := true) rfl rfl (evq (by decide) (evq (by decide) (evq (by decide) (evq (by decide) (evq (by decide) (eve (Nat.lt_of_lt_of_eq (by decide : 16 < 52) (szq (szq z)).symm)))))))) hS ?_
        refine tkn (i := 9) (d := (some 23)) rfl rfl (by kernel_rfl) hP (wanted_no (e := 16) (b := true) rfl rfl (evq (by decide) (evq (by decide) (evq (by decide) (evq (by decide) (evq (by decide) (evq (by decide) (eve (Nat.lt_of_lt_of_eq (by decide : 16 < 52) (szq (szq z)).symm))))))))) hS ?_
        refine tkn (i := 10) (d := (some 24)) rfl rfl (by kernel_rfl) hP (wanted_no (e := 16) (b := true) rfl rfl (evq (by decide) (evq (by decide) (evq (by decide) (evq (by decide) (evq (by decide) (evq (by decide) (evq (by decide) (eve (Nat.lt_of_lt_of_eq (by decide : 16 < 52) (szq (szq z)).symm)))))))))) hS ?_
        refine tkn (i := 11) (d := (some 25)) rfl rfl (by kernel_rfl) hP (wanted_no (e := 16) (b := true) rfl rfl (evq (by decide) (evq (by decide) (evq (by decide) (evq (by decide) (evq (by decide) (evq (by decide) (evq (by decide) (evq (by decide) (eve (Nat.lt_of_lt_of_eq (by decide : 16 < 52) (szq (szq z)).symm))))))))))) hS ?_
        refine tkn (i := 12) (d := (some 26)) rfl rfl (by kernel_rfl) hP (wanted_no (e := 16) (b := true) rfl rfl (evq (by decide) (evq (by decide) (evq (by decide) (evq (by decide) (evq (by decide) (evq (by decide) (evq (by decide) (evq (by decide) (evq (by decide) (eve (Nat.lt_of_lt_of_eq (by decide : 16 < 52) (szq (szq z)).symm)))))))))))) hS ?_
        refine tkn (i := 13) (d := (some 27)) rfl rfl (by kernel_rfl) hP (wanted_no (e := 16) (b := true) rfl rfl (evq (by decide) (evq (by decide) (evq (by decide) (evq (by decide) (evq (by decide) (evq (by decide) (evq (by decide) (evq (by decide) (evq (by decide) (evq (by decide) (eve (Nat.lt_of_lt_of_eq (by decide : 16 < 52) (szq (szq z)).symm))))))))))))) hS ?_
        refine tkn (i := 14) (d := (some 28)) rfl rfl (by kernel_rfl) hP (wanted_no (e := 16) (b := true) rfl rfl (evq (by decide) (evq (by decide) (evq (by decide) (evq (by decide) (evq (by decide) (evq (by decide) (evq (by decide) (evq (by decide) (evq (by decide) (evq (by decide) (evq (by decide) (eve (Nat.lt_of_lt_of_eq (by decide : 16 < 52) (szq (szq z)).symm)))))))))))))) hS ?_
        refine tk (i := 15) (d := (some 29)) rfl rfl (by kernel_rfl) hP (fun w hw => run_pick (v := .bool false) rfl (evq (by decide) (evq (by decide) (evq (by decide) (evq (by decide) (evq (by decide) (evq (by decide) (evq (by decide) (evq (by decide) (evq (by decide) (evq (by decide) (evq (by decide) (evq (by decide) (eve (Nat.lt_of_lt_of_eq (by decide : 16 < 52) (szq (szq z)).symm)))))))))))))) (eve (Nat.lt_of_lt_of_eq (by decide : 28 < 52) (szq (szq (szq (szq (szq (szq (szq (szq (szq (szq (szq (szq (szq (szq z)))))))))))))).symm)) rfl rfl) hS ?_
        refine wpAnyU_done (by kernel_rfl) (hQ.out _ _ ?_) _
        rw [hA.out]
        simp only [Act.put, List.setIfInBounds_toArray]
        dsimp only [List.set]
        clear hQ hP hA z hS Q a' e0 e3 e4 e5 
        go_wp2_with (at_builtin; refine wpList_append_lies _ rfl (.tmp 32) (.tmp 34) 25 rfl w.heap.size 48 i0 (.agg #[.string ByteArray.empty, .string ByteArray.empty]) 2 32 Tryz.underlying25 hi hz0 hz1 hz2 rfl (by decide) (.slice oa k oc) k (flCells (xs.take k)) rfl hownA ⟨wo.heap.size, 0, none⟩ 1 1 [.string ⟨#[]⟩, .string ⟨#[]⟩] rfl rfl (World.news_of_block (cs := #[.string ⟨#[]⟩, .string ⟨#[]⟩]) (t := 48) (fr := (0, 0)) (heap_alloc_new wo.drew _)) (by simp [Value.oneCell']) (by decide) (by unfold maxLen; omega) (by omega) (by simp; omega) (wo.heap.size + 1) (by simp) ?_)
        intro g gc w3 hown3 hgrow3 hat3 hlt3
        obtain ⟨p1, hp1⟩ := file_tail g gc (show k + 1 ≤ k + 1 from Nat.le_refl _)
        simp only [Nat.sub_self] at hp1
        obtain ⟨p2, hp2⟩ := file_tail g gc (show k ≤ k + 1 by omega)
        have hob : (Value.slice oa k oc).ownBlock ≠ some b := fun e => by have := hraw.lt b e; omega
        go_wp2_with fail
        refine region_until 8 (fun w' : World => True) 8 rfl (by kernel_rfl) trivial (fun a' Q hA hQ hP hS => ?_)
        have z : a'.tmps.size = 52 := by rw [hA.out]; rfl
        have e3 : a'.eval (.tmp 3) = Value.slice (some ⟨g, 0, none⟩) (k + 1) gc := by rw [hA.out]; rfl
        have e5 : a'.eval (.tmp 5) = Value.int .i64 (k : Int) := by rw [hA.out]; rfl
        refine tk (i := 0) (d := (some 36)) rfl rfl (by kernel_rfl) hP (fun w hw => run_move rfl e3) hS ?_
        refine tk (i := 1) (d := (some 37)) rfl rfl (by kernel_rfl) hP (fun w hw => run_move rfl (evq (by decide) e5)) hS ?_
        refine tk (i := 2) (d := (some 38)) rfl rfl (by kernel_rfl) hP (fun w hw => run_bin (v := .int .i64 ((k + 1 : Nat) : Int)) rfl (eve (Nat.lt_of_lt_of_eq (by decide : 37 < 52) (szq z).symm)) rfl (hadd w)) hS ?_
        refine tk (i := 3) (d := (some 39)) rfl rfl (by kernel_rfl) hP (fun w hw => run_slice (v := .slice (some p1) 0 (gc - (k + 1))) rfl (evq (by decide) (evq (by decide) (eve (Nat.lt_of_lt_of_eq (by decide : 36 < 52) z.symm)))) (congrArg some (eve (Nat.lt_of_lt_of_eq (by decide : 38 < 52) (szq (szq z)).symm))) rfl (hp1 w)) hS ?_
        refine tk (i := 4) (d := (some 40)) rfl rfl (by kernel_rfl) hP (fun w hw => run_move rfl (evq (by decide) (evq (by decide) (evq (by decide) (evq (by decide) e3))))) hS ?_
        refine tk (i := 5) (d := (some 41)) rfl rfl (by kernel_rfl) hP (fun w hw => run_move rfl (evq (by decide) (evq (by decide) (evq (by decide) (evq (by decide) (evq (by decide) e5)))))) hS ?_
        refine tk (i := 6) (d := (some 42)) rfl rfl (by kernel_rfl) hP (fun w hw => run_slice (v := .slice (some p2) (k + 1 - k) (gc - k)) rfl (evq (by decide) (eve (Nat.lt_of_lt_of_eq (by decide : 40 < 52) (szq (szq (szq (szq z)))).symm))) (congrArg some (eve (Nat.lt_of_lt_of_eq (by decide : 41 < 52) (szq (szq (szq (szq (szq z))))).symm))) rfl (hp2 w)) hS ?_
        refine go_val (i := 7) (d := (some 43)) (v := .int .i64 0) (w' := _) (by kernel_rfl) rfl rfl rfl (run_call2 rfl (evq (by decide) (evq (by decide) (evq (by decide) (eve (Nat.lt_of_lt_of_eq (by decide : 39 < 52) (szq (szq (szq z))).symm))))) (eve (Nat.lt_of_lt_of_eq (by decide : 42 < 52) (szq (szq (szq (szq (szq (szq z)))))).symm)) (fun ρ h1 h2 => copy_none ρ h1 h2)) (fun _ => trivial) ?_
        refine wpAnyU_done (by kernel_rfl) (hQ.out _ _ ?_) _
        rw [hA.out]
        simp only [Act.put, List.setIfInBounds_toArray]
        dsimp only [List.set]
        clear hQ hP hA z hS Q a' e3 e5 
        have q0 := (hgrow3.cell_far ⟨b, off + k * 2, none⟩ (by simp; omega) (Ne.symm hob)).trans ((World.cell?_of_block (a := ⟨b, off + k * 2, none⟩) (Go.heap_alloc_old wo.drew _ (show b < wo.heap.size by omega))).trans d0)
        have q1 := (hgrow3.cell_far ⟨b, off + k * 2 + 1, none⟩ (by simp; omega) (Ne.symm hob)).trans ((World.cell?_of_block (a := ⟨b, off + k * 2 + 1, none⟩) (Go.heap_alloc_old wo.drew _ (show b < wo.heap.size by omega))).trans d1)
        have hlast : (flCells (xs.take k) ++ [.string ⟨#[]⟩, .string ⟨#[]⟩])[k * 2]? = some (.string ⟨#[]⟩) := by rw [List.getElem?_append_right (by rw [flCells_len, HLT.out]; omega)]; simp [flCells_len, HLT.out]
        have hlast1 : (flCells (xs.take k) ++ [.string ⟨#[]⟩, .string ⟨#[]⟩])[k * 2 + 1]? = some (.string ⟨#[]⟩) := by rw [List.getElem?_append_right (by rw [flCells_len, HLT.out]; omega)]; simp [flCells_len, HLT.out]
        have g0 := own_cell hown3 hlast
        have g1 := own_cell hown3 hlast1
        have gf := own_frozen hown3
        have hIb : ∀ w, (Instr.indexAt 25 (.slice (some ⟨b, off, none⟩) xs.length cap) (.int .i64 (k : Int))).run Tryz.prog w = .ok (.pointer (some ⟨b, off + k * 2, none⟩)) w := fun w => file_index hlt
        have hIg : ∀ w, (Instr.indexAt 25 (.slice (some ⟨g, 0, none⟩) (k + 1) gc) (.int .i64 (k : Int))).run Tryz.prog w = .ok (.pointer (some ⟨g, k * 2, none⟩)) w := fun w => file_index0 (by omega)
        go_wp2_with fail
        have hB3 : Below w.heap.size w w3 := ((hbl.out.drew).alloc hsz _).grown hgrow3 (by simp; omega) (fun k' hk' => (hraw.lt k' hk').1)
        have hgw : w.heap.size ≤ g := by
          rcases hat3 with h1 | h1
          · exact (hraw.lt g h1).1
          · have e : g = wo.heap.size + 1 := h1
            omega
        have hfin := (own_last hown3 HLT.out xs[k] Hbn'.out Hbd'.out)
        have HT : xs.take (k + 1) = xs.take k ++ [xs[k]] := List.take_succ_eq_append_getElem hlt
        refine ⟨⟨k + 1, by omega, by simp, ?_, ?_⟩, by simp [RowKit.intOf]; omega⟩
        · rw [HT]; exact OwnF.below hfin ((Below.refl _ _).drew)
        · exact ((hB3.setCell hgw _).setCell hgw _).drew
      · have hgt0 : ∀ w, (do eqGuard .gtr 3 (.tmp 14) (.const (.int .i64 0)) (.int .i64 (k : Int)) (.int .i64 0); binOp .gtr 3 (.int .i64 (k : Int)) (.int .i64 0) : Sem Value).run Tryz.prog w = .ok (.bool true) w := fun w => by
          have : (0 : Int) < (k : Int) := by omega
          go_simp
        have HK0 := Lib.hid hk0
        have hkm : k - 1 < k := by omega
        have hsub : ∀ w, (do eqGuard .sub 3 (.tmp 18) (.const (.int .i64 1)) (.int .i64 (k : Int)) (.int .i64 1); binOp .sub 3 (.int .i64 (k : Int)) (.int .i64 1) : Sem Value).run Tryz.prog w = .ok (.int .i64 ((k - 1 : Nat) : Int)) w := fun w => by
          have hw : IntKind.i64.wrap ((k : Int) - 1) = ((k - 1 : Nat) : Int) := by rw [IntWalk.i64_in _ (by omega)]; omega
          go_simp
        obtain ⟨og, oc', hog, _, _, _, hats⟩ := OwnF.some hO.out (by intro e; rw [e] at HLT; have := HLT.out; simp at this; omega)
        injection hog with e1 e2 e3
        subst e1
        clear e2 e3
        obtain ⟨p0, p1⟩ := hats (k - 1) (xs[k - 1]'(by omega)) (by rw [List.getElem?_take_of_lt hkm]; simp)
        simp only [Nat.zero_add] at p0
        obtain ⟨bp, Hbp, Hbp'⟩ := named_bytes (xs[k - 1]'(by omega)).name
        rw [← Hbp.out] at p0
        have hgt : ∀ w, (do eqGuard .gtr 9 (.tmp 22) (.tmp 27) (.string bp) (.string bn); binOp .gtr 9 (.string bp) (.string bn) : Sem Value).run Tryz.prog w = .ok (.bool false) w := fun w => by
          have h1 : Op.bytesLess bp.toList bn.toList = true := by
            rw [ByteArray.toList_eq, ByteArray.toList_eq, Hbp'.out, Hbn'.out]
            refine Hs.out (k - 1) _ _ (by simp) ?_
            have : k - 1 + 1 = k := by omega
            rw [this]; simp [hlt]
          go_simp
        clear p1 hats Hbp Hbp' hkm hk0
        go_wp2_with fail
        refine region_until 16 (fun w' : World => w'.cell? ⟨og, (k - 1) * 2, none⟩ = some (.string bp) ∧ w'.cell? ⟨b, off + k * 2, none⟩ = some (.string bn)) 16 rfl (by kernel_rfl) ⟨p0, d0⟩ (fun a' Q hA hQ hP hS => ?_)
        have z : a'.tmps.size = 52 := by rw [hA.out]; rfl
        have e0 : a'.eval (.tmp 0) = Value.slice (some ⟨b, off, none⟩) xs.length cap := by rw [hA.out]; rfl
        have e3 : a'.eval (.tmp 3) = Value.slice (some ⟨og, 0, none⟩) k oc := by rw [hA.out]; rfl
        have e4 : a'.eval (.tmp 4) = Value.int .i64 (k : Int) := by rw [hA.out]; rfl
        have e5 : a'.eval (.tmp 5) = Value.int .i64 (k : Int) := by rw [hA.out]; rfl
        refine tk (i := 0) (d := (some 14)) rfl rfl (by kernel_rfl) hP (fun w hw => run_move rfl e5) hS ?_
        refine tk (i := 1) (d := (some 15)) rfl rfl (by kernel_rfl) hP (fun w hw => run_bin (v := .bool true) rfl (eve (Nat.lt_of_lt_of_eq (by decide : 14 < 52) z.symm)) rfl (hgt0 w)) hS ?_
        refine tk (i := 2) (d := (some 16)) rfl rfl (by kernel_rfl) hP (fun w hw => run_move rfl (eve (Nat.lt_of_lt_of_eq (by decide : 15 < 52) (szq z).symm))) hS ?_
        refine tkg (i := 3) (d := (some 17)) rfl rfl (by kernel_rfl) hP (wanted_yes (e := 16) (b := true) rfl rfl (eve (Nat.lt_of_lt_of_eq (by decide : 16 < 52) (szq (szq z)).symm))) (fun w hw => run_move rfl (evq (by decide) (evq (by decide) (evq (by decide) e3)))) hS ?_
        refine tkg (i := 4) (d := (some 18)) rfl rfl (by kernel_rfl) hP (wanted_yes (e := 16) (b := true) rfl rfl (evq (by decide) (eve (Nat.lt_of_lt_of_eq (by decide : 16 < 52) (szq (szq z)).symm)))) (fun w hw => run_move rfl (evq (by decide) (evq (by decide) (evq (by decide) (evq (by decide) e5))))) hS ?_
        refine tkg (i := 5) (d := (some 19)) rfl rfl (by kernel_rfl) hP (wanted_yes (e := 16) (b := true) rfl rfl (evq (by decide) (evq (by decide) (eve (Nat.lt_of_lt_of_eq (by decide : 16 < 52) (szq (szq z)).symm))))) (fun w hw => run_bin (v := .int .i64 ((k - 1 : Nat) : Int)) rfl (eve (Nat.lt_of_lt_of_eq (by decide : 18 < 52) (szq (szq (szq (szq z)))).symm)) rfl (hsub w)) hS ?_
        refine tkg (i := 6) (d := (some 20)) rfl rfl (by kernel_rfl) hP (wanted_yes (e := 16) (b := true) rfl rfl (evq (by decide) (evq (by decide) (evq (by decide) (eve (Nat.lt_of_lt_of_eq (by decide : 16 < 52) (szq (szq z)).symm)))))) (fun w hw => run_index (v := .pointer (some ⟨og, (k - 1) * 2, none⟩)) rfl (evq (by decide) (evq (by decide) (eve (Nat.lt_of_lt_of_eq (by decide : 17 < 52) (szq (szq (szq z))).symm)))) (eve (Nat.lt_of_lt_of_eq (by decide : 19 < 52) (szq (szq (szq (szq (szq z))))).symm)) (file_index0 (by have := HK0.out; omega))) hS ?_
        refine tkg (i := 7) (d := (some 21)) rfl rfl (by kernel_rfl) hP (wanted_yes (e := 16) (b := true) rfl rfl (evq (by decide) (evq (by decide) (evq (by decide) (evq (by decide) (eve (Nat.lt_of_lt_of_eq (by decide : 16 < 52) (szq (szq z)).symm))))))) (fun w hw => run_field (p' := ⟨og, (k - 1) * 2, none⟩) rfl (eve (Nat.lt_of_lt_of_eq (by decide : 20 < 52) (szq (szq (szq (szq (szq (szq z)))))).symm)) (fun w => by kernel_rfl)) hS ?_
        refine tkg (i := 8) (d := (some 22)) rfl rfl (by kernel_rfl) hP (wanted_yes (e := 16) (b := true) rfl rfl (evq (by decide) (evq (by decide) (evq (by decide) (evq (by decide) (evq (by decide) (eve (Nat.lt_of_lt_of_eq (by decide : 16 < 52) (szq (szq z)).symm)))))))) (fun w hw => run_load rfl (eve (Nat.lt_of_lt_of_eq (by decide : 21 < 52) (szq (szq (szq (szq (szq (szq (szq z))))))).symm)) (loadAt_one (fun w => by kernel_rfl) hw.1)) hS ?_
        refine tkg (i := 9) (d := (some 23)) rfl rfl (by kernel_rfl) hP (wanted_yes (e := 16) (b := true) rfl rfl (evq (by decide) (evq (by decide) (evq (by decide) (evq (by decide) (evq (by decide) (evq (by decide) (eve (Nat.lt_of_lt_of_eq (by decide : 16 < 52) (szq (szq z)).symm))))))))) (fun w hw => run_move rfl (evq (by decide) (evq (by decide) (evq (by decide) (evq (by decide) (evq (by decide) (evq (by decide) (evq (by decide) (evq (by decide) (evq (by decide) e0)))))))))) hS ?_
        refine tkg (i := 10) (d := (some 24)) rfl rfl (by kernel_rfl) hP (wanted_yes (e := 16) (b := true) rfl rfl (evq (by decide) (evq (by decide) (evq (by decide) (evq (by decide) (evq (by decide) (evq (by decide) (evq (by decide) (eve (Nat.lt_of_lt_of_eq (by decide : 16 < 52) (szq (szq z)).symm)))))))))) (fun w hw => run_move rfl (evq (by decide) (evq (by decide) (evq (by decide) (evq (by decide) (evq (by decide) (evq (by decide) (evq (by decide) (evq (by decide) (evq (by decide) (evq (by decide) e4))))))))))) hS ?_
        refine tkg (i := 11) (d := (some 25)) rfl rfl (by kernel_rfl) hP (wanted_yes (e := 16) (b := true) rfl rfl (evq (by decide) (evq (by decide) (evq (by decide) (evq (by decide) (evq (by decide) (evq (by decide) (evq (by decide) (evq (by decide) (eve (Nat.lt_of_lt_of_eq (by decide : 16 < 52) (szq (szq z)).symm))))))))))) (fun w hw => run_index (v := .pointer (some ⟨b, off + k * 2, none⟩)) rfl (evq (by decide) (eve (Nat.lt_of_lt_of_eq (by decide : 23 < 52) (szq (szq (szq (szq (szq (szq (szq (szq (szq z))))))))).symm))) (eve (Nat.lt_of_lt_of_eq (by decide : 24 < 52) (szq (szq (szq (szq (szq (szq (szq (szq (szq (szq z)))))))))).symm)) (file_index (by omega))) hS ?_
        refine tkg (i := 12) (d := (some 26)) rfl rfl (by kernel_rfl) hP (wanted_yes (e := 16) (b := true) rfl rfl (evq (by decide) (evq (by decide) (evq (by decide) (evq (by decide) (evq (by decide) (evq (by decide) (evq (by decide) (evq (by decide) (evq (by decide) (eve (Nat.lt_of_lt_of_eq (by decide : 16 < 52) (szq (szq z)).symm)))))))))))) (fun w hw => run_field (p' := ⟨b, off + k * 2, none⟩) rfl (eve (Nat.lt_of_lt_of_eq (by decide : 25 < 52) (szq (szq (szq (szq (szq (szq (szq (szq (szq (szq (szq z))))))))))).symm)) (fun w => by kernel_rfl)) hS ?_
        refine tkg (i := 13) (d := (some 27)) rfl rfl (by kernel_rfl) hP (wanted_yes (e := 16) (b := true) rfl rfl (evq (by decide) (evq (by decide) (evq (by decide) (evq (by decide) (evq (by decide) (evq (by decide) (evq (by decide) (evq (by decide) (evq (by decide) (evq (by decide) (eve (Nat.lt_of_lt_of_eq (by decide : 16 < 52) (szq (szq z)).symm))))))))))))) (fun w hw => run_load rfl (eve (Nat.lt_of_lt_of_eq (by decide : 26 < 52) (szq (szq (szq (szq (szq (szq (szq (szq (szq (szq (szq (szq z)))))))))))).symm)) (loadAt_one (fun w => by kernel_rfl) hw.2)) hS ?_
        refine tkg (i := 14) (d := (some 28)) rfl rfl (by kernel_rfl) hP (wanted_yes (e := 16) (b := true) rfl rfl (evq (by decide) (evq (by decide) (evq (by decide) (evq (by decide) (evq (by decide) (evq (by decide) (evq (by decide) (evq (by decide) (evq (by decide) (evq (by decide) (evq (by decide) (eve (Nat.lt_of_lt_of_eq (by decide : 16 < 52) (szq (szq z)).symm)))))))))))))) (fun w hw => run_bin (v := .bool false) rfl (evq (by decide) (evq (by decide) (evq (by decide) (evq (by decide) (evq (by decide) (eve (Nat.lt_of_lt_of_eq (by decide : 22 < 52) (szq (szq (szq (szq (szq (szq (szq (szq z)))))))).symm))))))) (eve (Nat.lt_of_lt_of_eq (by decide : 27 < 52) (szq (szq (szq (szq (szq (szq (szq (szq (szq (szq (szq (szq (szq z))))))))))))).symm)) (hgt w)) hS ?_
        refine tk (i := 15) (d := (some 29)) rfl rfl (by kernel_rfl) hP (fun w hw => run_pick (v := .bool false) rfl (evq (by decide) (evq (by decide) (evq (by decide) (evq (by decide) (evq (by decide) (evq (by decide) (evq (by decide) (evq (by decide) (evq (by decide) (evq (by decide) (evq (by decide) (evq (by decide) (eve (Nat.lt_of_lt_of_eq (by decide : 16 < 52) (szq (szq z)).symm)))))))))))))) (eve (Nat.lt_of_lt_of_eq (by decide : 28 < 52) (szq (szq (szq (szq (szq (szq (szq (szq (szq (szq (szq (szq (szq (szq z)))))))))))))).symm)) rfl rfl) hS ?_
        refine wpAnyU_done (by kernel_rfl) (hQ.out _ _ ?_) _
        rw [hA.out]
        simp only [Act.put, List.setIfInBounds_toArray]
        dsimp only [List.set]
        clear hQ hP hA z hS Q a' e0 e3 e4 e5 
        go_wp2_with (at_builtin; refine wpList_append_lies _ rfl (.tmp 32) (.tmp 34) 25 rfl w.heap.size 48 i0 (.agg #[.string ByteArray.empty, .string ByteArray.empty]) 2 32 Tryz.underlying25 hi hz0 hz1 hz2 rfl (by decide) (.slice (some ⟨og, 0, none⟩) k oc) k (flCells (xs.take k)) rfl hownA ⟨wo.heap.size, 0, none⟩ 1 1 [.string ⟨#[]⟩, .string ⟨#[]⟩] rfl rfl (World.news_of_block (cs := #[.string ⟨#[]⟩, .string ⟨#[]⟩]) (t := 48) (fr := (0, 0)) (heap_alloc_new wo.drew _)) (by simp [Value.oneCell']) (by decide) (by unfold maxLen; omega) (by omega) (by simp; omega) (wo.heap.size + 1) (by simp) ?_)
        intro g gc w3 hown3 hgrow3 hat3 hlt3
        obtain ⟨p1, hp1⟩ := file_tail g gc (show k + 1 ≤ k + 1 from Nat.le_refl _)
        simp only [Nat.sub_self] at hp1
        obtain ⟨p2, hp2⟩ := file_tail g gc (show k ≤ k + 1 by omega)
        have hob : (Value.slice (some ⟨og, 0, none⟩) k oc).ownBlock ≠ some b := fun e => by have := hraw.lt b e; omega
        go_wp2_with fail
        refine region_until 8 (fun w' : World => True) 8 rfl (by kernel_rfl) trivial (fun a' Q hA hQ hP hS => ?_)
        have z : a'.tmps.size = 52 := by rw [hA.out]; rfl
        have e3 : a'.eval (.tmp 3) = Value.slice (some ⟨g, 0, none⟩) (k + 1) gc := by rw [hA.out]; rfl
        have e5 : a'.eval (.tmp 5) = Value.int .i64 (k : Int) := by rw [hA.out]; rfl
        refine tk (i := 0) (d := (some 36)) rfl rfl (by kernel_rfl) hP (fun w hw => run_move rfl e3) hS ?_
        refine tk (i := 1) (d := (some 37)) rfl rfl (by kernel_rfl) hP (fun w hw => run_move rfl (evq (by decide) e5)) hS ?_
        refine tk (i := 2) (d := (some 38)) rfl rfl (by kernel_rfl) hP (fun w hw => run_bin (v := .int .i64 ((k + 1 : Nat) : Int)) rfl (eve (Nat.lt_of_lt_of_eq (by decide : 37 < 52) (szq z).symm)) rfl (hadd w)) hS ?_
        refine tk (i := 3) (d := (some 39)) rfl rfl (by kernel_rfl) hP (fun w hw => run_slice (v := .slice (some p1) 0 (gc - (k + 1))) rfl (evq (by decide) (evq (by decide) (eve (Nat.lt_of_lt_of_eq (by decide : 36 < 52) z.symm)))) (congrArg some (eve (Nat.lt_of_lt_of_eq (by decide : 38 < 52) (szq (szq z)).symm))) rfl (hp1 w)) hS ?_
        refine tk (i := 4) (d := (some 40)) rfl rfl (by kernel_rfl) hP (fun w hw => run_move rfl (evq (by decide) (evq (by decide) (evq (by decide) (evq (by decide) e3))))) hS ?_
        refine tk (i := 5) (d := (some 41)) rfl rfl (by kernel_rfl) hP (fun w hw => run_move rfl (evq (by decide) (evq (by decide) (evq (by decide) (evq (by decide) (evq (by decide) e5)))))) hS ?_
        refine tk (i := 6) (d := (some 42)) rfl rfl (by kernel_rfl) hP (fun w hw => run_slice (v := .slice (some p2) (k + 1 - k) (gc - k)) rfl (evq (by decide) (eve (Nat.lt_of_lt_of_eq (by decide : 40 < 52) (szq (szq (szq (szq z)))).symm))) (congrArg some (eve (Nat.lt_of_lt_of_eq (by decide : 41 < 52) (szq (szq (szq (szq (szq z))))).symm))) rfl (hp2 w)) hS ?_
        refine go_val (i := 7) (d := (some 43)) (v := .int .i64 0) (w' := _) (by kernel_rfl) rfl rfl rfl (run_call2 rfl (evq (by decide) (evq (by decide) (evq (by decide) (eve (Nat.lt_of_lt_of_eq (by decide : 39 < 52) (szq (szq (szq z))).symm))))) (eve (Nat.lt_of_lt_of_eq (by decide : 42 < 52) (szq (szq (szq (szq (szq (szq z)))))).symm)) (fun ρ h1 h2 => copy_none ρ h1 h2)) (fun _ => trivial) ?_
        refine wpAnyU_done (by kernel_rfl) (hQ.out _ _ ?_) _
        rw [hA.out]
        simp only [Act.put, List.setIfInBounds_toArray]
        dsimp only [List.set]
        clear hQ hP hA z hS Q a' e3 e5 
        have q0 := (hgrow3.cell_far ⟨b, off + k * 2, none⟩ (by simp; omega) (Ne.symm hob)).trans ((World.cell?_of_block (a := ⟨b, off + k * 2, none⟩) (Go.heap_alloc_old wo.drew _ (show b < wo.heap.size by omega))).trans d0)
        have q1 := (hgrow3.cell_far ⟨b, off + k * 2 + 1, none⟩ (by simp; omega) (Ne.symm hob)).trans ((World.cell?_of_block (a := ⟨b, off + k * 2 + 1, none⟩) (Go.heap_alloc_old wo.drew _ (show b < wo.heap.size by omega))).trans d1)
        have hlast : (flCells (xs.take k) ++ [.string ⟨#[]⟩, .string ⟨#[]⟩])[k * 2]? = some (.string ⟨#[]⟩) := by rw [List.getElem?_append_right (by rw [flCells_len, HLT.out]; omega)]; simp [flCells_len, HLT.out]
        have hlast1 : (flCells (xs.take k) ++ [.string ⟨#[]⟩, .string ⟨#[]⟩])[k * 2 + 1]? = some (.string ⟨#[]⟩) := by rw [List.getElem?_append_right (by rw [flCells_len, HLT.out]; omega)]; simp [flCells_len, HLT.out]
        have g0 := own_cell hown3 hlast
        have g1 := own_cell hown3 hlast1
        have gf := own_frozen hown3
        have hIb : ∀ w, (Instr.indexAt 25 (.slice (some ⟨b, off, none⟩) xs.length cap) (.int .i64 (k : Int))).run Tryz.prog w = .ok (.pointer (some ⟨b, off + k * 2, none⟩)) w := fun w => file_index hlt
        have hIg : ∀ w, (Instr.indexAt 25 (.slice (some ⟨g, 0, none⟩) (k + 1) gc) (.int .i64 (k : Int))).run Tryz.prog w = .ok (.pointer (some ⟨g, k * 2, none⟩)) w := fun w => file_index0 (by omega)
        go_wp2_with fail
        have hB3 : Below w.heap.size w w3 := ((hbl.out.drew).alloc hsz _).grown hgrow3 (by simp; omega) (fun k' hk' => (hraw.lt k' hk').1)
        have hgw : w.heap.size ≤ g := by
          rcases hat3 with h1 | h1
          · exact (hraw.lt g h1).1
          · have e : g = wo.heap.size + 1 := h1
            omega
        have hfin := (own_last hown3 HLT.out xs[k] Hbn'.out Hbd'.out)
        have HT : xs.take (k + 1) = xs.take k ++ [xs[k]] := List.take_succ_eq_append_getElem hlt
        refine ⟨⟨k + 1, by omega, by simp, ?_, ?_⟩, by simp [RowKit.intOf]; omega⟩
        · rw [HT]; exact OwnF.below hfin ((Below.refl _ _).drew)
        · exact ((hB3.setCell hgw _).setCell hgw _).drew
    · go_wp2
      go_ret
      have hke : k = xs.length := by omega
      have := hO.out
      rw [hke, List.take_length] at this
      exact ⟨⟨_, rfl, this⟩, hbl.out⟩
theorem sorted_empty (a : Option Addr) (cap : Nat) (w : World) :
    Calls Tryz.prog 20 #[.slice a 0 cap] w fun e w' => (∃ v, e = .returned v ∧ OwnF w' w.heap.size v []) ∧ Below w.heap.size w w' := by
  go_enter Tryz.func20, Tryz.ntmps20
  go_wp2_with fail
  go_loop [3, 4, 5] (fun o i _ => o = .slice none 0 0 ∧ i = .int .i64 0) (fun _ _ _ => 0)
  case atStart => exact ⟨rfl, rfl⟩
  case round =>
    obtain ⟨rfl, rfl⟩ := hrel
    go_wp2
    go_ret
    exact ⟨⟨_, rfl, OwnF.nil _ _⟩, Below.refl _ _⟩
/-- files in their order -/
def Mb.InOrder (xs : List Mb.Fl) : Prop := ∀ (i : Nat) (x y : Mb.Fl), xs[i]? = some x → xs[i + 1]? = some y → Op.bytesLess x.name y.name = true
theorem sorted_any (a : Option Addr) (cap : Nat) (xs : List Mb.Fl) (w : World) (hc : FlAt w a xs) (hl : xs.length ≤ 1048576) (hs : Mb.InOrder xs) :
    Calls Tryz.prog 20 #[.slice a xs.length cap] w fun e w' => (∃ v, e = .returned v ∧ OwnF w' w.heap.size v xs) ∧ Below w.heap.size w w' := by
  rcases hc with rfl | ⟨b, off, rfl, hb, hc⟩
  · exact sorted_empty a cap w
  · exact sorted_some b off cap xs w hb hc hl hs
end Go.Proofs.YtamglanahpcedaaGreatDoor
namespace Go.Proofs.YtamglanahpcedaaGreatDoor
open Go.RowKit Go.Lib

/-- each name stands for bytes that are there -/
def Mb.Good (D : Mb.Dk) : Prop := ∀ (k : Nat) (x : Mb.Nm), D.names[k]? = some x → ∃ (nd : Nat) (y : Mb.Nd), x.node = (nd : Int) ∧ D.nodes[nd]? = some y
def Mb.dataOf (D : Mb.Dk) (x : Mb.Nm) : List UInt8 := ((D.nodes[x.node.toNat]?).getD ⟨[], 0⟩).data
def Mb.filesOf (D : Mb.Dk) : List Mb.Fl := D.names.map fun x => ⟨x.name, Mb.dataOf D x⟩

theorem ownN_some {w : World} {B : Nat} {v : Value} {xs : List Mb.Nm} {k : Nat} {x : Mb.Nm} (h : OwnN w B v xs) (hx : xs[k]? = some x) : ∃ b off cap, v = .slice (some ⟨b, off, none⟩) xs.length cap ∧ b < w.heap.size ∧ NmsAt w b off xs := by
  obtain ⟨a, cap, h1, _, h3, _⟩ := OwnN.form h
  rcases h3 with h3 | ⟨b, off, h5, h6, h7⟩
  · rw [h3] at hx; simp at hx
  · subst h5; exact ⟨b, off, cap, h1, h6, h7⟩
theorem ownD_some {w : World} {B : Nat} {v : Value} {xs : List Mb.Nd} {k : Nat} {x : Mb.Nd} (h : w.ownsRow B 50 2 v xs.length (ndCells xs)) (hx : xs[k]? = some x) : ∃ g cap, v = .slice (some ⟨g, 0, none⟩) xs.length cap ∧ g < w.heap.size ∧ w.cell? ⟨g, k * 2, none⟩ = some (.string ⟨x.data.toArray⟩) ∧ w.cell? ⟨g, k * 2 + 1, none⟩ = some (.int .i64 x.safe) := by
  rcases h.2 with ⟨h1, h2⟩ | ⟨g, c, cur, h1, _, h3, _⟩
  · have := (List.getElem?_eq_some_iff.1 hx).1; omega
  · subst h1
    exact ⟨g, c, rfl, (Array.getElem?_eq_some_iff.1 h3).1, own_cell h (ndCells_get _ _ _ hx).1, own_cell h (ndCells_get _ _ _ hx).2⟩

set_option maxRecDepth 100000 in
set_option maxHeartbeats 4000000 in
theorem diskFiles_any {role : Nat → Nat} {B K : Nat} {V : DkV} {D : Mb.Dk} {W : World} (h : DkAt role B K V D W) (hg : Mb.Good D) (hl : D.names.length ≤ 1048576) (hs : Mb.InOrder (Mb.filesOf D)) :
    Calls Tryz.prog 11 #[.pointer (some ⟨K, 0, none⟩)] W fun e w' => (∃ v, e = .returned v ∧ OwnF w' W.heap.size v (Mb.filesOf D)) ∧ Below W.heap.size W w' := by
  have Hh := Lib.hid h
  have Hg := Lib.hid hg
  have Hs := Lib.hid hs
  have hKb : K < W.heap.size := h.lt
  obtain ⟨na, ncap, hvn, _⟩ := OwnN.form h.on.1
  have k0 : W.cell? ⟨K, 0, none⟩ = some (.slice na D.names.length ncap) := by rw [← hvn]; simp [World.cell?, h.blk]
  have hfl : (Mb.filesOf D).length = D.names.length := by simp [Mb.filesOf]
  have Hfl := Lib.hid hfl
  clear h hg hs hfl
  go_enter Tryz.func11, Tryz.ntmps11
  go_wp2_with fail
  go_loopw [3, 4] (fun l i wr => ∃ (k : Nat), k ≤ D.names.length ∧ i = .int .i64 k ∧ Hid (OwnF wr W.heap.size l ((Mb.filesOf D).take k)) ∧ Hid (Below W.heap.size W wr)) (fun _ i _ => D.names.length - (RowKit.intOf i).toNat)
  case atStart => exact ⟨0, Nat.zero_le _, rfl, OwnF.nil _ _, Below.refl _ _⟩
  case round =>
    obtain ⟨k, hk, rfl, hO, hbl⟩ := hrel
    have c0 : wr.cell? ⟨K, 0, none⟩ = some (.slice na D.names.length ncap) := (hbl.out.cell (p := ⟨K, 0, none⟩) hKb).trans k0
    obtain ⟨la, lc, rfl, hlc, hlat, _⟩ := OwnF.form hO.out
    have HLT : Hid (((Mb.filesOf D).take k).length = k) := by unfold Hid; simp [Hfl.out]; omega
    rw [HLT.out] at hO hlc ⊢
    by_cases hkl : k < D.names.length
    · obtain ⟨nd, y, hxn, hy⟩ := Hg.out k D.names[k] (by simp [hkl])
      obtain ⟨nb, noff, ncap', hvn', hnb, hns⟩ := ownN_some Hh.out.on.1 (k := k) (x := D.names[k]) (by simp [hkl])
      rw [hvn] at hvn'
      injection hvn' with e1 e2 e3
      subst e1 e3
      obtain ⟨gd, dcap, hvd, hgb, hd0, _⟩ := ownD_some Hh.out.od.1 hy
      have k2 : W.cell? ⟨K, 2, none⟩ = some (.slice (some ⟨gd, 0, none⟩) D.nodes.length dcap) := by rw [← hvd]; simp [World.cell?, Hh.out.blk]
      obtain ⟨m0, m1⟩ := hns k D.names[k] (by simp [hkl])
      have hnl : nd < D.nodes.length := (List.getElem?_eq_some_iff.1 hy).1
      obtain ⟨bn, Hbn, Hbn'⟩ := named_bytes D.names[k].name
      obtain ⟨bd, Hbd, Hbd'⟩ := named_bytes y.data
      rw [← Hbn.out] at m0
      rw [← Hbd.out] at hd0
      rw [hxn] at m1
      have c2 := (hbl.out.cell (p := ⟨K, 2, none⟩) hKb).trans k2
      have n0 := (hbl.out.cell (p := ⟨nb, noff + k * 2, none⟩) hnb).trans m0
      have n1 := (hbl.out.cell (p := ⟨nb, noff + k * 2 + 1, none⟩) hnb).trans m1
      have d0 := (hbl.out.cell (p := ⟨gd, nd * 2, none⟩) hgb).trans hd0
      have hsz := hbl.out.size
      have hfile : Hid ((Mb.filesOf D).take (k + 1) = (Mb.filesOf D).take k ++ [⟨bn.data.toList, bd.data.toList⟩]) := by
        unfold Hid
        rw [List.take_succ_eq_append_getElem (by rw [Hfl.out]; exact hkl)]
        congr 2
        simp [Mb.filesOf, Mb.dataOf, hxn, hy, Hbn'.out, Hbd'.out]
      have hraw : wr.ownsRow W.heap.size 48 2 (.slice la k lc) k (flCells ((Mb.filesOf D).take k)) := by
        have := hO.out
        unfold OwnF at this
        rwa [HLT.out] at this
      have hownA := (hraw.drew).alloc (.cells #[.string bn, .string bd] 48)
      have hnot : ∀ b, b < W.heap.size → some b ≠ (Value.slice la k lc).ownBlock := fun b hb e => by have := (hraw.lt b e.symm).1; omega
      have hS1 : (wr.drew.alloc (.cells #[.string bn, .string bd] 48)).cell? ⟨K, 0, none⟩ = some (.slice (some ⟨nb, noff, none⟩) D.names.length ncap) ∧ (wr.drew.alloc (.cells #[.string bn, .string bd] 48)).cell? ⟨K, 2, none⟩ = some (.slice (some ⟨gd, 0, none⟩) D.nodes.length dcap) ∧ (wr.drew.alloc (.cells #[.string bn, .string bd] 48)).cell? ⟨nb, noff + k * 2, none⟩ = some (.string bn) ∧ (wr.drew.alloc (.cells #[.string bn, .string bd] 48)).cell? ⟨nb, noff + k * 2 + 1, none⟩ = some (.int .i64 (nd : Int)) ∧ (wr.drew.alloc (.cells #[.string bn, .string bd] 48)).cell? ⟨gd, nd * 2, none⟩ = some (.string bd) := ⟨(World.cell?_of_block (a := ⟨K, 0, none⟩) (Go.heap_alloc_old wr.drew _ (show K < wr.heap.size by omega))).trans c0, (World.cell?_of_block (a := ⟨K, 2, none⟩) (Go.heap_alloc_old wr.drew _ (show K < wr.heap.size by omega))).trans c2, (World.cell?_of_block (a := ⟨nb, noff + k * 2, none⟩) (Go.heap_alloc_old wr.drew _ (show nb < wr.heap.size by omega))).trans n0, (World.cell?_of_block (a := ⟨nb, noff + k * 2 + 1, none⟩) (Go.heap_alloc_old wr.drew _ (show nb < wr.heap.size by omega))).trans n1, (World.cell?_of_block (a := ⟨gd, nd * 2, none⟩) (Go.heap_alloc_old wr.drew _ (show gd < wr.heap.size by omega))).trans d0⟩
      clear e2 hns hd0 m0 m1 k2 hvn Hbn Hbd hxn hy hvd
      go_wp2_with fail
      refine region_until 28 (fun w' : World => w'.cell? ⟨K, 0, none⟩ = some (.slice (some ⟨nb, noff, none⟩) D.names.length ncap) ∧ w'.cell? ⟨K, 2, none⟩ = some (.slice (some ⟨gd, 0, none⟩) D.nodes.length dcap) ∧ w'.cell? ⟨nb, noff + k * 2, none⟩ = some (.string bn) ∧ w'.cell? ⟨nb, noff + k * 2 + 1, none⟩ = some (.int .i64 (nd : Int)) ∧ w'.cell? ⟨gd, nd * 2, none⟩ = some (.string bd)) 28 rfl (by kernel_rfl) ⟨c0, c2, n0, n1, d0⟩ (fun a' Q hA hQ hP hS => ?_)
      have z : a'.tmps.size = 43 := by rw [hA.out]; rfl
      have e0 : a'.eval (.tmp 0) = Value.pointer (some ⟨K, 0, none⟩) := by rw [hA.out]; rfl
      have e3 : a'.eval (.tmp 3) = Value.slice la k lc := by rw [hA.out]; rfl
      have e4 : a'.eval (.tmp 4) = Value.int .i64 (k : Int) := by rw [hA.out]; rfl
      refine tk (i := 0) (d := (some 14)) rfl rfl (by kernel_rfl) hP (fun w hw => run_move rfl e3) hS ?_
      refine tk (i := 1) (d := (some 15)) rfl rfl (by kernel_rfl) hP (fun w hw => run_move rfl (evq (by decide) e0)) hS ?_
      refine tk (i := 2) (d := (some 16)) rfl rfl (by kernel_rfl) hP (fun w hw => run_nil rfl (eve (Nat.lt_of_lt_of_eq (by decide : 15 < 43) (szq z).symm))) hS ?_
      refine tk (i := 3) (d := (some 17)) rfl rfl (by kernel_rfl) hP (fun w hw => run_field (p' := ⟨K, 0, none⟩) rfl (eve (Nat.lt_of_lt_of_eq (by decide : 16 < 43) (szq (szq z)).symm)) (fun w => by kernel_rfl)) hS ?_
      refine tk (i := 4) (d := (some 18)) rfl rfl (by kernel_rfl) hP (fun w hw => run_load rfl (eve (Nat.lt_of_lt_of_eq (by decide : 17 < 43) (szq (szq (szq z))).symm)) (loadAt_one (fun w => by kernel_rfl) hw.1)) hS ?_
      refine tk (i := 5) (d := (some 19)) rfl rfl (by kernel_rfl) hP (fun w hw => run_move rfl (evq (by decide) (evq (by decide) (evq (by decide) (evq (by decide) (evq (by decide) e4)))))) hS ?_
      refine tk (i := 6) (d := (some 20)) rfl rfl (by kernel_rfl) hP (fun w hw => run_index (v := .pointer (some ⟨nb, noff + k * 2, none⟩)) rfl (evq (by decide) (eve (Nat.lt_of_lt_of_eq (by decide : 18 < 43) (szq (szq (szq (szq z)))).symm))) (eve (Nat.lt_of_lt_of_eq (by decide : 19 < 43) (szq (szq (szq (szq (szq z))))).symm)) (named_index hkl)) hS ?_
      refine tk (i := 7) (d := (some 21)) rfl rfl (by kernel_rfl) hP (fun w hw => run_field (p' := ⟨nb, noff + k * 2, none⟩) rfl (eve (Nat.lt_of_lt_of_eq (by decide : 20 < 43) (szq (szq (szq (szq (szq (szq z)))))).symm)) (fun w => by kernel_rfl)) hS ?_
      refine tk (i := 8) (d := (some 22)) rfl rfl (by kernel_rfl) hP (fun w hw => run_load rfl (eve (Nat.lt_of_lt_of_eq (by decide : 21 < 43) (szq (szq (szq (szq (szq (szq (szq z))))))).symm)) (loadAt_one (fun w => by kernel_rfl) hw.2.2.1)) hS ?_
      refine tk (i := 9) (d := (some 23)) rfl rfl (by kernel_rfl) hP (fun w hw => run_move rfl (evq (by decide) (evq (by decide) (evq (by decide) (evq (by decide) (evq (by decide) (evq (by decide) (evq (by decide) (evq (by decide) (evq (by decide) e0)))))))))) hS ?_
      refine tk (i := 10) (d := (some 24)) rfl rfl (by kernel_rfl) hP (fun w hw => run_nil rfl (eve (Nat.lt_of_lt_of_eq (by decide : 23 < 43) (szq (szq (szq (szq (szq (szq (szq (szq (szq z))))))))).symm))) hS ?_
      refine tk (i := 11) (d := (some 25)) rfl rfl (by kernel_rfl) hP (fun w hw => run_field (p' := ⟨K, 2, none⟩) rfl (eve (Nat.lt_of_lt_of_eq (by decide : 24 < 43) (szq (szq (szq (szq (szq (szq (szq (szq (szq (szq z)))))))))).symm)) (fun w => by kernel_rfl)) hS ?_
      refine tk (i := 12) (d := (some 26)) rfl rfl (by kernel_rfl) hP (fun w hw => run_load rfl (eve (Nat.lt_of_lt_of_eq (by decide : 25 < 43) (szq (szq (szq (szq (szq (szq (szq (szq (szq (szq (szq z))))))))))).symm)) (loadAt_one (fun w => by kernel_rfl) hw.2.1)) hS ?_
      refine tk (i := 13) (d := (some 27)) rfl rfl (by kernel_rfl) hP (fun w hw => run_move rfl (evq (by decide) (evq (by decide) (evq (by decide) (evq (by decide) (evq (by decide) (evq (by decide) (evq (by decide) (evq (by decide) (evq (by decide) (evq (by decide) (evq (by decide) (evq (by decide) (evq (by decide) e0)))))))))))))) hS ?_
      refine tk (i := 14) (d := (some 28)) rfl rfl (by kernel_rfl) hP (fun w hw => run_nil rfl (eve (Nat.lt_of_lt_of_eq (by decide : 27 < 43) (szq (szq (szq (szq (szq (szq (szq (szq (szq (szq (szq (szq (szq z))))))))))))).symm))) hS ?_
      refine tk (i := 15) (d := (some 29)) rfl rfl (by kernel_rfl) hP (fun w hw => run_field (p' := ⟨K, 0, none⟩) rfl (eve (Nat.lt_of_lt_of_eq (by decide : 28 < 43) (szq (szq (szq (szq (szq (szq (szq (szq (szq (szq (szq (szq (szq (szq z)))))))))))))).symm)) (fun w => by kernel_rfl)) hS ?_
      refine tk (i := 16) (d := (some 30)) rfl rfl (by kernel_rfl) hP (fun w hw => run_load rfl (eve (Nat.lt_of_lt_of_eq (by decide : 29 < 43) (szq (szq (szq (szq (szq (szq (szq (szq (szq (szq (szq (szq (szq (szq (szq z))))))))))))))).symm)) (loadAt_one (fun w => by kernel_rfl) hw.1)) hS ?_
      refine tk (i := 17) (d := (some 31)) rfl rfl (by kernel_rfl) hP (fun w hw => run_move rfl (evq (by decide) (evq (by decide) (evq (by decide) (evq (by decide) (evq (by decide) (evq (by decide) (evq (by decide) (evq (by decide) (evq (by decide) (evq (by decide) (evq (by decide) (evq (by decide) (evq (by decide) (evq (by decide) (evq (by decide) (evq (by decide) (evq (by decide) e4)))))))))))))))))) hS ?_
      refine tk (i := 18) (d := (some 32)) rfl rfl (by kernel_rfl) hP (fun w hw => run_index (v := .pointer (some ⟨nb, noff + k * 2, none⟩)) rfl (evq (by decide) (eve (Nat.lt_of_lt_of_eq (by decide : 30 < 43) (szq (szq (szq (szq (szq (szq (szq (szq (szq (szq (szq (szq (szq (szq (szq (szq z)))))))))))))))).symm))) (eve (Nat.lt_of_lt_of_eq (by decide : 31 < 43) (szq (szq (szq (szq (szq (szq (szq (szq (szq (szq (szq (szq (szq (szq (szq (szq (szq z))))))))))))))))).symm)) (named_index hkl)) hS ?_
      refine tk (i := 19) (d := (some 33)) rfl rfl (by kernel_rfl) hP (fun w hw => run_field (p' := ⟨nb, noff + k * 2 + 1, none⟩) rfl (eve (Nat.lt_of_lt_of_eq (by decide : 32 < 43) (szq (szq (szq (szq (szq (szq (szq (szq (szq (szq (szq (szq (szq (szq (szq (szq (szq (szq z)))))))))))))))))).symm)) (fun w => by kernel_rfl)) hS ?_
      refine tk (i := 20) (d := (some 34)) rfl rfl (by kernel_rfl) hP (fun w hw => run_load rfl (eve (Nat.lt_of_lt_of_eq (by decide : 33 < 43) (szq (szq (szq (szq (szq (szq (szq (szq (szq (szq (szq (szq (szq (szq (szq (szq (szq (szq (szq z))))))))))))))))))).symm)) (loadAt_one (fun w => by kernel_rfl) hw.2.2.2.1)) hS ?_
      refine tk (i := 21) (d := (some 35)) rfl rfl (by kernel_rfl) hP (fun w hw => run_index (v := .pointer (some ⟨gd, nd * 2, none⟩)) rfl (evq (by decide) (evq (by decide) (evq (by decide) (evq (by decide) (evq (by decide) (evq (by decide) (evq (by decide) (evq (by decide) (eve (Nat.lt_of_lt_of_eq (by decide : 26 < 43) (szq (szq (szq (szq (szq (szq (szq (szq (szq (szq (szq (szq z)))))))))))).symm)))))))))) (eve (Nat.lt_of_lt_of_eq (by decide : 34 < 43) (szq (szq (szq (szq (szq (szq (szq (szq (szq (szq (szq (szq (szq (szq (szq (szq (szq (szq (szq (szq z)))))))))))))))))))).symm)) (node_index hnl)) hS ?_
      refine tk (i := 22) (d := (some 36)) rfl rfl (by kernel_rfl) hP (fun w hw => run_field (p' := ⟨gd, nd * 2, none⟩) rfl (eve (Nat.lt_of_lt_of_eq (by decide : 35 < 43) (szq (szq (szq (szq (szq (szq (szq (szq (szq (szq (szq (szq (szq (szq (szq (szq (szq (szq (szq (szq (szq z))))))))))))))))))))).symm)) (fun w => by kernel_rfl)) hS ?_
      refine tk (i := 23) (d := (some 37)) rfl rfl (by kernel_rfl) hP (fun w hw => run_load rfl (eve (Nat.lt_of_lt_of_eq (by decide : 36 < 43) (szq (szq (szq (szq (szq (szq (szq (szq (szq (szq (szq (szq (szq (szq (szq (szq (szq (szq (szq (szq (szq (szq z)))))))))))))))))))))).symm)) (loadAt_one (fun w => by kernel_rfl) hw.2.2.2.2)) hS ?_
      refine tk (i := 24) (d := (some 38)) rfl rfl (by kernel_rfl) hP (fun w hw => run_build2 (v := .agg #[.string bn, .string bd]) rfl (evq (by decide) (evq (by decide) (evq (by decide) (evq (by decide) (evq (by decide) (evq (by decide) (evq (by decide) (evq (by decide) (evq (by decide) (evq (by decide) (evq (by decide) (evq (by decide) (evq (by decide) (evq (by decide) (evq (by decide) (eve (Nat.lt_of_lt_of_eq (by decide : 22 < 43) (szq (szq (szq (szq (szq (szq (szq (szq z)))))))).symm))))))))))))))))) (eve (Nat.lt_of_lt_of_eq (by decide : 37 < 43) (szq (szq (szq (szq (szq (szq (szq (szq (szq (szq (szq (szq (szq (szq (szq (szq (szq (szq (szq (szq (szq (szq (szq z))))))))))))))))))))))).symm)) file_make) hS ?_
      refine go_build1 (i := 25) (d := (some 39)) (v := .slice (some ⟨wr.drew.heap.size, 0, none⟩) 1 1) (w' := wr.drew.alloc (.cells #[.string bn, .string bd] 48)) (by kernel_rfl) rfl rfl rfl rfl (eve (Nat.lt_of_lt_of_eq (by decide : 38 < 43) (szq (szq (szq (szq (szq (szq (szq (szq (szq (szq (szq (szq (szq (szq (szq (szq (szq (szq (szq (szq (szq (szq (szq (szq z)))))))))))))))))))))))).symm)) file_build (fun _ => hS1) ?_
      refine go_append (i := 26) (d := (some 40)) [.string bn, .string bd] (by kernel_rfl) rfl rfl rfl rfl elem_file (by decide) (evq (by decide) (evq (by decide) (evq (by decide) (evq (by decide) (evq (by decide) (evq (by decide) (evq (by decide) (evq (by decide) (evq (by decide) (evq (by decide) (evq (by decide) (evq (by decide) (evq (by decide) (evq (by decide) (evq (by decide) (evq (by decide) (evq (by decide) (evq (by decide) (evq (by decide) (evq (by decide) (evq (by decide) (evq (by decide) (evq (by decide) (evq (by decide) (evq (by decide) (eve (Nat.lt_of_lt_of_eq (by decide : 14 < 43) z.symm))))))))))))))))))))))))))) hownA (eve (Nat.lt_of_lt_of_eq (by decide : 39 < 43) (szq (szq (szq (szq (szq (szq (szq (szq (szq (szq (szq (szq (szq (szq (szq (szq (szq (szq (szq (szq (szq (szq (szq (szq (szq z))))))))))))))))))))))))).symm)) rfl (World.news_of_block (cs := #[.string bn, .string bd]) (t := 48) (fr := (0, 0)) (heap_alloc_new wr.drew _)) (by simp [Value.oneCell']) (by decide) (by unfold maxLen; omega) (by omega) (by simp; omega) ?_
      intro g gc w3 hown3 hgrow3 hat3 hlt3
      have hS3 : (w3.cell? ⟨K, 0, none⟩ = some (.slice (some ⟨nb, noff, none⟩) D.names.length ncap) ∧ w3.cell? ⟨K, 2, none⟩ = some (.slice (some ⟨gd, 0, none⟩) D.nodes.length dcap) ∧ w3.cell? ⟨nb, noff + k * 2, none⟩ = some (.string bn) ∧ w3.cell? ⟨nb, noff + k * 2 + 1, none⟩ = some (.int .i64 (nd : Int)) ∧ w3.cell? ⟨gd, nd * 2, none⟩ = some (.string bd)) := ⟨(hgrow3.cell_far ⟨K, 0, none⟩ (by simp; omega) (hnot K hKb)).trans hS1.1, (hgrow3.cell_far ⟨K, 2, none⟩ (by simp; omega) (hnot K hKb)).trans hS1.2.1, (hgrow3.cell_far ⟨nb, noff + k * 2, none⟩ (by simp; omega) (hnot nb hnb)).trans hS1.2.2.1, (hgrow3.cell_far ⟨nb, noff + k * 2 + 1, none⟩ (by simp; omega) (hnot nb hnb)).trans hS1.2.2.2.1, (hgrow3.cell_far ⟨gd, nd * 2, none⟩ (by simp; omega) (hnot gd hgb)).trans hS1.2.2.2.2⟩
      refine ⟨fun _ => hS3, ?_⟩
      clear hS
      have hS := hS3
      refine go_val (i := 27) (d := (some 3)) (by kernel_rfl) rfl rfl rfl (run_assign rfl (eve (Nat.lt_of_lt_of_eq (by decide : 40 < 43) (szq (szq (szq (szq (szq (szq (szq (szq (szq (szq (szq (szq (szq (szq (szq (szq (szq (szq (szq (szq (szq (szq (szq (szq (szq (szq z)))))))))))))))))))))))))).symm))) (fun _ => hS) ?_
      refine wpAnyU_done (by kernel_rfl) (hQ.out _ _ ?_) _
      rw [hA.out]
      simp only [Act.put, List.setIfInBounds_toArray]
      dsimp only [List.set]
      clear hQ hP hA z hS Q a' e0 e3 e4 hS1 hS3
      have hB3 : Below W.heap.size W w3 := ((hbl.out.drew).alloc hsz _).grown hgrow3 (by simp; omega) (fun k' hk' => (hraw.lt k' hk').1)
      clear hownA hgrow3 hat3 hraw hnot c0 c2 n0 n1 d0
      go_wp2_with fail
      refine ⟨⟨k + 1, by omega, by simp, ?_, hB3⟩, by simp [RowKit.intOf]; omega⟩
      rw [hfile.out]
      unfold Hid OwnF
      rw [flCells_snoc]
      have e : ((Mb.filesOf D).take k ++ [(⟨bn.data.toList, bd.data.toList⟩ : Mb.Fl)]).length = k + 1 := by simp [HLT.out]
      rw [e]
      exact hown3
    · have hke : k = D.names.length := by omega
      have HO : Hid (FlAt wr la (Mb.filesOf D)) := by
        unfold Hid; rw [hke, ← Hfl.out, List.take_length] at hlat; exact hlat
      have gs := sorted_any la lc (Mb.filesOf D) wr HO.out (by rw [Hfl.out]; exact hl) Hs.out
      rw [Hfl.out, ← hke] at gs
      have HKE := Lib.hid hke
      clear hlat hke
      go_wp2_with (go_at_call 20; refine gs.mono ?_; rintro e w1 ⟨⟨v, rfl, hv⟩, hb1⟩; have HV := Lib.hid hv; have HB := Lib.hid hb1; clear hv hb1)
      go_ret
      exact ⟨⟨v, rfl, HV.out.base hbl.out.size⟩, hbl.out.trans (HB.out.mono hbl.out.size)⟩
end Go.Proofs.YtamglanahpcedaaGreatDoor
