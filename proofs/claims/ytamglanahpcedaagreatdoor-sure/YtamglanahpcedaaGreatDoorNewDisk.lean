/-
  OWN TEXT: mailbagref.NewDisk.
-/
import Derived.Test.YtamglanahpcedaaGreatDoorDiskKO
namespace Go.Proofs.YtamglanahpcedaaGreatDoor
open Go.RowKit Go.Lib

/-- the names of files, one behind the other -/
def Mb.namesFrom : Nat → List Mb.Fl → List Mb.Nm
  | _, [] => []
  | k, x :: r => ⟨x.name, (k : Int)⟩ :: Mb.namesFrom (k + 1) r
def Mb.nodesOf (xs : List Mb.Fl) : List Mb.Nd := xs.map fun x => ⟨x.data, (x.data.length : Int)⟩
/-- a disk with these files, all safe -/
def Mb.newDk (xs : List Mb.Fl) : Mb.Dk := { names := Mb.namesFrom 0 xs, sure := Mb.namesFrom 0 xs, nodes := Mb.nodesOf xs, since := [], made := [] }
theorem Mb.namesFrom_len : ∀ (k : Nat) (xs : List Mb.Fl), (Mb.namesFrom k xs).length = xs.length
  | _, [] => rfl
  | k, _ :: r => by simp [Mb.namesFrom, Mb.namesFrom_len (k + 1) r]
theorem Mb.namesFrom_snoc : ∀ (k : Nat) (xs : List Mb.Fl) (x : Mb.Fl), Mb.namesFrom k (xs ++ [x]) = Mb.namesFrom k xs ++ [⟨x.name, ((k + xs.length : Nat) : Int)⟩]
  | k, [], x => by simp [Mb.namesFrom]
  | k, y :: r, x => by
    rw [List.cons_append, Mb.namesFrom, Mb.namesFrom_snoc (k + 1) r x, Mb.namesFrom]
    simp only [List.cons_append, List.length_cons]
    congr 4
    omega

set_option maxRecDepth 100000 in
set_option maxHeartbeats 4000000 in
theorem newDisk_some (fb fo cap : Nat) (xs : List Mb.Fl) (w : World) (hb : fb < w.heap.size) (hc : FlsAt w fb fo xs) (hl : xs.length ≤ 1048576) :
    Calls Tryz.prog 4 #[.slice (some ⟨fb, fo, none⟩) xs.length cap] w fun e w' => e = .returned (.pointer (some ⟨w.heap.size, 0, none⟩)) ∧ (∃ role V, DkAt role w.heap.size w.heap.size V (Mb.newDk xs) w') ∧ Below w.heap.size w w' := by
  have Hc := Lib.hid hc
  clear hc
  generalize hKK : w.heap.size = K at *
  go_enter Tryz.func4, Tryz.ntmps4
  go_wp2_with fail
  go_loopw [4] (fun i wr => ∃ (k : Nat), k ≤ xs.length ∧ i = .int .i64 k ∧ Hid (∃ role V, DkAt role K K V { names := Mb.namesFrom 0 (xs.take k), sure := [], nodes := Mb.nodesOf (xs.take k), since := [], made := [] } wr) ∧ Hid (Below K w wr)) (fun i _ => xs.length - (RowKit.intOf i).toNat)
  case atStart =>
    refine ⟨0, Nat.zero_le _, rfl, ⟨fun b => if b = K then 1 else 0, ⟨.slice none 0 0, .slice none 0 0, .slice none 0 0, .slice none 0 0, .slice none 0 0⟩, Nat.le_refl _, ?_, by simp, OwnR.nil _ _ _ _ _ _, OwnR.nil _ _ _ _ _ _, OwnR.nil _ _ _ _ _ _, OwnR.nil _ _ _ _ _ _, OwnR.nil _ _ _ _ _ _⟩, (Below.refl _ _).alloc (by omega) _⟩
    rw [← hKK]
    exact heap_alloc_new w _
  case round =>
    obtain ⟨k, hk, rfl, hD, hbl⟩ := hrel
    have hsz : K ≤ wr.heap.size := hKK ▸ hbl.out.size
    by_cases hkl : k < xs.length
    · obtain ⟨role, V, h1⟩ := hD.out
      have h1 := Lib.hid h1
      have hlt : (xs.take k).length = k := by simp; omega
      have hnd : (Mb.nodesOf (xs.take k)).length = k := by simp [Mb.nodesOf]; omega
      have hnn : (Mb.namesFrom 0 (xs.take k)).length = k := by rw [Mb.namesFrom_len]; exact hlt
      have HT : Hid (xs.take (k + 1) = xs.take k ++ [xs[k]]) := List.take_succ_eq_append_getElem hkl
      obtain ⟨c0, c1⟩ := Hc.out k xs[k] (by simp [hkl])
      obtain ⟨bn, Hbn, Hbn'⟩ := named_bytes xs[k].name
      obtain ⟨bd, Hbd, Hbd'⟩ := named_bytes xs[k].data
      rw [← Hbn.out] at c0
      rw [← Hbd.out] at c1
      have fn := (hbl.out.cell (p := ⟨fb, fo + k * 2, none⟩) hb).trans c0
      have f1 := (hbl.out.cell (p := ⟨fb, fo + k * 2 + 1, none⟩) hb).trans c1
      obtain ⟨va, vc, hvd, _⟩ := own_form2 h1.out.od.1
      simp only [hnd] at hvd
      have k2 := h1.out.cellsK.2.2.1
      rw [hvd] at k2
      have hraw : wr.ownsRow K 50 2 (.slice va k vc) k (ndCells (Mb.nodesOf (xs.take k))) := by
        have := h1.out.od.1
        rw [hvd] at this
        simpa only [hnd] using this
      have hownD := (hraw.drew).alloc (.cells #[.string bd, .int .i64 (bd.data.toList.length : Int)] 50)
      have hnK : some K ≠ (Value.slice va k vc).ownBlock := fun e => by rw [← hvd] at e; have h4 := h1.out.od.2 K e.symm; rw [h1.out.rk] at h4; exact absurd h4 (by decide)
      have hnF : some fb ≠ (Value.slice va k vc).ownBlock := fun e => by have := (hraw.lt fb e.symm).1; omega
      have hKw : K < wr.heap.size := h1.out.lt
      have hfw : fb < wr.heap.size := by omega
      have HN := Lib.hid (And.intro hnd (And.intro hnn hlt))
      clear c0 c1 hnd hnn hlt Hbn Hbd
      go_wp2_with fail
      refine region_until 21 (fun w' : World => w'.cell? ⟨K, 2, none⟩ = some (.slice va k vc) ∧ w'.cell? ⟨fb, fo + k * 2 + 1, none⟩ = some (.string bd)) 22 rfl (by kernel_rfl) ⟨k2, f1⟩ (fun a' Q hA hQ hP hS => ?_)
      have z : a'.tmps.size = 59 := by rw [hA.out]; rfl
      have e0 : a'.eval (.tmp 0) = Value.slice (some ⟨fb, fo, none⟩) xs.length cap := by rw [hA.out]; rfl
      have e3 : a'.eval (.tmp 3) = Value.pointer (some ⟨K, 0, none⟩) := by rw [hA.out]; rfl
      have e4 : a'.eval (.tmp 4) = Value.int .i64 (k : Int) := by rw [hA.out]; rfl
      refine tk (i := 0) (d := (some 13)) rfl rfl (by kernel_rfl) hP (fun w hw => run_move rfl e3) hS ?_
      refine tk (i := 1) (d := (some 14)) rfl rfl (by kernel_rfl) hP (fun w hw => run_move rfl (evq (by decide) e3)) hS ?_
      refine tk (i := 2) (d := (some 15)) rfl rfl (by kernel_rfl) hP (fun w hw => run_nil rfl (eve (Nat.lt_of_lt_of_eq (by decide : 14 < 59) (szq z).symm))) hS ?_
      refine tk (i := 3) (d := (some 16)) rfl rfl (by kernel_rfl) hP (fun w hw => run_field (p' := ⟨K, 2, none⟩) rfl (eve (Nat.lt_of_lt_of_eq (by decide : 15 < 59) (szq (szq z)).symm)) (fun w => by kernel_rfl)) hS ?_
      refine tk (i := 4) (d := (some 17)) rfl rfl (by kernel_rfl) hP (fun w hw => run_load rfl (eve (Nat.lt_of_lt_of_eq (by decide : 16 < 59) (szq (szq (szq z))).symm)) (loadAt_one (fun w => by kernel_rfl) hw.1)) hS ?_
      refine tk (i := 5) (d := (some 18)) rfl rfl (by kernel_rfl) hP (fun w hw => run_move rfl (evq (by decide) (evq (by decide) (evq (by decide) (evq (by decide) (evq (by decide) e0)))))) hS ?_
      refine tk (i := 6) (d := (some 19)) rfl rfl (by kernel_rfl) hP (fun w hw => run_move rfl (evq (by decide) (evq (by decide) (evq (by decide) (evq (by decide) (evq (by decide) (evq (by decide) e4))))))) hS ?_
      refine tk (i := 7) (d := (some 20)) rfl rfl (by kernel_rfl) hP (fun w hw => run_index (v := .pointer (some ⟨fb, fo + k * 2, none⟩)) rfl (evq (by decide) (eve (Nat.lt_of_lt_of_eq (by decide : 18 < 59) (szq (szq (szq (szq (szq z))))).symm))) (eve (Nat.lt_of_lt_of_eq (by decide : 19 < 59) (szq (szq (szq (szq (szq (szq z)))))).symm)) (file_index hkl)) hS ?_
      refine tk (i := 8) (d := (some 21)) rfl rfl (by kernel_rfl) hP (fun w hw => run_field (p' := ⟨fb, fo + k * 2 + 1, none⟩) rfl (eve (Nat.lt_of_lt_of_eq (by decide : 20 < 59) (szq (szq (szq (szq (szq (szq (szq z))))))).symm)) (fun w => by kernel_rfl)) hS ?_
      refine tk (i := 9) (d := (some 22)) rfl rfl (by kernel_rfl) hP (fun w hw => run_load rfl (eve (Nat.lt_of_lt_of_eq (by decide : 21 < 59) (szq (szq (szq (szq (szq (szq (szq (szq z)))))))).symm)) (loadAt_one (fun w => by kernel_rfl) hw.2)) hS ?_
      refine tk (i := 10) (d := (some 23)) rfl rfl (by kernel_rfl) hP (fun w hw => run_move rfl (evq (by decide) (evq (by decide) (evq (by decide) (evq (by decide) (evq (by decide) (evq (by decide) (evq (by decide) (evq (by decide) (evq (by decide) (evq (by decide) e0))))))))))) hS ?_
      refine tk (i := 11) (d := (some 24)) rfl rfl (by kernel_rfl) hP (fun w hw => run_move rfl (evq (by decide) (evq (by decide) (evq (by decide) (evq (by decide) (evq (by decide) (evq (by decide) (evq (by decide) (evq (by decide) (evq (by decide) (evq (by decide) (evq (by decide) e4)))))))))))) hS ?_
      refine tk (i := 12) (d := (some 25)) rfl rfl (by kernel_rfl) hP (fun w hw => run_index (v := .pointer (some ⟨fb, fo + k * 2, none⟩)) rfl (evq (by decide) (eve (Nat.lt_of_lt_of_eq (by decide : 23 < 59) (szq (szq (szq (szq (szq (szq (szq (szq (szq (szq z)))))))))).symm))) (eve (Nat.lt_of_lt_of_eq (by decide : 24 < 59) (szq (szq (szq (szq (szq (szq (szq (szq (szq (szq (szq z))))))))))).symm)) (file_index hkl)) hS ?_
      refine tk (i := 13) (d := (some 26)) rfl rfl (by kernel_rfl) hP (fun w hw => run_field (p' := ⟨fb, fo + k * 2 + 1, none⟩) rfl (eve (Nat.lt_of_lt_of_eq (by decide : 25 < 59) (szq (szq (szq (szq (szq (szq (szq (szq (szq (szq (szq (szq z)))))))))))).symm)) (fun w => by kernel_rfl)) hS ?_
      refine tk (i := 14) (d := (some 27)) rfl rfl (by kernel_rfl) hP (fun w hw => run_load rfl (eve (Nat.lt_of_lt_of_eq (by decide : 26 < 59) (szq (szq (szq (szq (szq (szq (szq (szq (szq (szq (szq (szq (szq z))))))))))))).symm)) (loadAt_one (fun w => by kernel_rfl) hw.2)) hS ?_
      refine tk (i := 15) (d := (some 28)) rfl rfl (by kernel_rfl) hP (fun w hw => run_len (v := .int .i64 (bd.data.toList.length : Int)) rfl (eve (Nat.lt_of_lt_of_eq (by decide : 27 < 59) (szq (szq (szq (szq (szq (szq (szq (szq (szq (szq (szq (szq (szq (szq z)))))))))))))).symm)) (fun ρ hρ => by go_simp)) hS ?_
      refine tk (i := 16) (d := (some 29)) rfl rfl (by kernel_rfl) hP (fun w hw => run_build2 (v := .agg #[.string bd, .int .i64 (bd.data.toList.length : Int)]) rfl (evq (by decide) (evq (by decide) (evq (by decide) (evq (by decide) (evq (by decide) (evq (by decide) (eve (Nat.lt_of_lt_of_eq (by decide : 22 < 59) (szq (szq (szq (szq (szq (szq (szq (szq (szq z))))))))).symm)))))))) (eve (Nat.lt_of_lt_of_eq (by decide : 28 < 59) (szq (szq (szq (szq (szq (szq (szq (szq (szq (szq (szq (szq (szq (szq (szq z))))))))))))))).symm)) node_make) hS ?_
      have hS1 : (wr.drew.alloc (.cells #[.string bd, .int .i64 (bd.data.toList.length : Int)] 50)).cell? ⟨K, 2, none⟩ = some (.slice va k vc) ∧ (wr.drew.alloc (.cells #[.string bd, .int .i64 (bd.data.toList.length : Int)] 50)).cell? ⟨fb, fo + k * 2 + 1, none⟩ = some (.string bd) := ⟨(World.cell?_of_block (a := ⟨K, 2, none⟩) (Go.heap_alloc_old wr.drew _ hKw)).trans k2, (World.cell?_of_block (a := ⟨fb, fo + k * 2 + 1, none⟩) (Go.heap_alloc_old wr.drew _ hfw)).trans f1⟩
      refine go_build1 (i := 17) (d := (some 30)) (v := .slice (some ⟨wr.drew.heap.size, 0, none⟩) 1 1) (w' := wr.drew.alloc (.cells #[.string bd, .int .i64 (bd.data.toList.length : Int)] 50)) (by kernel_rfl) rfl rfl rfl rfl (eve (Nat.lt_of_lt_of_eq (by decide : 29 < 59) (szq (szq (szq (szq (szq (szq (szq (szq (szq (szq (szq (szq (szq (szq (szq (szq z)))))))))))))))).symm)) node_build (fun _ => hS1) ?_
      refine go_append (i := 18) (d := (some 31)) [.string bd, .int .i64 (bd.data.toList.length : Int)] (by kernel_rfl) rfl rfl rfl rfl elem_node (by decide) (evq (by decide) (evq (by decide) (evq (by decide) (evq (by decide) (evq (by decide) (evq (by decide) (evq (by decide) (evq (by decide) (evq (by decide) (evq (by decide) (evq (by decide) (evq (by decide) (evq (by decide) (eve (Nat.lt_of_lt_of_eq (by decide : 17 < 59) (szq (szq (szq (szq z)))).symm))))))))))))))) hownD (eve (Nat.lt_of_lt_of_eq (by decide : 30 < 59) (szq (szq (szq (szq (szq (szq (szq (szq (szq (szq (szq (szq (szq (szq (szq (szq (szq z))))))))))))))))).symm)) rfl (World.news_of_block (cs := #[.string bd, .int .i64 (bd.data.toList.length : Int)]) (t := 50) (fr := (0, 0)) (heap_alloc_new wr.drew _)) (by simp [Value.oneCell']) (by decide) (by unfold maxLen; omega) (by omega) (by simp; omega) ?_
      intro g gc w3 hown3 hgrow3 hat3 hlt3
      have r2 := (hgrow3.cell_far ⟨K, 2, none⟩ (by simp; omega) hnK).trans hS1.1
      have rf := (hgrow3.frozen_far ⟨K, 2, none⟩ (by simp; omega) hnK).trans ((World.frozen?_of_block (a := ⟨K, 2, none⟩) (Go.heap_alloc_old wr.drew _ hKw)).trans (h1.out.cellsK.2.2.2.2.2 2))
      have r1 := (hgrow3.cell_far ⟨fb, fo + k * 2 + 1, none⟩ (by simp; omega) hnF).trans hS1.2
      refine ⟨fun _ => ⟨r2, r1⟩, ?_⟩
      clear hS
      have hS := And.intro r2 r1
      refine go_val (i := 19) (d := (some 32)) (by kernel_rfl) rfl rfl rfl (run_nil rfl (evq (by decide) (evq (by decide) (evq (by decide) (evq (by decide) (evq (by decide) (evq (by decide) (evq (by decide) (evq (by decide) (evq (by decide) (evq (by decide) (evq (by decide) (evq (by decide) (evq (by decide) (evq (by decide) (evq (by decide) (evq (by decide) (evq (by decide) (evq (by decide) (eve (Nat.lt_of_lt_of_eq (by decide : 13 < 59) z.symm))))))))))))))))))))) (fun _ => hS) ?_
      refine go_val (i := 20) (d := (some 33)) (by kernel_rfl) rfl rfl rfl (run_field (p' := ⟨K, 2, none⟩) rfl (eve (Nat.lt_of_lt_of_eq (by decide : 32 < 59) (szq (szq (szq (szq (szq (szq (szq (szq (szq (szq (szq (szq (szq (szq (szq (szq (szq (szq (szq z))))))))))))))))))).symm)) (fun w => by kernel_rfl)) (fun _ => hS) ?_
      refine go_put (i := 21) (by kernel_rfl) rfl rfl rfl rfl (eve (Nat.lt_of_lt_of_eq (by decide : 33 < 59) (szq (szq (szq (szq (szq (szq (szq (szq (szq (szq (szq (szq (szq (szq (szq (szq (szq (szq (szq (szq z)))))))))))))))))))).symm)) (evq (by decide) (evq (by decide) (eve (Nat.lt_of_lt_of_eq (by decide : 31 < 59) (szq (szq (szq (szq (szq (szq (szq (szq (szq (szq (szq (szq (szq (szq (szq (szq (szq (szq z)))))))))))))))))).symm)))) (fun w h1 h2 => by simp [Instr.storeAt, go_sem, h1, h2]) r2 rf (fun h => absurd rfl h) ?_
      refine wpAnyU_done (by kernel_rfl) (hQ.out _ _ ?_) _
      rw [hA.out]
      simp only [Act.put, List.setIfInBounds_toArray]
      dsimp only [List.set]
      clear hQ hP hA z hS Q a' e0 e3 e4 hS1 r2 rf r1 k2 f1
      rw [← hvd] at hgrow3 hat3
      have h4 := (h1.out.below (((Below.refl _ _).drew).alloc (Nat.le_refl _) (.cells #[.string bd, .int .i64 (bd.data.toList.length : Int)] 50))).growD hgrow3 (n := k + 1) (ns := Mb.nodesOf (xs.take (k + 1))) (by simp [Mb.nodesOf]; omega) (by rw [HT.out]; simp only [Mb.nodesOf, List.map_append, List.map_cons, List.map_nil]; rw [ndCells_snoc, ← Hbd'.out]; exact hown3) (by simpa using hat3)
      have H4 := Lib.hid h4
      have hB4 : Hid (Below K w (w3.setCell ⟨K, 2, none⟩ (.slice (some ⟨g, 0, none⟩) (k + 1) gc))) := (((hbl.out.drew).alloc hsz _).grown hgrow3 (by simp; omega) (fun k' hk' => by rw [hvd] at hk'; exact (hraw.lt k' hk').1)).setCell (Nat.le_refl _) _
      clear h4 hown3 hgrow3 hat3 hlt3 hownD hraw
      generalize hw4 : w3.setCell ⟨K, 2, none⟩ (.slice (some ⟨g, 0, none⟩) (k + 1) gc) = w4 at *
      clear hw4
      obtain ⟨na, nc, hvn, _⟩ := own_form2 H4.out.on.1
      simp only [HN.out.2.1] at hvn
      have k0 := H4.out.cellsK.1
      simp only [hvn] at k0
      have hraw4 : w4.ownsRow K 52 2 (.slice na k nc) k (nmCells (Mb.namesFrom 0 (xs.take k))) := by
        have := H4.out.on.1
        simp only [hvn] at this
        simpa only [HN.out.2.1] using this
      have hownN := (hraw4.drew).alloc (.cells #[.string bn, .int .i64 (k : Int)] 52)
      have hnK4 : some K ≠ (Value.slice na k nc).ownBlock := fun e => by rw [← hvn] at e; have h4 := H4.out.on.2 K e.symm; rw [H4.out.rk] at h4; exact absurd h4 (by decide)
      have hnF4 : some fb ≠ (Value.slice na k nc).ownBlock := fun e => by have := (hraw4.lt fb e.symm).1; omega
      have hKw4 : K < w4.heap.size := H4.out.lt
      have hfw4 : fb < w4.heap.size := by omega
      obtain ⟨c0, _⟩ := Hc.out k xs[k] (by simp [hkl])
      rw [← bytes_is Hbn'.out] at c0
      have f0 := (hB4.out.cell (p := ⟨fb, fo + k * 2, none⟩) hb).trans c0
      have hsz4 : K ≤ w4.heap.size := by omega
      clear c0 fn
      go_wp2_with fail
      refine region_until 16 (fun w' : World => w'.cell? ⟨K, 0, none⟩ = some (.slice na k nc) ∧ w'.cell? ⟨fb, fo + k * 2, none⟩ = some (.string bn)) 17 rfl (by kernel_rfl) ⟨k0, f0⟩ (fun a' Q hA hQ hP hS => ?_)
      have z : a'.tmps.size = 59 := by rw [hA.out]; rfl
      have e0 : a'.eval (.tmp 0) = Value.slice (some ⟨fb, fo, none⟩) xs.length cap := by rw [hA.out]; rfl
      have e3 : a'.eval (.tmp 3) = Value.pointer (some ⟨K, 0, none⟩) := by rw [hA.out]; rfl
      have e4 : a'.eval (.tmp 4) = Value.int .i64 (k : Int) := by rw [hA.out]; rfl
      refine tk (i := 0) (d := (some 34)) rfl rfl (by kernel_rfl) hP (fun w hw => run_move rfl e3) hS ?_
      refine tk (i := 1) (d := (some 35)) rfl rfl (by kernel_rfl) hP (fun w hw => run_move rfl (evq (by decide) e3)) hS ?_
      refine tk (i := 2) (d := (some 36)) rfl rfl (by kernel_rfl) hP (fun w hw => run_nil rfl (eve (Nat.lt_of_lt_of_eq (by decide : 35 < 59) (szq z).symm))) hS ?_
      refine tk (i := 3) (d := (some 37)) rfl rfl (by kernel_rfl) hP (fun w hw => run_field (p' := ⟨K, 0, none⟩) rfl (eve (Nat.lt_of_lt_of_eq (by decide : 36 < 59) (szq (szq z)).symm)) (fun w => by kernel_rfl)) hS ?_
      refine tk (i := 4) (d := (some 38)) rfl rfl (by kernel_rfl) hP (fun w hw => run_load rfl (eve (Nat.lt_of_lt_of_eq (by decide : 37 < 59) (szq (szq (szq z))).symm)) (loadAt_one (fun w => by kernel_rfl) hw.1)) hS ?_
      refine tk (i := 5) (d := (some 39)) rfl rfl (by kernel_rfl) hP (fun w hw => run_move rfl (evq (by decide) (evq (by decide) (evq (by decide) (evq (by decide) (evq (by decide) e0)))))) hS ?_
      refine tk (i := 6) (d := (some 40)) rfl rfl (by kernel_rfl) hP (fun w hw => run_move rfl (evq (by decide) (evq (by decide) (evq (by decide) (evq (by decide) (evq (by decide) (evq (by decide) e4))))))) hS ?_
      refine tk (i := 7) (d := (some 41)) rfl rfl (by kernel_rfl) hP (fun w hw => run_index (v := .pointer (some ⟨fb, fo + k * 2, none⟩)) rfl (evq (by decide) (eve (Nat.lt_of_lt_of_eq (by decide : 39 < 59) (szq (szq (szq (szq (szq z))))).symm))) (eve (Nat.lt_of_lt_of_eq (by decide : 40 < 59) (szq (szq (szq (szq (szq (szq z)))))).symm)) (file_index hkl)) hS ?_
      refine tk (i := 8) (d := (some 42)) rfl rfl (by kernel_rfl) hP (fun w hw => run_field (p' := ⟨fb, fo + k * 2, none⟩) rfl (eve (Nat.lt_of_lt_of_eq (by decide : 41 < 59) (szq (szq (szq (szq (szq (szq (szq z))))))).symm)) (fun w => by kernel_rfl)) hS ?_
      refine tk (i := 9) (d := (some 43)) rfl rfl (by kernel_rfl) hP (fun w hw => run_load rfl (eve (Nat.lt_of_lt_of_eq (by decide : 42 < 59) (szq (szq (szq (szq (szq (szq (szq (szq z)))))))).symm)) (loadAt_one (fun w => by kernel_rfl) hw.2)) hS ?_
      refine tk (i := 10) (d := (some 44)) rfl rfl (by kernel_rfl) hP (fun w hw => run_move rfl (evq (by decide) (evq (by decide) (evq (by decide) (evq (by decide) (evq (by decide) (evq (by decide) (evq (by decide) (evq (by decide) (evq (by decide) (evq (by decide) e4))))))))))) hS ?_
      refine tk (i := 11) (d := (some 45)) rfl rfl (by kernel_rfl) hP (fun w hw => run_build2 (v := .agg #[.string bn, .int .i64 (k : Int)]) rfl (evq (by decide) (eve (Nat.lt_of_lt_of_eq (by decide : 43 < 59) (szq (szq (szq (szq (szq (szq (szq (szq (szq z))))))))).symm))) (eve (Nat.lt_of_lt_of_eq (by decide : 44 < 59) (szq (szq (szq (szq (szq (szq (szq (szq (szq (szq z)))))))))).symm)) named_make) hS ?_
      have hS1 : (w4.drew.alloc (.cells #[.string bn, .int .i64 (k : Int)] 52)).cell? ⟨K, 0, none⟩ = some (.slice na k nc) ∧ (w4.drew.alloc (.cells #[.string bn, .int .i64 (k : Int)] 52)).cell? ⟨fb, fo + k * 2, none⟩ = some (.string bn) := ⟨(World.cell?_of_block (a := ⟨K, 0, none⟩) (Go.heap_alloc_old w4.drew _ hKw4)).trans k0, (World.cell?_of_block (a := ⟨fb, fo + k * 2, none⟩) (Go.heap_alloc_old w4.drew _ hfw4)).trans f0⟩
      refine go_build1 (i := 12) (d := (some 46)) (v := .slice (some ⟨w4.drew.heap.size, 0, none⟩) 1 1) (w' := w4.drew.alloc (.cells #[.string bn, .int .i64 (k : Int)] 52)) (by kernel_rfl) rfl rfl rfl rfl (eve (Nat.lt_of_lt_of_eq (by decide : 45 < 59) (szq (szq (szq (szq (szq (szq (szq (szq (szq (szq (szq z))))))))))).symm)) named_build (fun _ => hS1) ?_
      refine go_append (i := 13) (d := (some 47)) [.string bn, .int .i64 (k : Int)] (by kernel_rfl) rfl rfl rfl rfl elem_named (by decide) (evq (by decide) (evq (by decide) (evq (by decide) (evq (by decide) (evq (by decide) (evq (by decide) (evq (by decide) (evq (by decide) (eve (Nat.lt_of_lt_of_eq (by decide : 38 < 59) (szq (szq (szq (szq z)))).symm)))))))))) hownN (eve (Nat.lt_of_lt_of_eq (by decide : 46 < 59) (szq (szq (szq (szq (szq (szq (szq (szq (szq (szq (szq (szq z)))))))))))).symm)) rfl (World.news_of_block (cs := #[.string bn, .int .i64 (k : Int)]) (t := 52) (fr := (0, 0)) (heap_alloc_new w4.drew _)) (by simp [Value.oneCell']) (by decide) (by unfold maxLen; omega) (by omega) (by simp; omega) ?_
      intro g2 gc2 w5 hown5 hgrow5 hat5 hlt5
      have r2 := (hgrow5.cell_far ⟨K, 0, none⟩ (by simp; omega) hnK4).trans hS1.1
      have rf := (hgrow5.frozen_far ⟨K, 0, none⟩ (by simp; omega) hnK4).trans ((World.frozen?_of_block (a := ⟨K, 0, none⟩) (Go.heap_alloc_old w4.drew _ hKw4)).trans (H4.out.cellsK.2.2.2.2.2 0))
      have r1 := (hgrow5.cell_far ⟨fb, fo + k * 2, none⟩ (by simp; omega) hnF4).trans hS1.2
      refine ⟨fun _ => ⟨r2, r1⟩, ?_⟩
      clear hS
      have hS := And.intro r2 r1
      refine go_val (i := 14) (d := (some 48)) (by kernel_rfl) rfl rfl rfl (run_nil rfl (evq (by decide) (evq (by decide) (evq (by decide) (evq (by decide) (evq (by decide) (evq (by decide) (evq (by decide) (evq (by decide) (evq (by decide) (evq (by decide) (evq (by decide) (evq (by decide) (evq (by decide) (eve (Nat.lt_of_lt_of_eq (by decide : 34 < 59) z.symm)))))))))))))))) (fun _ => hS) ?_
      refine go_val (i := 15) (d := (some 49)) (by kernel_rfl) rfl rfl rfl (run_field (p' := ⟨K, 0, none⟩) rfl (eve (Nat.lt_of_lt_of_eq (by decide : 48 < 59) (szq (szq (szq (szq (szq (szq (szq (szq (szq (szq (szq (szq (szq (szq z)))))))))))))).symm)) (fun w => by kernel_rfl)) (fun _ => hS) ?_
      refine go_put (i := 16) (by kernel_rfl) rfl rfl rfl rfl (eve (Nat.lt_of_lt_of_eq (by decide : 49 < 59) (szq (szq (szq (szq (szq (szq (szq (szq (szq (szq (szq (szq (szq (szq (szq z))))))))))))))).symm)) (evq (by decide) (evq (by decide) (eve (Nat.lt_of_lt_of_eq (by decide : 47 < 59) (szq (szq (szq (szq (szq (szq (szq (szq (szq (szq (szq (szq (szq z))))))))))))).symm)))) (fun w h1 h2 => by simp [Instr.storeAt, go_sem, h1, h2]) r2 rf (fun h => absurd rfl h) ?_
      refine wpAnyU_done (by kernel_rfl) (hQ.out _ _ ?_) _
      rw [hA.out]
      simp only [Act.put, List.setIfInBounds_toArray]
      dsimp only [List.set]
      clear hQ hP hA z hS Q a' e0 e3 e4 hS1 r2 rf r1 k0 f0
      rw [← hvn] at hgrow5 hat5
      have h6 := (H4.out.below (((Below.refl _ _).drew).alloc (Nat.le_refl _) (.cells #[.string bn, .int .i64 (k : Int)] 52))).growN hgrow5 (n := k + 1) (ns := Mb.namesFrom 0 (xs.take (k + 1))) (by rw [Mb.namesFrom_len]; simp; omega) (by rw [HT.out, Mb.namesFrom_snoc, nmCells_snoc, HN.out.2.2, ← Hbn'.out, Nat.zero_add]; exact hown5) (by simpa using hat5)
      have H6 := Lib.hid h6
      have hB6 : Hid (Below K w (w5.setCell ⟨K, 0, none⟩ (.slice (some ⟨g2, 0, none⟩) (k + 1) gc2))) := (((hB4.out.drew).alloc hsz4 _).grown hgrow5 (by simp; omega) (fun k' hk' => by rw [hvn] at hk'; exact (hraw4.lt k' hk').1)).setCell (Nat.le_refl _) _
      clear h6 hown5 hgrow5 hat5 hlt5 hownN hraw4 H4 h1 hD
      go_wp2_with fail
      exact ⟨⟨k + 1, by omega, by simp, ⟨_, _, H6.out⟩, hB6⟩, by simp [RowKit.intOf]; omega⟩
    · obtain ⟨role, V, h1⟩ := hD.out
      have h1 := Lib.hid h1
      have hke : Hid (xs.take k = xs) := List.take_of_length_le (by omega)
      rw [hke.out] at h1
      obtain ⟨a, n, hva, _⟩ := own_form2 h1.out.on.1
      simp only [Mb.namesFrom_len] at hva
      obtain ⟨i0, hi, hz0, hz1, hz2⟩ := info_parts Tryz.info_named
      have k0 := h1.out.cellsK.1
      have k1 := h1.out.cellsK.2.1
      have f1 := h1.out.cellsK.2.2.2.2.2 1
      rw [hva] at k0
      have hsrc := names_src h1.out.on.1
      rw [hva, Mb.namesFrom_len] at hsrc
      have HV := Lib.hid hsrc
      have hKw : K < wr.heap.size := h1.out.lt
      clear hsrc hD
      go_wp2_with (at_builtin; refine wpList_append_new rfl _ (.tmp 54) 43 rfl 52 i0 _ 2 24 Tryz.underlying43 hi hz0 hz1 hz2 rfl (by decide) rfl (.slice a xs.length n) rfl xs.length (nmCells (Mb.namesFrom 0 xs)) (by rw [nmCells_length, Mb.namesFrom_len]) HV.out (nmCells_one _) (by unfold maxLen; omega) (by omega) ?_)
      intro ua uc w3 hown3 hgrow3
      have m1 := (hgrow3.cell_far ⟨K, 1, none⟩ hKw (by simp)).trans k1
      have q1 := (hgrow3.frozen_far ⟨K, 1, none⟩ hKw (by simp)).trans f1
      have h5 := h1.out.newS hgrow3 (ns := Mb.namesFrom 0 xs) (by rw [Mb.namesFrom_len]; exact hown3) hsz
      have H5 := Lib.hid h5
      have hB5 : Hid (Below K w (w3.setCell ⟨K, 1, none⟩ (.slice ua xs.length uc))) := (hbl.out.grown hgrow3 hsz (fun k' hk' => by cases hk')).setCell (Nat.le_refl _) _
      clear h5 hown3 hgrow3
      go_wp2_with fail
      go_ret
      exact ⟨rfl, ⟨_, _, H5.out⟩, hB5.out⟩
end Go.Proofs.YtamglanahpcedaaGreatDoor
