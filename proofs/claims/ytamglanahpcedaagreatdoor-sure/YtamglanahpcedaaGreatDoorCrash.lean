/-
  OWN TEXT: mailbagref.Disk.Crash, of a disk that is all safe: whatever is picked, its files are left.
-/
import Derived.Test.YtamglanahpcedaaGreatDoorDiskKO
namespace Go.Proofs.YtamglanahpcedaaGreatDoor
open Go.RowKit Go.Lib

theorem named_index0 {g n cap k : Nat} {w : World} (hk : k < n) : (Instr.indexAt 43 (.slice (some ⟨g, 0, none⟩) n cap) (.int .i64 (k : Int))).run Tryz.prog w = .ok (.pointer (some ⟨g, k * 2, none⟩)) w := by
  have := named_index (g := g) (off := 0) (cap := cap) (w := w) hk
  rwa [Nat.zero_add] at this

/-- all of it is safe -/
structure Mb.Safe (D : Mb.Dk) : Prop where
  sure : D.sure = D.names
  since : D.since = []
  node : ∀ (k : Nat) (x : Mb.Nm), D.names[k]? = some x → ∃ (nd : Nat) (y : Mb.Nd), x.node = (nd : Int) ∧ D.nodes[nd]? = some y ∧ y.safe = (y.data.length : Int) ∧ y.data.length ≤ 1048576
theorem Mb.Safe.good {D : Mb.Dk} (h : Mb.Safe D) : Mb.Good D := fun k x hx => let ⟨nd, y, h1, h2, _⟩ := h.node k x hx; ⟨nd, y, h1, h2⟩

set_option maxRecDepth 100000 in
set_option maxHeartbeats 4000000 in
theorem crash_any {role : Nat → Nat} {B K : Nat} {V : DkV} {D : Mb.Dk} {W : World} (h : DkAt role B K V D W) (hg : Mb.Safe D) (hl : D.names.length ≤ 1048576) (hs : Mb.InOrder (Mb.filesOf D)) (pa : Option Addr) (n pc : Nat) (hI : IntsAt W pa n) (hn : n ≤ maxLen) :
    Calls Tryz.prog 12 #[.pointer (some ⟨K, 0, none⟩), .slice pa n pc] W fun e w' => (∃ v, e = .returned v ∧ OwnF w' W.heap.size v (Mb.filesOf D)) ∧ Below W.heap.size W w' := by
  have Hh := Lib.hid h
  have Hg := Lib.hid hg
  have Hs := Lib.hid hs
  have HI := Lib.hid hI
  have hKb : K < W.heap.size := h.lt
  obtain ⟨sa, scap, hvs, _⟩ := own_form2 h.os.1
  obtain ⟨ia, icap, hvi, _⟩ := own_form2 h.oi.1
  obtain ⟨da, dcap, hvd, _⟩ := own_form2 h.od.1
  rw [hg.since] at hvi
  rw [hg.sure] at hvs
  have k1 : W.cell? ⟨K, 1, none⟩ = some (.slice sa D.names.length scap) := by rw [← hvs]; exact h.cellsK.2.1
  have k3 : W.cell? ⟨K, 3, none⟩ = some (.slice ia 0 icap) := by have := h.cellsK.2.2.2.1; rw [hvi] at this; exact this
  have k2 : W.cell? ⟨K, 2, none⟩ = some (.slice da D.nodes.length dcap) := by rw [← hvd]; exact h.cellsK.2.2.1
  have hsrc := names_src h.os.1
  rw [hvs, hg.sure] at hsrc
  have Hsrc := Lib.hid hsrc
  have Hfl : Hid ((Mb.filesOf D).length = D.names.length) := by unfold Hid; simp [Mb.filesOf]
  obtain ⟨i0, hi, hz0, hz1, hz2⟩ := info_parts Tryz.info_named
  have hPb : (W.alloc (.cells #[.slice pa n pc, .int .i64 0] 75)).heap[W.heap.size]? = some (.cells #[.slice pa n pc, .int .i64 0] 75 (0, 0)) := heap_alloc_new W _
  have q1 : (W.alloc (.cells #[.slice pa n pc, .int .i64 0] 75)).cell? ⟨K, 1, none⟩ = some (.slice sa D.names.length scap) := (World.cell?_of_block (a := ⟨K, 1, none⟩) (Go.heap_alloc_old W _ hKb)).trans k1
  have HPb := Lib.hid hPb
  have hsrc1 : (D.names.length = 0 ∧ Value.slice sa D.names.length scap = .slice none 0 0) ∨ ∃ ad c, Value.slice sa D.names.length scap = .slice (some ad) D.names.length c ∧ ∀ j u, (nmCells D.names)[j]? = some u → (W.alloc (.cells #[.slice pa n pc, .int .i64 0] 75)).cell? (ad.add j) = some u := by
    rcases hsrc with h1 | ⟨ad, c, h1, h2⟩
    · exact Or.inl h1
    · exact Or.inr ⟨ad, c, h1, fun j u hu => (((Below.refl W.heap.size W).alloc (Nat.le_refl _) _).cell (World.block_lt_of_cell? W _ (h2 j u hu))).trans (h2 j u hu)⟩
  have Hsrc1 := Lib.hid hsrc1
  clear h hg hs hI hsrc hsrc1 hPb
  go_enter Tryz.func12, Tryz.ntmps12
  go_wp2_with (at_builtin; refine wpList_append_new rfl _ (.tmp 22) 43 rfl 52 i0 _ 2 24 Tryz.underlying43 hi hz0 hz1 hz2 rfl (by decide) rfl (.slice sa D.names.length scap) rfl D.names.length (nmCells D.names) (nmCells_length _) Hsrc1.out (nmCells_one _) (by unfold maxLen; omega) (by omega) ?_)
  intro ua uc w2 hown2 hgrow2
  have hB2 : Below W.heap.size W w2 := ((Below.refl W.heap.size W).alloc (Nat.le_refl _) _).grown hgrow2 (by simp) (fun k' hk' => by cases hk')
  have hP2 : PkAt w2 W.heap.size pa n pc 0 := ⟨(hgrow2.block W.heap.size (by simp) (by simp)).trans HPb.out, Nat.zero_le _⟩
  have k3' : w2.cell? ⟨K, 3, none⟩ = some (.slice ia 0 icap) := (hB2.cell (p := ⟨K, 3, none⟩) hKb).trans k3
  have hsz2 : W.heap.size < w2.heap.size := by have := hgrow2.size; simp at this; omega
  have HP2 := Lib.hid hP2
  have HB2 := Lib.hid hB2
  have HO2 := Lib.hid hown2
  clear hP2 hB2 hown2 hgrow2 q1 k1 Hsrc Hsrc1 HPb
  go_wp2_with fail
  go_loopw [6, 7] (fun nm i wr => nm = .slice ua D.names.length uc ∧ i = .int .i64 0 ∧ wr = w2) (fun _ _ _ => 0)
  case atStart => exact ⟨rfl, rfl, rfl⟩
  case round =>
  obtain ⟨rfl, rfl, hwr⟩ := hrel
  subst wr
  go_wp2_with fail
  go_loopw [12, 13] (fun l i wr => ∃ (k k' : Nat), k ≤ D.names.length ∧ i = .int .i64 k ∧ Hid (OwnF wr w2.heap.size l ((Mb.filesOf D).take k)) ∧ Hid (PkAt wr W.heap.size pa n pc k') ∧ Hid (BelowBut W.heap.size w2.heap.size w2 wr)) (fun _ i _ => D.names.length - (RowKit.intOf i).toNat)
  case atStart => exact ⟨0, 0, Nat.zero_le _, rfl, OwnF.nil _ _, HP2, BelowBut.refl _ _ _⟩
  case round =>
    obtain ⟨k, k', hk, rfl, hO, hP, hbl⟩ := hrel
    obtain ⟨la, lc, rfl, hlc, hlat, _⟩ := OwnF.form hO.out
    have HLT : Hid (((Mb.filesOf D).take k).length = k) := by unfold Hid; simp [Hfl.out]; omega
    rw [HLT.out] at hO hlc ⊢
    have hszr := hbl.out.size
    by_cases hkl : k < D.names.length
    · obtain ⟨nd, y, hxn, hy, hsafe, hyl⟩ := Hg.out.node k D.names[k] (by simp [hkl])
      obtain ⟨nb, noff, nc, hvn', hnb, hns⟩ := ownN_some HO2.out (k := k) (x := D.names[k]) (by simp [hkl])
      have hoff : noff = 0 := by
        rcases HO2.out.2 with ⟨_, e2⟩ | ⟨g, c, cur, e1, _⟩
        · omega
        · rw [hvn'] at e1; injection e1 with e1; injection e1 with e1; injection e1
      subst hoff
      injection hvn' with e1 e2 e3
      subst e1 e3
      have hnbW : W.heap.size + 1 ≤ nb := (HO2.out.lt nb rfl).1
      obtain ⟨gd, dcap', hvd', hgb, hd0, hd1⟩ := ownD_some Hh.out.od.1 hy
      rw [hvd] at hvd'
      injection hvd' with e1 e2' e3
      subst e1 e3
      obtain ⟨m0', m1'⟩ := hns k D.names[k] (by simp [hkl])
      have hnl : nd < D.nodes.length := (List.getElem?_eq_some_iff.1 hy).1
      obtain ⟨bn, Hbn, Hbn'⟩ := named_bytes D.names[k].name
      obtain ⟨bd, Hbd, Hbd'⟩ := named_bytes y.data
      have hbs : bd.size = y.data.length := by rw [Lib.size_eq, Hbd'.out]
      rw [← Hbn.out] at m0'
      rw [← Hbd.out] at hd0
      rw [hsafe, ← hbs] at hd1
      rw [hxn] at m1'
      simp only [Nat.zero_add] at m0' m1'
      have hWW : ∀ p : Addr, p.block < W.heap.size → wr.cell? p = W.cell? p := fun p hp => (hbl.out.cell (by omega) (by omega)).trans (HB2.out.cell hp)
      have c2 := (hWW ⟨K, 2, none⟩ hKb).trans k2
      have m0 := (hbl.out.cell (p := ⟨nb, k * 2, none⟩) hnb (by show nb ≠ W.heap.size; omega)).trans m0'
      have n1 := (hbl.out.cell (p := ⟨nb, k * 2 + 1, none⟩) hnb (by show nb ≠ W.heap.size; omega)).trans m1'
      have d0 := (hWW ⟨gd, nd * 2, none⟩ hgb).trans hd0
      have d1 := (hWW ⟨gd, nd * 2 + 1, none⟩ hgb).trans hd1
      have hfile : Hid ((Mb.filesOf D).take (k + 1) = (Mb.filesOf D).take k ++ [⟨bn.data.toList, bd.data.toList⟩]) := by
        unfold Hid
        rw [List.take_succ_eq_append_getElem (by rw [Hfl.out]; exact hkl)]
        congr 2
        simp [Mb.filesOf, Mb.dataOf, hxn, hy, Hbn'.out, Hbd'.out]
      have hraw : wr.ownsRow w2.heap.size 48 2 (.slice la k lc) k (flCells ((Mb.filesOf D).take k)) := by
        have := hO.out
        unfold OwnF at this
        rwa [HLT.out] at this
      have hS1 : (wr.drew.alloc (.cells #[.string ⟨#[]⟩, .int .i64 0] 50)).cell? ⟨K, 2, none⟩ = some (.slice (some ⟨gd, 0, none⟩) D.nodes.length dcap) ∧ (wr.drew.alloc (.cells #[.string ⟨#[]⟩, .int .i64 0] 50)).cell? ⟨nb, k * 2 + 1, none⟩ = some (.int .i64 (nd : Int)) ∧ (wr.drew.alloc (.cells #[.string ⟨#[]⟩, .int .i64 0] 50)).cell? ⟨gd, nd * 2, none⟩ = some (.string bd) ∧ (wr.drew.alloc (.cells #[.string ⟨#[]⟩, .int .i64 0] 50)).cell? ⟨gd, nd * 2 + 1, none⟩ = some (.int .i64 (bd.size : Int)) := ⟨(World.cell?_of_block (a := ⟨K, 2, none⟩) (Go.heap_alloc_old wr.drew _ (show K < wr.heap.size by omega))).trans c2, (World.cell?_of_block (a := ⟨nb, k * 2 + 1, none⟩) (Go.heap_alloc_old wr.drew _ (show nb < wr.heap.size by omega))).trans n1, (World.cell?_of_block (a := ⟨gd, nd * 2, none⟩) (Go.heap_alloc_old wr.drew _ (show gd < wr.heap.size by omega))).trans d0, (World.cell?_of_block (a := ⟨gd, nd * 2 + 1, none⟩) (Go.heap_alloc_old wr.drew _ (show gd < wr.heap.size by omega))).trans d1⟩
      have HW := Lib.hid hWW
      have hbs1 : bd.size ≤ 1048576 := by omega
      clear e2 e2' hns hd0 hd1 m0' m1' Hbn Hbd hxn hy hsafe hyl hbs hWW
      go_wp2_with fail
      refine region_until 12 (fun w' : World => w'.cell? ⟨K, 2, none⟩ = some (.slice (some ⟨gd, 0, none⟩) D.nodes.length dcap) ∧ w'.cell? ⟨nb, k * 2 + 1, none⟩ = some (.int .i64 (nd : Int)) ∧ w'.cell? ⟨gd, nd * 2, none⟩ = some (.string bd) ∧ w'.cell? ⟨gd, nd * 2 + 1, none⟩ = some (.int .i64 (bd.size : Int))) 13 rfl (by kernel_rfl) ⟨c2, n1, d0, d1⟩ (fun a' Q hA hQ hP hS => ?_)
      have z : a'.tmps.size = 136 := by rw [hA.out]; rfl
      have e0 : a'.eval (.tmp 0) = Value.pointer (some ⟨K, 0, none⟩) := by rw [hA.out]; rfl
      have e6 : a'.eval (.tmp 6) = Value.slice (some ⟨nb, 0, none⟩) D.names.length uc := by rw [hA.out]; rfl
      have e13 : a'.eval (.tmp 13) = Value.int .i64 (k : Int) := by rw [hA.out]; rfl
      refine tk (i := 0) (d := (some 98)) rfl rfl (by kernel_rfl) hP (fun w hw => run_move rfl e0) hS ?_
      refine tk (i := 1) (d := (some 99)) rfl rfl (by kernel_rfl) hP (fun w hw => run_nil rfl (eve (Nat.lt_of_lt_of_eq (by decide : 98 < 136) z.symm))) hS ?_
      refine tk (i := 2) (d := (some 100)) rfl rfl (by kernel_rfl) hP (fun w hw => run_field (p' := ⟨K, 2, none⟩) rfl (eve (Nat.lt_of_lt_of_eq (by decide : 99 < 136) (szq z).symm)) (fun w => by kernel_rfl)) hS ?_
      refine tk (i := 3) (d := (some 101)) rfl rfl (by kernel_rfl) hP (fun w hw => run_load rfl (eve (Nat.lt_of_lt_of_eq (by decide : 100 < 136) (szq (szq z)).symm)) (loadAt_one (fun w => by kernel_rfl) hw.1)) hS ?_
      refine tk (i := 4) (d := (some 102)) rfl rfl (by kernel_rfl) hP (fun w hw => run_move rfl (evq (by decide) (evq (by decide) (evq (by decide) (evq (by decide) e6))))) hS ?_
      refine tk (i := 5) (d := (some 103)) rfl rfl (by kernel_rfl) hP (fun w hw => run_move rfl (evq (by decide) (evq (by decide) (evq (by decide) (evq (by decide) (evq (by decide) e13)))))) hS ?_
      refine tk (i := 6) (d := (some 104)) rfl rfl (by kernel_rfl) hP (fun w hw => run_index (v := .pointer (some ⟨nb, k * 2, none⟩)) rfl (evq (by decide) (eve (Nat.lt_of_lt_of_eq (by decide : 102 < 136) (szq (szq (szq (szq z)))).symm))) (eve (Nat.lt_of_lt_of_eq (by decide : 103 < 136) (szq (szq (szq (szq (szq z))))).symm)) (named_index0 hkl)) hS ?_
      refine tk (i := 7) (d := (some 105)) rfl rfl (by kernel_rfl) hP (fun w hw => run_field (p' := ⟨nb, k * 2 + 1, none⟩) rfl (eve (Nat.lt_of_lt_of_eq (by decide : 104 < 136) (szq (szq (szq (szq (szq (szq z)))))).symm)) (fun w => by kernel_rfl)) hS ?_
      refine tk (i := 8) (d := (some 106)) rfl rfl (by kernel_rfl) hP (fun w hw => run_load rfl (eve (Nat.lt_of_lt_of_eq (by decide : 105 < 136) (szq (szq (szq (szq (szq (szq (szq z))))))).symm)) (loadAt_one (fun w => by kernel_rfl) hw.2.1)) hS ?_
      refine tk (i := 9) (d := (some 107)) rfl rfl (by kernel_rfl) hP (fun w hw => run_index (v := .pointer (some ⟨gd, nd * 2, none⟩)) rfl (evq (by decide) (evq (by decide) (evq (by decide) (evq (by decide) (evq (by decide) (eve (Nat.lt_of_lt_of_eq (by decide : 101 < 136) (szq (szq (szq z))).symm))))))) (eve (Nat.lt_of_lt_of_eq (by decide : 106 < 136) (szq (szq (szq (szq (szq (szq (szq (szq z)))))))).symm)) (node_index hnl)) hS ?_
      refine tk (i := 10) (d := (some 108)) rfl rfl (by kernel_rfl) hP (fun w hw => run_load rfl (eve (Nat.lt_of_lt_of_eq (by decide : 107 < 136) (szq (szq (szq (szq (szq (szq (szq (szq (szq z))))))))).symm)) (node_load hw.2.2.1 hw.2.2.2)) hS ?_
      refine go_val (i := 11) (d := (some 14)) (v := .pointer (some ⟨wr.heap.size, 0, none⟩)) (w' := wr.drew.alloc (.cells #[.string ⟨#[]⟩, .int .i64 0] 50)) (by kernel_rfl) rfl rfl rfl (run_alloc rfl node_alloc) (fun _ => hS1) ?_
      refine go_store (i := 12) (w' := ((wr.drew.alloc (.cells #[.string ⟨#[]⟩, .int .i64 0] 50)).setCell ⟨wr.heap.size, 0, none⟩ (.string bd)).setCell ⟨wr.heap.size, 1, none⟩ (.int .i64 (bd.size : Int))) (by kernel_rfl) rfl rfl rfl rfl (eve (Nat.lt_of_lt_of_eq (by decide : 14 < 136) (szq (szq (szq (szq (szq (szq (szq (szq (szq (szq (szq z))))))))))).symm)) (evq (by decide) (eve (Nat.lt_of_lt_of_eq (by decide : 108 < 136) (szq (szq (szq (szq (szq (szq (szq (szq (szq (szq z)))))))))).symm))) (node_store (heap_alloc_new wr.drew _)) (fun h => absurd rfl h) ?_
      refine wpAnyU_done (by kernel_rfl) (hQ.out _ _ ?_) _
      rw [hA.out]
      simp only [Act.put, List.setIfInBounds_toArray]
      dsimp only [List.set]
      clear hQ hP hA z hS Q a' e0 e6 e13 hS1
      have hv3 : (((wr.drew.alloc (.cells #[.string ⟨#[]⟩, .int .i64 0] 50)).setCell ⟨wr.heap.size, 0, none⟩ (.string bd)).setCell ⟨wr.heap.size, 1, none⟩ (.int .i64 (bd.size : Int))).heap[wr.heap.size]? = some (.cells #[.string bd, .int .i64 (bd.size : Int)] 50 (0, 0)) := by
        have h1 := heap_set_in (o := 0) (.string bd) (heap_alloc_new wr.drew (.cells #[.string ⟨#[]⟩, .int .i64 0] 50))
        have h2 := heap_set_in (o := 1) (.int .i64 (bd.size : Int)) h1
        simpa using h2
      have hB3 := Below.two (N := wr.heap.size) (Nat.le_refl _) (.string bd) (.int .i64 (bd.size : Int)) (.cells #[.string ⟨#[]⟩, .int .i64 0] 50) (w := wr)
      have hs3 : (((wr.drew.alloc (.cells #[.string ⟨#[]⟩, .int .i64 0] 50)).setCell ⟨wr.heap.size, 0, none⟩ (.string bd)).setCell ⟨wr.heap.size, 1, none⟩ (.int .i64 (bd.size : Int))).heap.size = wr.heap.size + 1 := by simp
      generalize hw3 : (((wr.drew.alloc (.cells #[.string ⟨#[]⟩, .int .i64 0] 50)).setCell ⟨wr.heap.size, 0, none⟩ (.string bd)).setCell ⟨wr.heap.size, 1, none⟩ (.int .i64 (bd.size : Int))) = w3 at *
      clear hw3
      have hP3 : PkAt w3 W.heap.size pa n pc k' := ⟨(hB3.block W.heap.size (by omega)).trans hP.out.blk, hP.out.le⟩
      have hI3 : IntsAt w3 pa n := by
        rcases HI.out with h1 | ⟨b, off, h1, h2, h3⟩
        · exact Or.inl h1
        · refine Or.inr ⟨b, off, h1, by omega, fun i hi => ?_⟩
          obtain ⟨z, h4, h5, h6⟩ := h3 i hi
          exact ⟨z, ((hB3.cell (p := ⟨b, off + i, none⟩) (show b < wr.heap.size by omega)).trans (HW.out ⟨b, off + i, none⟩ h2)).trans h4, h5, h6⟩
      have gx := next_one hP3 hI3 hn
      have x0 : w3.cell? ⟨wr.heap.size, 0, none⟩ = some (.string bd) := by simp [World.cell?, hv3]
      have x1 : w3.cell? ⟨wr.heap.size, 1, none⟩ = some (.int .i64 (bd.size : Int)) := by simp [World.cell?, hv3]
      have HB3 := Lib.hid hB3
      have HV3 := Lib.hid hv3
      clear hB3 hv3 hP3 hI3 c2 n1 d0 d1
      go_wp2_with (go_at_call 21; refine gx.mono ?_; rintro e w4 ⟨rfl, hpk, honly⟩; have HPK := Lib.hid hpk; have HON := Lib.hid honly; clear hpk honly)
      have hB4 : BelowBut W.heap.size w2.heap.size w2 w4 := (hbl.out.step (HB3.out.mono (by omega))).only HON.out
      have hs4 : w4.heap.size = wr.heap.size + 1 := by rw [HON.out.size]; exact hs3
      have p0 := (hB4.cell (p := ⟨nb, k * 2, none⟩) hnb (by show nb ≠ W.heap.size; omega)).trans (((hbl.out.cell (p := ⟨nb, k * 2, none⟩) hnb (by show nb ≠ W.heap.size; omega)).symm).trans m0)
      have v0 : w4.cell? ⟨wr.heap.size, 0, none⟩ = some (.string bd) := (World.cell?_of_block (a := ⟨wr.heap.size, 0, none⟩) (HON.out.block wr.heap.size (by omega))).trans x0
      have v1 : w4.cell? ⟨wr.heap.size, 1, none⟩ = some (.int .i64 (bd.size : Int)) := (World.cell?_of_block (a := ⟨wr.heap.size, 1, none⟩) (HON.out.block wr.heap.size (by omega))).trans x1
      have hown4 : w4.ownsRow w2.heap.size 48 2 (.slice la k lc) k (flCells ((Mb.filesOf D).take k)) := by
        refine owns_block ?_ hraw
        intro b hb
        have h1 := hraw.lt b hb
        exact (HON.out.block b (by omega)).trans (HB3.out.block b h1.2)
      have hownA := (hown4.drew).alloc (.cells #[.string bn, .string bd] 48)
      have hnot : ∀ b, b < w2.heap.size → some b ≠ (Value.slice la k lc).ownBlock := fun b hb e => by have := (hraw.lt b e.symm).1; omega
      have hnv : some wr.heap.size ≠ (Value.slice la k lc).ownBlock := fun e => by have := (hraw.lt _ e.symm).2; omega
      have hsum : ∀ w, (do eqGuard .add 3 (.tmp 127) (.tmp 128) (.int .i64 (bd.size : Int)) (.int .i64 0); binOp .add 3 (.int .i64 (bd.size : Int)) (.int .i64 0) : Sem Value).run Tryz.prog w = .ok (.int .i64 (bd.size : Int)) w := fun w => by
        have hw : IntKind.i64.wrap ((bd.size : Int)) = (bd.size : Int) := IntWalk.i64_in _ (by omega)
        go_simp
      have hcut : ∀ w, (Instr.sliceAt 9 (.string bd) none (some (.int .i64 (bd.size : Int))) none).run Tryz.prog w = .ok (.string bd) w := fun w => by
        go_simp
      have hS2 : (w4.drew.alloc (.cells #[.string bn, .string bd] 48)).cell? ⟨nb, k * 2, none⟩ = some (.string bn) ∧ (w4.drew.alloc (.cells #[.string bn, .string bd] 48)).cell? ⟨wr.heap.size, 0, none⟩ = some (.string bd) ∧ (w4.drew.alloc (.cells #[.string bn, .string bd] 48)).cell? ⟨wr.heap.size, 1, none⟩ = some (.int .i64 (bd.size : Int)) := ⟨(World.cell?_of_block (a := ⟨nb, k * 2, none⟩) (Go.heap_alloc_old w4.drew _ (show nb < w4.heap.size by omega))).trans p0, (World.cell?_of_block (a := ⟨wr.heap.size, 0, none⟩) (Go.heap_alloc_old w4.drew _ (show wr.heap.size < w4.heap.size by omega))).trans v0, (World.cell?_of_block (a := ⟨wr.heap.size, 1, none⟩) (Go.heap_alloc_old w4.drew _ (show wr.heap.size < w4.heap.size by omega))).trans v1⟩
      refine region_until 17 (fun w' : World => w'.cell? ⟨nb, k * 2, none⟩ = some (.string bn) ∧ w'.cell? ⟨wr.heap.size, 0, none⟩ = some (.string bd) ∧ w'.cell? ⟨wr.heap.size, 1, none⟩ = some (.int .i64 (bd.size : Int))) 17 rfl (by kernel_rfl) ⟨p0, v0, v1⟩ (fun a' Q hA hQ hP hS => ?_)
      have z : a'.tmps.size = 136 := by rw [hA.out]; rfl
      have e6 : a'.eval (.tmp 6) = Value.slice (some ⟨nb, 0, none⟩) D.names.length uc := by rw [hA.out]; rfl
      have e12 : a'.eval (.tmp 12) = Value.slice la k lc := by rw [hA.out]; rfl
      have e13 : a'.eval (.tmp 13) = Value.int .i64 (k : Int) := by rw [hA.out]; rfl
      have e14 : a'.eval (.tmp 14) = Value.pointer (some ⟨wr.heap.size, 0, none⟩) := by rw [hA.out]; rfl
      have e15 : a'.eval (.tmp 15) = Value.int .i64 0 := by rw [hA.out]; rfl
      refine tk (i := 0) (d := (some 118)) rfl rfl (by kernel_rfl) hP (fun w hw => run_move rfl e12) hS ?_
      refine tk (i := 1) (d := (some 119)) rfl rfl (by kernel_rfl) hP (fun w hw => run_move rfl (evq (by decide) e6)) hS ?_
      refine tk (i := 2) (d := (some 120)) rfl rfl (by kernel_rfl) hP (fun w hw => run_move rfl (evq (by decide) (evq (by decide) e13))) hS ?_
      refine tk (i := 3) (d := (some 121)) rfl rfl (by kernel_rfl) hP (fun w hw => run_index (v := .pointer (some ⟨nb, k * 2, none⟩)) rfl (evq (by decide) (eve (Nat.lt_of_lt_of_eq (by decide : 119 < 136) (szq z).symm))) (eve (Nat.lt_of_lt_of_eq (by decide : 120 < 136) (szq (szq z)).symm)) (named_index0 hkl)) hS ?_
      refine tk (i := 4) (d := (some 122)) rfl rfl (by kernel_rfl) hP (fun w hw => run_field (p' := ⟨nb, k * 2, none⟩) rfl (eve (Nat.lt_of_lt_of_eq (by decide : 121 < 136) (szq (szq (szq z))).symm)) (fun w => by kernel_rfl)) hS ?_
      refine tk (i := 5) (d := (some 123)) rfl rfl (by kernel_rfl) hP (fun w hw => run_load rfl (eve (Nat.lt_of_lt_of_eq (by decide : 122 < 136) (szq (szq (szq (szq z)))).symm)) (loadAt_one (fun w => by kernel_rfl) hw.1)) hS ?_
      refine tk (i := 6) (d := (some 124)) rfl rfl (by kernel_rfl) hP (fun w hw => run_field (p' := ⟨wr.heap.size, 0, none⟩) rfl (evq (by decide) (evq (by decide) (evq (by decide) (evq (by decide) (evq (by decide) (evq (by decide) e14)))))) (fun w => by kernel_rfl)) hS ?_
      refine tk (i := 7) (d := (some 125)) rfl rfl (by kernel_rfl) hP (fun w hw => run_load rfl (eve (Nat.lt_of_lt_of_eq (by decide : 124 < 136) (szq (szq (szq (szq (szq (szq z)))))).symm)) (loadAt_one (fun w => by kernel_rfl) hw.2.1)) hS ?_
      refine tk (i := 8) (d := (some 126)) rfl rfl (by kernel_rfl) hP (fun w hw => run_field (p' := ⟨wr.heap.size, 1, none⟩) rfl (evq (by decide) (evq (by decide) (evq (by decide) (evq (by decide) (evq (by decide) (evq (by decide) (evq (by decide) (evq (by decide) e14)))))))) (fun w => by kernel_rfl)) hS ?_
      refine tk (i := 9) (d := (some 127)) rfl rfl (by kernel_rfl) hP (fun w hw => run_load rfl (eve (Nat.lt_of_lt_of_eq (by decide : 126 < 136) (szq (szq (szq (szq (szq (szq (szq (szq z)))))))).symm)) (loadAt_one (fun w => by kernel_rfl) hw.2.2)) hS ?_
      refine tk (i := 10) (d := (some 128)) rfl rfl (by kernel_rfl) hP (fun w hw => run_move rfl (evq (by decide) (evq (by decide) (evq (by decide) (evq (by decide) (evq (by decide) (evq (by decide) (evq (by decide) (evq (by decide) (evq (by decide) (evq (by decide) e15))))))))))) hS ?_
      refine tk (i := 11) (d := (some 129)) rfl rfl (by kernel_rfl) hP (fun w hw => run_bin (v := .int .i64 (bd.size : Int)) rfl (evq (by decide) (eve (Nat.lt_of_lt_of_eq (by decide : 127 < 136) (szq (szq (szq (szq (szq (szq (szq (szq (szq z))))))))).symm))) (eve (Nat.lt_of_lt_of_eq (by decide : 128 < 136) (szq (szq (szq (szq (szq (szq (szq (szq (szq (szq z)))))))))).symm)) (hsum w)) hS ?_
      refine tk (i := 12) (d := (some 130)) rfl rfl (by kernel_rfl) hP (fun w hw => run_slice (v := .string bd) rfl (evq (by decide) (evq (by decide) (evq (by decide) (evq (by decide) (eve (Nat.lt_of_lt_of_eq (by decide : 125 < 136) (szq (szq (szq (szq (szq (szq (szq z))))))).symm)))))) rfl (congrArg some (eve (Nat.lt_of_lt_of_eq (by decide : 129 < 136) (szq (szq (szq (szq (szq (szq (szq (szq (szq (szq (szq z))))))))))).symm))) (hcut w)) hS ?_
      refine tk (i := 13) (d := (some 131)) rfl rfl (by kernel_rfl) hP (fun w hw => run_build2 (v := .agg #[.string bn, .string bd]) rfl (evq (by decide) (evq (by decide) (evq (by decide) (evq (by decide) (evq (by decide) (evq (by decide) (evq (by decide) (eve (Nat.lt_of_lt_of_eq (by decide : 123 < 136) (szq (szq (szq (szq (szq z))))).symm))))))))) (eve (Nat.lt_of_lt_of_eq (by decide : 130 < 136) (szq (szq (szq (szq (szq (szq (szq (szq (szq (szq (szq (szq z)))))))))))).symm)) file_make) hS ?_
      refine go_build1 (i := 14) (d := (some 132)) (v := .slice (some ⟨w4.drew.heap.size, 0, none⟩) 1 1) (w' := w4.drew.alloc (.cells #[.string bn, .string bd] 48)) (by kernel_rfl) rfl rfl rfl rfl (eve (Nat.lt_of_lt_of_eq (by decide : 131 < 136) (szq (szq (szq (szq (szq (szq (szq (szq (szq (szq (szq (szq (szq z))))))))))))).symm)) file_build (fun _ => hS2) ?_
      refine go_append (i := 15) (d := (some 133)) [.string bn, .string bd] (by kernel_rfl) rfl rfl rfl rfl elem_file (by decide) (evq (by decide) (evq (by decide) (evq (by decide) (evq (by decide) (evq (by decide) (evq (by decide) (evq (by decide) (evq (by decide) (evq (by decide) (evq (by decide) (evq (by decide) (evq (by decide) (evq (by decide) (evq (by decide) (eve (Nat.lt_of_lt_of_eq (by decide : 118 < 136) z.symm)))))))))))))))) hownA (eve (Nat.lt_of_lt_of_eq (by decide : 132 < 136) (szq (szq (szq (szq (szq (szq (szq (szq (szq (szq (szq (szq (szq (szq z)))))))))))))).symm)) rfl (World.news_of_block (cs := #[.string bn, .string bd]) (t := 48) (fr := (0, 0)) (heap_alloc_new w4.drew _)) (by simp [Value.oneCell']) (by decide) (by unfold maxLen; omega) (by omega) (by simp; omega) ?_
      intro g gc w5 hown5 hgrow5 hat5 hlt5
      have hS3 : w5.cell? ⟨nb, k * 2, none⟩ = some (.string bn) ∧ w5.cell? ⟨wr.heap.size, 0, none⟩ = some (.string bd) ∧ w5.cell? ⟨wr.heap.size, 1, none⟩ = some (.int .i64 (bd.size : Int)) := ⟨(hgrow5.cell_far ⟨nb, k * 2, none⟩ (by simp; omega) (hnot nb hnb)).trans hS2.1, (hgrow5.cell_far ⟨wr.heap.size, 0, none⟩ (by simp; omega) hnv).trans hS2.2.1, (hgrow5.cell_far ⟨wr.heap.size, 1, none⟩ (by simp; omega) hnv).trans hS2.2.2⟩
      refine ⟨fun _ => hS3, ?_⟩
      clear hS
      have hS := hS3
      refine go_val (i := 16) (d := (some 12)) (by kernel_rfl) rfl rfl rfl (run_assign rfl (eve (Nat.lt_of_lt_of_eq (by decide : 133 < 136) (szq (szq (szq (szq (szq (szq (szq (szq (szq (szq (szq (szq (szq (szq (szq z))))))))))))))).symm))) (fun _ => hS) ?_
      refine wpAnyU_done (by kernel_rfl) (hQ.out _ _ ?_) _
      rw [hA.out]
      simp only [Act.put, List.setIfInBounds_toArray]
      dsimp only [List.set]
      clear hQ hP hA z hS Q a' e6 e12 e13 e14 e15 hS2 hS3
      have hB5 : Hid (BelowBut W.heap.size w2.heap.size w2 w5) := hB4.step ((((Below.refl w2.heap.size w4).drew).alloc (show w2.heap.size ≤ w4.heap.size by omega) _).grown hgrow5 (by simp; omega) (fun k' hk' => (hraw.lt k' hk').1))
      obtain ⟨k2', hpk2⟩ := HPK.out
      have hP5 : Hid (PkAt w5 W.heap.size pa n pc k2') := ⟨(hgrow5.block W.heap.size (by simp; omega) (hnot _ (by omega))).trans ((Go.heap_alloc_old w4.drew _ (show W.heap.size < w4.heap.size by omega)).trans hpk2.blk), hpk2.le⟩
      clear hownA hgrow5 hat5 hraw hown4 hnot hnv hB4 hpk2
      go_wp2_with fail
      refine ⟨⟨k + 1, k2', by omega, by simp, ?_, hP5, hB5⟩, by simp [RowKit.intOf]; omega⟩
      rw [hfile.out]
      unfold Hid OwnF
      rw [flCells_snoc]
      have e : ((Mb.filesOf D).take k ++ [(⟨bn.data.toList, bd.data.toList⟩ : Mb.Fl)]).length = k + 1 := by simp [HLT.out]
      rw [e]
      exact hown5
    · have hke : k = D.names.length := by omega
      have HO : Hid (FlAt wr la (Mb.filesOf D)) := by
        unfold Hid; rw [hke, ← Hfl.out, List.take_length] at hlat; exact hlat
      have gs := sorted_any la lc (Mb.filesOf D) wr HO.out (by rw [Hfl.out]; exact hl) Hs.out
      rw [Hfl.out, ← hke] at gs
      have HKE := Lib.hid hke
      clear hlat hke
      go_wp2_with (go_at_call 20; refine gs.mono ?_; rintro e w1 ⟨⟨v, rfl, hv⟩, hb1⟩; have HV := Lib.hid hv; have HB := Lib.hid hb1; clear hv hb1)
      go_ret
      have hbW : Below W.heap.size W wr := HB2.out.trans (hbl.out.below (Nat.le_of_lt hsz2) (Nat.le_refl _))
      exact ⟨⟨v, rfl, HV.out.base hbW.size⟩, hbW.trans (HB.out.mono hbW.size)⟩
end Go.Proofs.YtamglanahpcedaaGreatDoor
