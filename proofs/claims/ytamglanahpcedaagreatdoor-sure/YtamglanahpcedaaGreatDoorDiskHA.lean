/-
  OWN TEXT: mailbagref.Disk.Do at a move.
  OWN TEXT: acts done one behind the other on a disk (mailbagref.Disk.DoAll), where each is right.
-/
import Derived.Test.YtamglanahpcedaaGreatDoorDiskBC
import Derived.Test.YtamglanahpcedaaGreatDoorDiskDE
import Derived.Test.YtamglanahpcedaaGreatDoorDiskFG
namespace Go.Proofs.YtamglanahpcedaaGreatDoor
open Go.RowKit Go.Lib

set_option maxRecDepth 100000 in
set_option maxHeartbeats 4000000 in
theorem do_move {role : Nat → Nat} {B K : Nat} {V : DkV} {D : Mb.Dk} {W : World} (h : DkAt role B K V D W) (hB : B ≤ W.heap.size) (nm dt da : ByteArray) (hl : D.names.length ≤ 1048576) {k nd : Nat} {x : Mb.Nm} (hk : Mb.findI D.names nm.data.toList = (k : Int)) (hx : D.names[k]? = some x) (hxn : x.node = (nd : Int)) (hil : D.since.length ≤ 1048576) (hml : D.made.length ≤ 1048576) :
    Calls Tryz.prog 17 #[.pointer (some ⟨K, 0, none⟩), .agg #[.int .i64 4, .string nm, .string dt, .string da]] W fun e w' => e = .returned (.bool true) ∧ ∃ role' V', DkAt role' B K V' { D with names := Mb.withN (Mb.withoutN D.names nm.data.toList) dt.data.toList (nd : Int), since := D.since ++ [⟨4, nm.data.toList, dt.data.toList, da.data.toList⟩], made := D.made ++ [(nd : Int)] } w' ∧ DkStep K V V' W w' := by
  obtain ⟨i0, hi, hz0, hz1, hz2⟩ := info_parts Tryz.info_named
  obtain ⟨a, cap, hva, hcap, hat, hab⟩ := OwnN.form h.on.1
  have hK : K < W.heap.size := h.lt
  have c0 : W.cell? ⟨K, 0, none⟩ = some (.slice a D.names.length cap) := by rw [← hva]; simp [World.cell?, h.blk]
  have c0' : ∀ o, (W.alloc o).cell? ⟨K, 0, none⟩ = some (.slice a D.names.length cap) := fun o => (World.cell?_of_block (a := ⟨K, 0, none⟩) (Go.heap_alloc_old W o hK)).trans c0
  have c0z : ∀ (o : Obj) (z : Later (W.alloc o).heap.size (W.alloc o)), z.w.cell? ⟨K, 0, none⟩ = some (.slice a D.names.length cap) := fun o z => (z.h.cell (p := ⟨K, 0, none⟩) (by simp; omega)).trans (c0' o)
  have g : ∀ (o : Obj) (z : Later (W.alloc o).heap.size (W.alloc o)), Calls Tryz.prog 22 #[.slice a D.names.length cap, .string nm] z.w fun e w' => e = .returned (.int .i64 (Mb.findI D.names nm.data.toList)) ∧ Below z.w.heap.size z.w w' := fun o z => by
    refine find_any a cap D.names nm z.w ?_ (by unfold maxLen; omega)
    have hb : Below W.heap.size W z.w := ((Below.refl _ _).alloc (Nat.le_refl _) o).trans (z.h.mono (by simp))
    rcases hat with hat | ⟨b, off, h1, h2, h3⟩
    · exact Or.inl hat
    · exact Or.inr ⟨b, off, h1, Nat.lt_of_lt_of_le h2 hb.size, h3.below hb h2⟩
  have Hab := Lib.hid hab
  have Hat := Lib.hid hat
  have Hh := Lib.hid h
  clear h hat hab
  obtain ⟨nb, noff, ha, hnb, hnc⟩ : ∃ b off, a = some ⟨b, off, none⟩ ∧ b < W.heap.size ∧ NmsAt W b off D.names := by
    rcases Hat.out with hz | hz
    · rw [hz] at hx; simp at hx
    · exact hz
  subst ha
  have Hnc := Lib.hid hnc
  clear hnc
  have hkl : k < D.names.length := (List.getElem?_eq_some_iff.1 hx).1
  rw [hk] at g
  have hNE := fun o => Later.some (W.alloc o).heap.size (W.alloc o)
  go_enter Tryz.func17, Tryz.ntmps17
  go_wp2_with fail
  have a1 : ∀ z : Later (W.alloc (.cells #[.int .i64 4, .string nm, .string dt, .string da] 70)).heap.size (W.alloc (.cells #[.int .i64 4, .string nm, .string dt, .string da] 70)), z.w.cell? ⟨W.heap.size, 1, none⟩ = some (.string nm) := fun z => (z.h.cell (p := ⟨W.heap.size, 1, none⟩) (by simp)).trans (by simp)
  replace c0z := c0z (.cells #[.int .i64 4, .string nm, .string dt, .string da] 70)
  replace g := g (.cells #[.int .i64 4, .string nm, .string dt, .string da] 70)
  replace hNE := hNE (.cells #[.int .i64 4, .string nm, .string dt, .string da] 70)
  have hblkA : (W.alloc (.cells #[.int .i64 4, .string nm, .string dt, .string da] 70)).heap[W.heap.size]? = some (.cells #[.int .i64 4, .string nm, .string dt, .string da] 70 (0, 0)) := heap_alloc_new W _
  have HW1 : Hid (Below W.heap.size W (W.alloc (.cells #[.int .i64 4, .string nm, .string dt, .string da] 70))) := (Below.refl _ _).alloc (Nat.le_refl _) _
  have hsz : W.heap.size < (W.alloc (.cells #[.int .i64 4, .string nm, .string dt, .string da] 70)).heap.size := by simp
  generalize (W.alloc (.cells #[.int .i64 4, .string nm, .string dt, .string da] 70)) = W1 at *
  refine wp_region_later W1.heap.size (by kernel_rfl) (by kernel_rfl) ?_
  repeat (go_big_quiet_step ((go_at_call 22; exact Later.calls _ (Nat.le_refl _) (g _))))
  refine wpQuiet_nil ?_
  intro _ hw'
  obtain ⟨z, rfl⟩ := hw'
  have hb2 := HW1.out.trans (z.h.mono (by omega))
  have hblk2 := (z.h.block W.heap.size hsz).trans hblkA
  have hz2' := z.h.size
  generalize z.w = w2 at *
  clear g c0z a1 hNE c0 c0' hblkA
  have h2 := Hh.out.kept (Chg.of_below role 0 hb2)
  have hs2 : W.heap.size < w2.heap.size := by omega
  have k0 : w2.cell? ⟨K, 0, none⟩ = some (.slice (some ⟨nb, noff, none⟩) D.names.length cap) := by rw [← hva]; simp [World.cell?, h2.blk]
  have n1 : w2.cell? ⟨nb, noff + k * 2 + 1, none⟩ = some (.int .i64 (nd : Int)) := (hb2.cell (p := ⟨nb, noff + k * 2 + 1, none⟩) hnb).trans (by rw [← hxn]; exact (Hnc.out k x hx).2)
  have M2 : Mid B K W V (.cells #[.int .i64 4, .string nm, .string dt, .string da] 70 (0, 0)) role V D w2 := Mid.start Hh.out hB hb2 hblk2 hs2
  have HM2 := Lib.hid M2
  have a0 : w2.cell? ⟨W.heap.size, 0, none⟩ = some (.int .i64 4) := by simp [World.cell?, hblk2]
  clear M2 h2 hb2 hblk2 Hh
  obtain ⟨vd, cd, hvd, _⟩ := own_form2 HM2.out.at_.od.1
  have k2 := HM2.out.cellsK.2.2.1
  rw [hvd] at k2
  have hI : ∀ w, (Instr.indexAt 43 (.slice (some ⟨nb, noff, none⟩) D.names.length cap) (.int .i64 (k : Int))).run Tryz.prog w = .ok (.pointer (some ⟨nb, noff + k * 2, none⟩)) w := fun w => named_index hkl
  go_wp2_with fail
  clear k0 a0 k2 hI n1
  have k0 := HM2.out.cellsK.1
  have f0 := HM2.out.cellsK.2.2.2.2.2 0
  obtain ⟨a7, c7, hv7, _, hat7, _⟩ := OwnN.form HM2.out.at_.on.1
  rw [hv7] at k0
  have b1 : w2.cell? ⟨W.heap.size, 1, none⟩ = some (.string nm) := by simp [World.cell?, HM2.out.arg]
  have hKi : K < w2.heap.size := HM2.out.ltK
  have hPi : W.heap.size < w2.heap.size := HM2.out.size
  have gw := without_any a7 c7 D.names nm  w2.drew hat7 (by omega)
  refine region_until 10 (fun w' : World => w'.cell? ⟨K, 0, none⟩ = some (.slice a7 D.names.length c7) ∧ w'.cell? ⟨W.heap.size, 1, none⟩ = some (.string nm)) 11 rfl (by kernel_rfl) ⟨k0, b1⟩ (fun a' Q hA hQ hP hS => ?_)
  have z : a'.tmps.size = 180 := by rw [hA.out]; rfl
  have e0 : a'.eval (.tmp 0) = Value.pointer (some ⟨K, 0, none⟩) := by rw [hA.out]; rfl
  have e3 : a'.eval (.tmp 3) = Value.pointer (some ⟨W.heap.size, 0, none⟩) := by rw [hA.out]; rfl
  refine tk_move (i := 0) (d := (some 127)) rfl rfl rfl (by kernel_rfl) hP e0 hS ?_
  refine tk_move (i := 1) (d := (some 128)) rfl rfl rfl (by kernel_rfl) hP (evq (by decide) e0) hS ?_
  refine tk_nil (i := 2) (d := (some 129)) rfl rfl rfl (by kernel_rfl) hP (eve (Nat.lt_of_lt_of_eq (by decide : 128 < 180) (szq z).symm)) hS ?_
  refine tk_field (i := 3) (d := (some 130)) (p' := ⟨K, 0, none⟩) rfl rfl rfl (by kernel_rfl) hP (eve (Nat.lt_of_lt_of_eq (by decide : 129 < 180) (szq (szq z)).symm)) (fun w => by kernel_rfl) hS ?_
  refine tk_load (i := 4) (d := (some 131)) rfl rfl rfl (by kernel_rfl) hP (eve (Nat.lt_of_lt_of_eq (by decide : 130 < 180) (szq (szq (szq z))).symm)) (fun w hw => loadAt_one (fun w => by kernel_rfl) hw.1) hS ?_
  refine tk_field (i := 5) (d := (some 132)) (p' := ⟨W.heap.size, 1, none⟩) rfl rfl rfl (by kernel_rfl) hP (evq (by decide) (evq (by decide) (evq (by decide) (evq (by decide) (evq (by decide) e3))))) (fun w => by kernel_rfl) hS ?_
  refine tk_load (i := 6) (d := (some 133)) rfl rfl rfl (by kernel_rfl) hP (eve (Nat.lt_of_lt_of_eq (by decide : 132 < 180) (szq (szq (szq (szq (szq z))))).symm)) (fun w hw => loadAt_one (fun w => by kernel_rfl) hw.2) hS ?_
  refine go_call (i := 7) (d := (some 134)) (by kernel_rfl) rfl rfl rfl rfl Tryz.func24 (by kernel_rfl) rfl (args2 (evq (by decide) (evq (by decide) (eve (Nat.lt_of_lt_of_eq (by decide : 131 < 180) (szq (szq (szq (szq z)))).symm)))) (eve (Nat.lt_of_lt_of_eq (by decide : 133 < 180) (szq (szq (szq (szq (szq (szq z)))))).symm))) gw ?_
  rintro e' w3 ⟨⟨v, rfl, hown5⟩, hb5⟩
  obtain ⟨va, vc, hv, _⟩ := own_form2 hown5
  subst hv
  have r0 := (hb5.cell (p := ⟨K, 0, none⟩) (by show K < w2.heap.size; omega)).trans k0
  have rf := (hb5.frozen (p := ⟨K, 0, none⟩) (by show K < w2.heap.size; omega)).trans f0
  have r1 := (hb5.cell (p := ⟨W.heap.size, 1, none⟩) (by show W.heap.size < w2.heap.size; omega)).trans b1
  refine ⟨_, rfl, fun _ => ⟨r0, r1⟩, ?_⟩
  clear hS
  have hS := And.intro r0 r1
  refine go_nil (i := 8) (d := (some 135)) (by kernel_rfl) rfl rfl rfl rfl (evq (by decide) (evq (by decide) (evq (by decide) (evq (by decide) (evq (by decide) (evq (by decide) (evq (by decide) (eve (Nat.lt_of_lt_of_eq (by decide : 127 < 180) z.symm))))))))) (fun _ => hS) ?_
  refine go_field (i := 9) (d := (some 136)) (p' := ⟨K, 0, none⟩) (by kernel_rfl) rfl rfl rfl rfl (eve (Nat.lt_of_lt_of_eq (by decide : 135 < 180) (szq (szq (szq (szq (szq (szq (szq (szq z)))))))).symm)) (fun w => by kernel_rfl) (fun _ => hS) ?_
  refine go_put (i := 10) (by kernel_rfl) rfl rfl rfl rfl (eve (Nat.lt_of_lt_of_eq (by decide : 136 < 180) (szq (szq (szq (szq (szq (szq (szq (szq (szq z))))))))).symm)) (evq (by decide) (evq (by decide) (eve (Nat.lt_of_lt_of_eq (by decide : 134 < 180) (szq (szq (szq (szq (szq (szq (szq z))))))).symm)))) (fun w h1 h2 => by simp [Instr.storeAt, go_sem, h1, h2]) r0 rf (fun h => absurd rfl h) ?_
  refine wpAnyU_done (by kernel_rfl) (hQ.out _ _ ?_) _
  rw [hA.out]
  simp only [Act.put, List.setIfInBounds_toArray]
  dsimp only [List.set]
  clear hQ hP hA z hS Q a' e0 e3 r0 rf r1 k0 b1 f0 gw
  have Mo := (HM2.out.drew).setN hb5 hown5
  have HM4 := Lib.hid Mo
  clear Mo hown5 hb5 HM2 hKi hPi hat7 hv7
  generalize hwo : w3.setCell ⟨K, 0, none⟩ (.slice va (Mb.withoutN D.names nm.data.toList).length vc) = w4 at *
  clear hwo
  go_wp2_with fail
  have k0 := HM4.out.cellsK.1
  have f0 := HM4.out.cellsK.2.2.2.2.2 0
  obtain ⟨a8, c8, hv8, _, hat8, _⟩ := OwnN.form HM4.out.at_.on.1
  rw [hv8] at k0
  have b1 : w4.cell? ⟨W.heap.size, 2, none⟩ = some (.string dt) := by simp [World.cell?, HM4.out.arg]
  have hKi : K < w4.heap.size := HM4.out.ltK
  have hPi : W.heap.size < w4.heap.size := HM4.out.size
  have gw := with_any a8 c8 (Mb.withoutN D.names nm.data.toList) dt (nd : Int) w4.drew hat8 (by have := Mb.withoutN_len D.names nm.data.toList; omega)
  refine region_until 11 (fun w' : World => w'.cell? ⟨K, 0, none⟩ = some (.slice a8 (Mb.withoutN D.names nm.data.toList).length c8) ∧ w'.cell? ⟨W.heap.size, 2, none⟩ = some (.string dt)) 12 rfl (by kernel_rfl) ⟨k0, b1⟩ (fun a' Q hA hQ hP hS => ?_)
  have z : a'.tmps.size = 180 := by rw [hA.out]; rfl
  have e0 : a'.eval (.tmp 0) = Value.pointer (some ⟨K, 0, none⟩) := by rw [hA.out]; rfl
  have e3 : a'.eval (.tmp 3) = Value.pointer (some ⟨W.heap.size, 0, none⟩) := by rw [hA.out]; rfl
  have e6 : a'.eval (.tmp 6) = Value.int .i64 (nd : Int) := by rw [hA.out]; rfl
  refine tk_move (i := 0) (d := (some 137)) rfl rfl rfl (by kernel_rfl) hP e0 hS ?_
  refine tk_move (i := 1) (d := (some 138)) rfl rfl rfl (by kernel_rfl) hP (evq (by decide) e0) hS ?_
  refine tk_nil (i := 2) (d := (some 139)) rfl rfl rfl (by kernel_rfl) hP (eve (Nat.lt_of_lt_of_eq (by decide : 138 < 180) (szq z).symm)) hS ?_
  refine tk_field (i := 3) (d := (some 140)) (p' := ⟨K, 0, none⟩) rfl rfl rfl (by kernel_rfl) hP (eve (Nat.lt_of_lt_of_eq (by decide : 139 < 180) (szq (szq z)).symm)) (fun w => by kernel_rfl) hS ?_
  refine tk_load (i := 4) (d := (some 141)) rfl rfl rfl (by kernel_rfl) hP (eve (Nat.lt_of_lt_of_eq (by decide : 140 < 180) (szq (szq (szq z))).symm)) (fun w hw => loadAt_one (fun w => by kernel_rfl) hw.1) hS ?_
  refine tk_field (i := 5) (d := (some 142)) (p' := ⟨W.heap.size, 2, none⟩) rfl rfl rfl (by kernel_rfl) hP (evq (by decide) (evq (by decide) (evq (by decide) (evq (by decide) (evq (by decide) e3))))) (fun w => by kernel_rfl) hS ?_
  refine tk_load (i := 6) (d := (some 143)) rfl rfl rfl (by kernel_rfl) hP (eve (Nat.lt_of_lt_of_eq (by decide : 142 < 180) (szq (szq (szq (szq (szq z))))).symm)) (fun w hw => loadAt_one (fun w => by kernel_rfl) hw.2) hS ?_
  refine tk_move (i := 7) (d := (some 144)) rfl rfl rfl (by kernel_rfl) hP (evq (by decide) (evq (by decide) (evq (by decide) (evq (by decide) (evq (by decide) (evq (by decide) (evq (by decide) e6))))))) hS ?_
  refine go_call (i := 8) (d := (some 145)) (by kernel_rfl) rfl rfl rfl rfl Tryz.func23 (by kernel_rfl) rfl (args3 (evq (by decide) (evq (by decide) (evq (by decide) (eve (Nat.lt_of_lt_of_eq (by decide : 141 < 180) (szq (szq (szq (szq z)))).symm))))) (evq (by decide) (eve (Nat.lt_of_lt_of_eq (by decide : 143 < 180) (szq (szq (szq (szq (szq (szq z)))))).symm))) (eve (Nat.lt_of_lt_of_eq (by decide : 144 < 180) (szq (szq (szq (szq (szq (szq (szq z))))))).symm))) gw ?_
  rintro e' w5 ⟨⟨v, rfl, hown5⟩, hb5⟩
  obtain ⟨va, vc, hv, _⟩ := own_form2 hown5
  subst hv
  have r0 := (hb5.cell (p := ⟨K, 0, none⟩) (by show K < w4.heap.size; omega)).trans k0
  have rf := (hb5.frozen (p := ⟨K, 0, none⟩) (by show K < w4.heap.size; omega)).trans f0
  have r1 := (hb5.cell (p := ⟨W.heap.size, 2, none⟩) (by show W.heap.size < w4.heap.size; omega)).trans b1
  refine ⟨_, rfl, fun _ => ⟨r0, r1⟩, ?_⟩
  clear hS
  have hS := And.intro r0 r1
  refine go_nil (i := 9) (d := (some 146)) (by kernel_rfl) rfl rfl rfl rfl (evq (by decide) (evq (by decide) (evq (by decide) (evq (by decide) (evq (by decide) (evq (by decide) (evq (by decide) (evq (by decide) (eve (Nat.lt_of_lt_of_eq (by decide : 137 < 180) z.symm)))))))))) (fun _ => hS) ?_
  refine go_field (i := 10) (d := (some 147)) (p' := ⟨K, 0, none⟩) (by kernel_rfl) rfl rfl rfl rfl (eve (Nat.lt_of_lt_of_eq (by decide : 146 < 180) (szq (szq (szq (szq (szq (szq (szq (szq (szq z))))))))).symm)) (fun w => by kernel_rfl) (fun _ => hS) ?_
  refine go_put (i := 11) (by kernel_rfl) rfl rfl rfl rfl (eve (Nat.lt_of_lt_of_eq (by decide : 147 < 180) (szq (szq (szq (szq (szq (szq (szq (szq (szq (szq z)))))))))).symm)) (evq (by decide) (evq (by decide) (eve (Nat.lt_of_lt_of_eq (by decide : 145 < 180) (szq (szq (szq (szq (szq (szq (szq (szq z)))))))).symm)))) (fun w h1 h2 => by simp [Instr.storeAt, go_sem, h1, h2]) r0 rf (fun h => absurd rfl h) ?_
  refine wpAnyU_done (by kernel_rfl) (hQ.out _ _ ?_) _
  rw [hA.out]
  simp only [Act.put, List.setIfInBounds_toArray]
  dsimp only [List.set]
  clear hQ hP hA z hS Q a' e0 e3 e6 r0 rf r1 k0 b1 f0 gw
  have Mo := (HM4.out.drew).setN hb5 hown5
  have HM6 := Lib.hid Mo
  clear Mo hown5 hb5 HM4 hKi hPi hat8 hv8
  generalize hwo : w5.setCell ⟨K, 0, none⟩ (.slice va (Mb.withN (Mb.withoutN D.names nm.data.toList) dt.data.toList (nd : Int)).length vc) = w6 at *
  clear hwo
  go_wp2_with fail
  generalize hPP : W.heap.size = P at *
  have hx6 := HM6.out.arg
  obtain ⟨vi, ci, hvi, _⟩ := own_form2 HM6.out.at_.oi.1
  have k3 := HM6.out.cellsK.2.2.2.1
  have f3 := HM6.out.cellsK.2.2.2.2.2 3
  simp only [hPP] at hx6
  rw [hvi] at k3
  have hs6 : P < w6.heap.size := hPP ▸ HM6.out.size
  have hK6 : K < w6.heap.size := HM6.out.ltK
  have hB6 : B ≤ w6.heap.size := by have := HM6.out.base; omega
  have hown6 := (HM6.out.drew.alloc (.cells #[.int .i64 4, .string nm, .string dt, .string da] 70)).at_.oi.1
  rw [hvi] at hown6
  have hno6 : some K ≠ (Value.slice vi D.since.length ci).ownBlock := fun e => by rw [← hvi] at e; have h4 := HM6.out.at_.oi.2 K e.symm; rw [HM6.out.at_.rk] at h4; exact absurd h4 (by decide)
  have hnP6 : some P ≠ (Value.slice vi D.since.length ci).ownBlock := fun e => by rw [← hvi] at e; exact HM6.out.narg (Or.inr (Or.inr (Or.inr (Or.inr (Or.inl (by rw [hPP]; exact e.symm))))))
  refine region_until 10 (fun w' : World => w'.heap[P]? = some (.cells #[.int .i64 4, .string nm, .string dt, .string da] 70 (0, 0)) ∧ w'.cell? ⟨K, 3, none⟩ = some (.slice vi D.since.length ci)) 11 rfl (by kernel_rfl) ⟨hx6, k3⟩ (fun a' Q hA hQ hP hS => ?_)
  have z : a'.tmps.size = 180 := by rw [hA.out]; rfl
  have e0 : a'.eval (.tmp 0) = Value.pointer (some ⟨K, 0, none⟩) := by rw [hA.out]; rfl
  have e3 : a'.eval (.tmp 3) = Value.pointer (some ⟨P, 0, none⟩) := by rw [hA.out]; rfl
  refine tk_move (i := 0) (d := (some 160)) rfl rfl rfl (by kernel_rfl) hP e0 hS ?_
  refine tk_move (i := 1) (d := (some 161)) rfl rfl rfl (by kernel_rfl) hP (evq (by decide) e0) hS ?_
  refine tk_nil (i := 2) (d := (some 162)) rfl rfl rfl (by kernel_rfl) hP (eve (Nat.lt_of_lt_of_eq (by decide : 161 < 180) (szq z).symm)) hS ?_
  refine tk_field (i := 3) (d := (some 163)) (p' := ⟨K, 3, none⟩) rfl rfl rfl (by kernel_rfl) hP (eve (Nat.lt_of_lt_of_eq (by decide : 162 < 180) (szq (szq z)).symm)) (fun w => by kernel_rfl) hS ?_
  refine tk_load (i := 4) (d := (some 164)) rfl rfl rfl (by kernel_rfl) hP (eve (Nat.lt_of_lt_of_eq (by decide : 163 < 180) (szq (szq (szq z))).symm)) (fun w hw => loadAt_one (fun w => by kernel_rfl) hw.2) hS ?_
  refine tk_load (i := 5) (d := (some 165)) rfl rfl rfl (by kernel_rfl) hP (evq (by decide) (evq (by decide) (evq (by decide) (evq (by decide) (evq (by decide) e3))))) (fun w hw => act_load hw.1) hS ?_
  have hS7 : ((w6.drew).alloc (.cells #[.int .i64 4, .string nm, .string dt, .string da] 70)).heap[P]? = some (.cells #[.int .i64 4, .string nm, .string dt, .string da] 70 (0, 0)) ∧ ((w6.drew).alloc (.cells #[.int .i64 4, .string nm, .string dt, .string da] 70)).cell? ⟨K, 3, none⟩ = some (.slice vi D.since.length ci) := ⟨(Go.heap_alloc_old _ _ hs6).trans hx6, (World.cell?_of_block (a := ⟨K, 3, none⟩) (Go.heap_alloc_old w6.drew _ hK6)).trans k3⟩
  refine go_build1 (i := 6) (d := (some 166)) (v := .slice (some ⟨w6.drew.heap.size, 0, none⟩) 1 1) (w' := (w6.drew).alloc (.cells #[.int .i64 4, .string nm, .string dt, .string da] 70)) (by kernel_rfl) rfl rfl rfl rfl (eve (Nat.lt_of_lt_of_eq (by decide : 165 < 180) (szq (szq (szq (szq (szq z))))).symm)) act_build (fun _ => hS7) ?_
  refine go_append (i := 7) (d := (some 167)) [.int .i64 4, .string nm, .string dt, .string da] (by kernel_rfl) rfl rfl rfl rfl elem_act (by decide) (evq (by decide) (evq (by decide) (eve (Nat.lt_of_lt_of_eq (by decide : 164 < 180) (szq (szq (szq (szq z)))).symm)))) hown6 (eve (Nat.lt_of_lt_of_eq (by decide : 166 < 180) (szq (szq (szq (szq (szq (szq z)))))).symm)) rfl (World.news_of_block (cs := #[.int .i64 4, .string nm, .string dt, .string da]) (t := 70) (fr := (0, 0)) (heap_alloc_new w6.drew _)) (by simp [Value.oneCell']) (by decide) (by show D.since.length + 1 ≤ maxLen; unfold maxLen; omega) (by show (D.since.length + 1) * 56 ≤ _; omega) (by simp; omega) ?_
  intro gi ci' w7 hown7 hgrow7 hat7 hlt7
  have m3 := (hgrow7.cell_far ⟨K, 3, none⟩ (by simp; omega) hno6).trans hS7.2
  have q3 := (hgrow7.frozen_far ⟨K, 3, none⟩ (by simp; omega) hno6).trans ((World.frozen?_of_block (a := ⟨K, 3, none⟩) (Go.heap_alloc_old w6.drew _ hK6)).trans f3)
  have m4 := (hgrow7.block P (by simp; omega) hnP6).trans hS7.1
  refine ⟨fun _ => ⟨m4, m3⟩, ?_⟩
  clear hS
  have hS := And.intro m4 m3
  refine go_nil (i := 8) (d := (some 168)) (by kernel_rfl) rfl rfl rfl rfl (evq (by decide) (evq (by decide) (evq (by decide) (evq (by decide) (evq (by decide) (evq (by decide) (evq (by decide) (eve (Nat.lt_of_lt_of_eq (by decide : 160 < 180) z.symm))))))))) (fun _ => hS) ?_
  refine go_field (i := 9) (d := (some 169)) (p' := ⟨K, 3, none⟩) (by kernel_rfl) rfl rfl rfl rfl (eve (Nat.lt_of_lt_of_eq (by decide : 168 < 180) (szq (szq (szq (szq (szq (szq (szq (szq z)))))))).symm)) (fun w => by kernel_rfl) (fun _ => hS) ?_
  refine go_put (i := 10) (by kernel_rfl) rfl rfl rfl rfl (eve (Nat.lt_of_lt_of_eq (by decide : 169 < 180) (szq (szq (szq (szq (szq (szq (szq (szq (szq z))))))))).symm)) (evq (by decide) (evq (by decide) (eve (Nat.lt_of_lt_of_eq (by decide : 167 < 180) (szq (szq (szq (szq (szq (szq (szq z))))))).symm)))) (fun w h1 h2 => by simp [Instr.storeAt, go_sem, h1, h2]) m3 q3 (fun h => absurd rfl h) ?_
  refine wpAnyU_done (by kernel_rfl) (hQ.out _ _ ?_) _
  rw [hA.out]
  simp only [Act.put, List.setIfInBounds_toArray]
  dsimp only [List.set]
  clear hQ hP hA z hS Q a' e0 e3 
  rw [← hvi] at hgrow7 hat7
  have M8 := ((HM6.out.drew.alloc (.cells #[.int .i64 4, .string nm, .string dt, .string da] 70)).setI hgrow7 (n := D.since.length + 1) (ns := D.since ++ [⟨4, nm.data.toList, dt.data.toList, da.data.toList⟩]) (by simp) (by rw [acCells_snoc]; exact hown7) (by simpa using hat7))
  have HM8 := Lib.hid M8
  clear M8 hown7 hgrow7 hat7 hlt7 hown6 HM6 m3 q3 m4 hS7 k3 f3 hx6 hno6 hnP6
  generalize hw8 : w7.setCell ⟨K, 3, none⟩ (.slice (some ⟨gi, 0, none⟩) (D.since.length + 1) ci') = w8 at *
  clear hw8
  have hown8 := (HM8.out.alloc (.cells #[.int .i64 (nd : Int)] 3)).at_.om.1
  obtain ⟨vm, cm, hvm, _⟩ := own_form2 HM8.out.at_.om.1
  have k4 := HM8.out.cellsK.2.2.2.2.1
  have f4 := HM8.out.cellsK.2.2.2.2.2 4
  rw [hvm] at k4 hown8
  have hs8 : P < w8.heap.size := hPP ▸ HM8.out.size
  have hK8 : K < w8.heap.size := HM8.out.ltK
  have hB8 : B ≤ w8.heap.size := by have := HM8.out.base; omega
  obtain ⟨l0, hl0, hl1, hl2, hl3⟩ := info_parts Tryz.info_int
  go_wp2_with (at_builtin; refine wpList_append_lies _ rfl (.tmp 174) (.tmp 176) 35 rfl B 3 l0 (.int .i64 0) 1 8 Tryz.underlying35 hl0 hl1 hl2 hl3 rfl (by decide) (.slice vm D.made.length cm) D.made.length (inCells D.made) rfl hown8 ⟨w8.heap.size, 0, none⟩ 1 1 [.int .i64 (nd : Int)] rfl rfl (World.news_of_block (cs := #[.int .i64 (nd : Int)]) (t := 3) (fr := (0, 0)) (heap_alloc_new w8 _)) (by simp [Value.oneCell']) (by decide) (by unfold maxLen; omega) (by omega) (by simp; omega) (w8.heap.size + 1) (by simp) ?_)
  intro gm cm' w9 hown9 hgrow9 hat9 hlt9
  have hno8 : some K ≠ (Value.slice vm D.made.length cm).ownBlock := fun e => by rw [← hvm] at e; have h4 := HM8.out.at_.om.2 K e.symm; rw [HM8.out.at_.rk] at h4; exact absurd h4 (by decide)
  have m4 := (hgrow9.cell_far ⟨K, 4, none⟩ (by simp; omega) hno8).trans ((World.cell?_of_block (a := ⟨K, 4, none⟩) (Go.heap_alloc_old w8 _ hK8)).trans k4)
  have q4 := (hgrow9.frozen_far ⟨K, 4, none⟩ (by simp; omega) hno8).trans ((World.frozen?_of_block (a := ⟨K, 4, none⟩) (Go.heap_alloc_old w8 _ hK8)).trans f4)
  rw [← hvm] at hgrow9 hat9
  have M10 := (HM8.out.alloc (.cells #[.int .i64 (nd : Int)] 3)).setM hgrow9 (n := D.made.length + 1) (ns := D.made ++ [(nd : Int)]) (by simp) (by rw [inCells_snoc]; exact hown9) (by simpa using hat9)
  have HM10 := Lib.hid M10
  clear M10 hown9 hgrow9 hat9 hlt9 hown8 HM8
  go_wp2_with fail
  go_ret
  exact ⟨rfl, _, _, HM10.out.at_, HM10.out.done⟩


end Go.Proofs.YtamglanahpcedaaGreatDoor
namespace Go.Proofs.YtamglanahpcedaaGreatDoor
open Go.RowKit Go.Lib

/-- an act that is right, and the disk behind it -/
inductive Mb.Step : Mb.Dk → Mb.Ac → Mb.Dk → Prop
  | settle (D : Mb.Dk) (nm dt da : List UInt8) : Mb.Step D ⟨6, nm, dt, da⟩ { D with sure := D.names, since := [], made := [] }
  | make {D : Mb.Dk} {nm : List UInt8} (dt da : List UInt8) (h : Mb.findI D.names nm = -1) :
      Mb.Step D ⟨1, nm, dt, da⟩ { names := Mb.withN D.names nm D.nodes.length, sure := D.sure, nodes := D.nodes ++ [⟨[], 0⟩], since := D.since ++ [⟨1, nm, dt, da⟩], made := D.made ++ [(D.nodes.length : Int)] }
  | add {D : Mb.Dk} {nm da : List UInt8} {k nd : Nat} {x : Mb.Nm} {y : Mb.Nd} (dt : List UInt8) (hk : Mb.findI D.names nm = (k : Int)) (hx : D.names[k]? = some x) (hxn : x.node = (nd : Int)) (hy : D.nodes[nd]? = some y) (hl : (y.data ++ da).length ≤ 400) :
      Mb.Step D ⟨2, nm, dt, da⟩ { D with nodes := D.nodes.set nd ⟨y.data ++ da, y.safe⟩ }
  | sync {D : Mb.Dk} {nm : List UInt8} {k nd : Nat} {x : Mb.Nm} {y : Mb.Nd} (dt da : List UInt8) (hk : Mb.findI D.names nm = (k : Int)) (hx : D.names[k]? = some x) (hxn : x.node = (nd : Int)) (hy : D.nodes[nd]? = some y) :
      Mb.Step D ⟨3, nm, dt, da⟩ { D with nodes := D.nodes.set nd ⟨y.data, (y.data.length : Int)⟩ }
  | move {D : Mb.Dk} {nm : List UInt8} {k nd : Nat} {x : Mb.Nm} (dt da : List UInt8) (hk : Mb.findI D.names nm = (k : Int)) (hx : D.names[k]? = some x) (hxn : x.node = (nd : Int)) :
      Mb.Step D ⟨4, nm, dt, da⟩ { D with names := Mb.withN (Mb.withoutN D.names nm) dt (nd : Int), since := D.since ++ [⟨4, nm, dt, da⟩], made := D.made ++ [(nd : Int)] }
  | drop {D : Mb.Dk} {nm : List UInt8} {k nd : Nat} {x : Mb.Nm} (dt da : List UInt8) (hk : Mb.findI D.names nm = (k : Int)) (hx : D.names[k]? = some x) (hxn : x.node = (nd : Int)) :
      Mb.Step D ⟨5, nm, dt, da⟩ { D with names := Mb.withoutN D.names nm, since := D.since ++ [⟨5, nm, dt, da⟩], made := D.made ++ [(nd : Int)] }

/-- acts that are right, one behind the other -/
inductive Mb.Steps : Mb.Dk → List Mb.Ac → Mb.Dk → Prop
  | nil (D : Mb.Dk) : Mb.Steps D [] D
  | cons {D E F : Mb.Dk} {a : Mb.Ac} {l : List Mb.Ac} (h : Mb.Step D a E) (k : Mb.Steps E l F) : Mb.Steps D (a :: l) F

/-- how great a disk is -/
structure Mb.Small (top : Nat) (D : Mb.Dk) : Prop where
  n : D.names.length ≤ top
  d : D.nodes.length ≤ top
  i : D.since.length ≤ top
  m : D.made.length ≤ top
theorem Mb.Small.mono {m n : Nat} {D : Mb.Dk} (h : Mb.Small m D) (hle : m ≤ n) : Mb.Small n D := ⟨Nat.le_trans h.n hle, Nat.le_trans h.d hle, Nat.le_trans h.i hle, Nat.le_trans h.m hle⟩
theorem Mb.withN_len (l : List Mb.Nm) (s : List UInt8) (d : Int) : (Mb.withN l s d).length ≤ l.length + 1 := by
  have := Mb.withoutN_len l s
  simp only [Mb.withN, List.length_append, List.length_cons, List.length_nil]; omega
theorem Mb.Step.small {n : Nat} {D E : Mb.Dk} {a : Mb.Ac} (h : Mb.Step D a E) (hs : Mb.Small n D) : Mb.Small (n + 1) E := by
  obtain ⟨h1, h2, h3, h4⟩ := hs
  cases h with
  | settle => exact ⟨by simp; omega, by simp; omega, by simp, by simp⟩
  | make => exact ⟨Nat.le_trans (Mb.withN_len _ _ _) (by omega), by simp; omega, by simp; omega, by simp; omega⟩
  | add => exact ⟨by simp; omega, by simp; omega, by simp; omega, by simp; omega⟩
  | sync => exact ⟨by simp; omega, by simp; omega, by simp; omega, by simp; omega⟩
  | @move nm k nd x dt da hk hx hxn => exact ⟨Nat.le_trans (Mb.withN_len _ _ _) (by have := Mb.withoutN_len D.names nm; omega), by simp; omega, by simp; omega, by simp; omega⟩
  | drop => exact ⟨Nat.le_trans (Mb.withoutN_len _ _) (by omega), by simp; omega, by simp; omega, by simp; omega⟩

theorem do_step {role : Nat → Nat} {B K : Nat} {V : DkV} {D E : Mb.Dk} {W : World} (h : DkAt role B K V D W) (hB : B ≤ W.heap.size) {a : Mb.Ac} (hs : Mb.Step D a E) (hd : Mb.Small 1048576 D) :
    Calls Tryz.prog 17 #[.pointer (some ⟨K, 0, none⟩), .agg #[.int .i64 a.kind, .string ⟨a.name.toArray⟩, .string ⟨a.dst.toArray⟩, .string ⟨a.data.toArray⟩]] W fun e w' => e = .returned (.bool true) ∧ ∃ role' V', DkAt role' B K V' E w' ∧ DkStep K V V' W w' := by
  cases hs with
  | settle nm dt da => exact do_settle h hB _ _ _ hd.n
  | make dt da hf => exact do_make h hB _ _ _ hd.n hf hd.d hd.i hd.m
  | add dt hk hx hxn hy hl =>
    refine (do_add h hB _ _ _ hd.n hk hx hxn hy (by simp at hl ⊢; omega)).mono ?_
    rintro e w' ⟨rfl, hh⟩
    exact ⟨by simp only [decide_eq_true hl], hh⟩
  | sync dt da hk hx hxn hy => exact do_sync h hB _ _ _ hd.n hk hx hxn hy
  | move dt da hk hx hxn => exact do_move h hB _ _ _ hd.n hk hx hxn hd.i hd.m
  | drop dt da hk hx hxn => exact do_drop h hB _ _ _ hd.n hk hx hxn hd.i hd.m

/-- acts in memory -/
def AcsAt (w : World) (b off : Nat) (xs : List Mb.Ac) : Prop :=
  ∀ (i : Nat) (x : Mb.Ac), xs[i]? = some x → w.cell? ⟨b, off + i * 4, none⟩ = some (.int .i64 x.kind) ∧ w.cell? ⟨b, off + i * 4 + 1, none⟩ = some (.string ⟨x.name.toArray⟩) ∧ w.cell? ⟨b, off + i * 4 + 2, none⟩ = some (.string ⟨x.dst.toArray⟩) ∧ w.cell? ⟨b, off + i * 4 + 3, none⟩ = some (.string ⟨x.data.toArray⟩)
theorem Mb.Steps.split {D F : Mb.Dk} : ∀ {l : List Mb.Ac}, Mb.Steps D l F → ∀ {a : Mb.Ac} {r : List Mb.Ac}, l = a :: r → ∃ E, Mb.Step D a E ∧ Mb.Steps E r F := by
  intro l h a r e
  cases h with
  | nil => cases e
  | cons h k => injection e with e1 e2; subst e1 e2; exact ⟨_, h, k⟩

set_option maxRecDepth 100000 in
set_option maxHeartbeats 4000000 in
theorem doAll_some {role : Nat → Nat} {B K : Nat} {V : DkV} {D F : Mb.Dk} {W : World} (h : DkAt role B K V D W) (hB : B ≤ W.heap.size) (ab off cap : Nat) (xs : List Mb.Ac) (hab : ab < W.heap.size) (hf : ¬ V.foot K ab) (hc : AcsAt W ab off xs) (hs : Mb.Steps D xs F) (n : Nat) (hd : Mb.Small n D) (hn : n + xs.length ≤ 1048576) :
    Calls Tryz.prog 8 #[.pointer (some ⟨K, 0, none⟩), .slice (some ⟨ab, off, none⟩) xs.length cap] W fun e w' => e = .returned (.bool true) ∧ ∃ role' V', DkAt role' B K V' F w' ∧ DkStep K V V' W w' := by
  have Hh := Lib.hid h
  have Hf := Lib.hid hf
  have Hc := Lib.hid hc
  have Hs := Lib.hid hs
  have Hd := Lib.hid hd
  clear h hf hc hs hd
  go_enter Tryz.func8, Tryz.ntmps8
  go_wp2_with fail
  go_loopw [5] (fun i wr => ∃ (k : Nat), k ≤ xs.length ∧ i = .int .i64 k ∧ Hid (∃ role' V' E, DkAt role' B K V' E wr ∧ DkStep K V V' W wr ∧ Mb.Steps E (xs.drop k) F ∧ Mb.Small (n + k) E)) (fun i _ => xs.length - (RowKit.intOf i).toNat)
  case atStart => exact ⟨0, Nat.zero_le _, rfl, role, V, D, Hh.out, DkStep.refl _ _ _, Hs.out, Hd.out⟩
  case round =>
    obtain ⟨k, hk, rfl, hH⟩ := hrel
    by_cases hlt : k < xs.length
    · obtain ⟨role1, V1, E, hE, hst, hss, hsm⟩ := hH.out
      obtain ⟨E', h1, h2⟩ := hss.split (a := xs[k]) (r := xs.drop (k + 1)) (List.drop_eq_getElem_cons hlt)
      have hblk := (hst.block ab hab Hf.out).1
      obtain ⟨c0, c1, c2, c3⟩ := Hc.out k xs[k] (by simp [hlt])
      have d0 := (World.cell?_of_block (a := ⟨ab, off + k * 4, none⟩) hblk).trans c0
      have d1 := (World.cell?_of_block (a := ⟨ab, off + k * 4 + 1, none⟩) hblk).trans c1
      have d2 := (World.cell?_of_block (a := ⟨ab, off + k * 4 + 2, none⟩) hblk).trans c2
      have d3 := (World.cell?_of_block (a := ⟨ab, off + k * 4 + 3, none⟩) hblk).trans c3
      have hBr : B ≤ wr.heap.size := Nat.le_trans hB hst.chg.size
      have gd := do_step hE hBr h1 (hsm.mono (by omega))
      have H2 := Lib.hid h2
      have H1 := Lib.hid h1
      have Hst := Lib.hid hst
      have Hsm := Lib.hid hsm
      generalize xs[k].kind = ak at *
      generalize (⟨xs[k].name.toArray⟩ : ByteArray) = an at *
      generalize (⟨xs[k].dst.toArray⟩ : ByteArray) = at' at *
      generalize (⟨xs[k].data.toArray⟩ : ByteArray) = ad at *
      clear h1 h2 hss hsm hst hE hblk c0 c1 c2 c3 hH
      go_wp2_with (go_at_call 17; refine gd.mono ?_; rintro e w1 ⟨rfl, hh⟩; have HH := Lib.hid hh; clear hh)
      obtain ⟨role2, V2, h3, h4⟩ := HH.out
      exact ⟨⟨k + 1, by omega, by simp, role2, V2, E', h3, Hst.out.trans h4, H2.out, (H1.out.small Hsm.out).mono (by omega)⟩, by simp [RowKit.intOf]; omega⟩
    · go_wp2
      go_ret
      obtain ⟨role1, V1, E, hE, hst, hss, _⟩ := hH.out
      rw [List.drop_eq_nil_of_le (by omega)] at hss
      cases hss
      exact ⟨rfl, role1, V1, hE, hst⟩
theorem doAll_nil {role : Nat → Nat} {B K : Nat} {V : DkV} {D : Mb.Dk} {W : World} (h : DkAt role B K V D W) (a : Option Addr) (cap : Nat) :
    Calls Tryz.prog 8 #[.pointer (some ⟨K, 0, none⟩), .slice a 0 cap] W fun e w' => e = .returned (.bool true) ∧ ∃ role' V', DkAt role' B K V' D w' ∧ DkStep K V V' W w' := by
  have Hh := Lib.hid h
  clear h
  go_enter Tryz.func8, Tryz.ntmps8
  go_wp2_with fail
  go_loop [5] (fun i => i = .int .i64 0) (fun _ => 0)
  case atStart => rfl
  case round =>
    subst hrel
    go_wp2
    go_ret
    exact ⟨rfl, role, V, Hh.out, DkStep.refl _ _ _⟩

end Go.Proofs.YtamglanahpcedaaGreatDoor
