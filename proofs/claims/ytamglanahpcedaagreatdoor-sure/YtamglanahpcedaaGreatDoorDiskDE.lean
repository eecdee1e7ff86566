/-
  OWN TEXT: mailbagref.Disk.Do at a make.
  OWN TEXT: mailbagref.Disk.Do at an add.
-/
import Derived.Test.YtamglanahpcedaaGreatDoorDiskBC
namespace Go.Proofs.YtamglanahpcedaaGreatDoor
open Go.RowKit Go.Lib

set_option maxRecDepth 100000 in
set_option maxHeartbeats 4000000 in
theorem do_make {role : Nat → Nat} {B K : Nat} {V : DkV} {D : Mb.Dk} {W : World} (h : DkAt role B K V D W) (hB : B ≤ W.heap.size) (nm dt da : ByteArray) (hl : D.names.length ≤ 1048576) (hno : Mb.findI D.names nm.data.toList = -1) (hdl : D.nodes.length ≤ 1048576) (hil : D.since.length ≤ 1048576) (hml : D.made.length ≤ 1048576) :
    Calls Tryz.prog 17 #[.pointer (some ⟨K, 0, none⟩), .agg #[.int .i64 1, .string nm, .string dt, .string da]] W fun e w' => e = .returned (.bool true) ∧ ∃ role' V', DkAt role' B K V' { names := Mb.withN D.names nm.data.toList D.nodes.length, sure := D.sure, nodes := D.nodes ++ [⟨[], 0⟩], since := D.since ++ [⟨1, nm.data.toList, dt.data.toList, da.data.toList⟩], made := D.made ++ [(D.nodes.length : Int)] } w' ∧ DkStep K V V' W w' := by
  obtain ⟨i0, hi, hz0, hz1, hz2⟩ := info_parts Tryz.info_named
  obtain ⟨a, cap, hva, hcap, hat, hab⟩ := OwnN.form h.on.1
  have hK : K < W.heap.size := h.lt
  have c0 : W.cell? ⟨K, 0, none⟩ = some (.slice a D.names.length cap) := by rw [← hva]; simp [World.cell?, h.blk]
  have c0' : ∀ o, (W.alloc o).cell? ⟨K, 0, none⟩ = some (.slice a D.names.length cap) := fun o => (World.cell?_of_block (a := ⟨K, 0, none⟩) (Go.heap_alloc_old W o hK)).trans c0
  have c0z : ∀ (o : Obj) (z : Later (W.alloc o).heap.size (W.alloc o)), z.w.cell? ⟨K, 0, none⟩ = some (.slice a D.names.length cap) := fun o z => (z.h.cell (p := ⟨K, 0, none⟩) (by simp; omega)).trans (c0' o)
  have g : ∀ (o : Obj) (z : Later (W.alloc o).heap.size (W.alloc o)), Calls Tryz.prog 22 #[.slice a D.names.length cap, .string nm] z.w fun e w' => e = .returned (.int .i64 (Mb.findI D.names nm.data.toList)) ∧ Below z.w.heap.size z.w w' := fun o z => by
    refine find_any a cap D.names nm z.w ?_ (by unfold maxLen; omega)
    have hb : Below W.heap.size W z.w := ((Below.refl _ _).alloc (Nat.le_refl _) o).trans (z.h.mono (by simp))
    rcases hat with hat | ⟨b, off, h1, h2, h3⟩
    · exact Or.inl hat
    · exact Or.inr ⟨b, off, h1, Nat.lt_of_lt_of_le h2 hb.size, h3.below hb h2⟩
  have Hab := Lib.hid hab
  have Hat := Lib.hid hat
  have Hh := Lib.hid h
  clear h hat hab
  rw [hno] at g
  have hNE := fun o => Later.some (W.alloc o).heap.size (W.alloc o)
  go_enter Tryz.func17, Tryz.ntmps17
  go_wp2_with fail
  have a1 : ∀ z : Later (W.alloc (.cells #[.int .i64 1, .string nm, .string dt, .string da] 70)).heap.size (W.alloc (.cells #[.int .i64 1, .string nm, .string dt, .string da] 70)), z.w.cell? ⟨W.heap.size, 1, none⟩ = some (.string nm) := fun z => (z.h.cell (p := ⟨W.heap.size, 1, none⟩) (by simp)).trans (by simp)
  replace c0z := c0z (.cells #[.int .i64 1, .string nm, .string dt, .string da] 70)
  replace g := g (.cells #[.int .i64 1, .string nm, .string dt, .string da] 70)
  replace hNE := hNE (.cells #[.int .i64 1, .string nm, .string dt, .string da] 70)
  have hblkA : (W.alloc (.cells #[.int .i64 1, .string nm, .string dt, .string da] 70)).heap[W.heap.size]? = some (.cells #[.int .i64 1, .string nm, .string dt, .string da] 70 (0, 0)) := heap_alloc_new W _
  have HW1 : Hid (Below W.heap.size W (W.alloc (.cells #[.int .i64 1, .string nm, .string dt, .string da] 70))) := (Below.refl _ _).alloc (Nat.le_refl _) _
  have hsz : W.heap.size < (W.alloc (.cells #[.int .i64 1, .string nm, .string dt, .string da] 70)).heap.size := by simp
  generalize (W.alloc (.cells #[.int .i64 1, .string nm, .string dt, .string da] 70)) = W1 at *
  refine wp_region_later W1.heap.size (by kernel_rfl) (by kernel_rfl) ?_
  repeat (go_big_quiet_step ((go_at_call 22; exact Later.calls _ (Nat.le_refl _) (g _))))
  refine wpQuiet_nil ?_
  intro _ hw'
  obtain ⟨z, rfl⟩ := hw'
  have hb2 := HW1.out.trans (z.h.mono (by omega))
  have hblk2 := (z.h.block W.heap.size hsz).trans hblkA
  have hz2' := z.h.size
  generalize z.w = w2 at *
  clear g c0z a1 hNE c0 c0' hblkA
  have h2 := Hh.out.kept (Chg.of_below role 0 hb2)
  have hs2 : W.heap.size < w2.heap.size := by omega
  have k0 : w2.cell? ⟨K, 0, none⟩ = some (.slice a D.names.length cap) := by rw [← hva]; simp [World.cell?, h2.blk]
  have M2 : Mid B K W V (.cells #[.int .i64 1, .string nm, .string dt, .string da] 70 (0, 0)) role V D w2 := Mid.start Hh.out hB hb2 hblk2 hs2
  have HM2 := Lib.hid M2
  have a0 : w2.cell? ⟨W.heap.size, 0, none⟩ = some (.int .i64 1) := by simp [World.cell?, hblk2]
  clear M2 h2 hb2 hblk2 Hh
  obtain ⟨vd, cd, hvd, _⟩ := own_form2 HM2.out.at_.od.1
  have k2 := HM2.out.cellsK.2.2.1
  have f2 := HM2.out.cellsK.2.2.2.2.2 2
  rw [hvd] at k2
  obtain ⟨j0, hj, hy0, hy1, hy2⟩ := info_parts Tryz.info_node
  have hown2 := (HM2.out.alloc (.cells #[.string ⟨#[]⟩, .int .i64 0] 50)).at_.od.1
  rw [hvd] at hown2
  have hB2 : B ≤ w2.heap.size := by omega
  have hK2 : K < w2.heap.size := by omega
  go_wp2_with (at_builtin; refine wpList_append_lies _ rfl (.tmp 60) (.tmp 62) 44 rfl B 50 j0 (.agg #[.string ByteArray.empty, .int .i64 0]) 2 24 Tryz.underlying44 hj hy0 hy1 hy2 rfl (by decide) (.slice vd D.nodes.length cd) D.nodes.length (ndCells D.nodes) rfl hown2 ⟨w2.heap.size, 0, none⟩ 1 1 [.string ⟨#[]⟩, .int .i64 0] rfl rfl (World.news_of_block (cs := #[.string ⟨#[]⟩, .int .i64 0]) (t := 50) (fr := (0, 0)) (heap_alloc_new w2 _)) (by simp [Value.oneCell']) (by decide) (by unfold maxLen; omega) (by omega) (by simp; omega) (w2.heap.size + 1) (by simp) ?_)
  intro gd cd' w3 hown3 hgrow3 hat3 hlt3
  rw [← hvd] at hgrow3 hat3
  have hne : some K ≠ V.d.ownBlock := fun e => by have h4 := HM2.out.at_.od.2 K e.symm; rw [HM2.out.at_.rk] at h4; exact absurd h4 (by decide)
  have m2 := (hgrow3.cell_far ⟨K, 2, none⟩ (by simp; omega) hne).trans ((World.cell?_of_block (a := ⟨K, 2, none⟩) (Go.heap_alloc_old w2 _ hK2)).trans k2)
  have q2 := (hgrow3.frozen_far ⟨K, 2, none⟩ (by simp; omega) hne).trans ((World.frozen?_of_block (a := ⟨K, 2, none⟩) (Go.heap_alloc_old w2 _ hK2)).trans f2)
  have M4 := (HM2.out.alloc (.cells #[.string ⟨#[]⟩, .int .i64 0] 50)).setD hgrow3 (n := D.nodes.length + 1) (ns := D.nodes ++ [⟨[], 0⟩]) (by simp) (by rw [ndCells_snoc]; exact hown3) (by simpa using hat3)
  have HM4 := Lib.hid M4
  clear M4 hown3 hgrow3 hat3 hown2 k2 f2 HM2
  go_wp2_with fail
  generalize hw4 : w3.setCell ⟨K, 2, none⟩ (.slice (some ⟨gd, 0, none⟩) (D.nodes.length + 1) cd') = w4 at *
  clear hw4 m2 q2 hlt3 hne k0 a0
  have hs4 := HM4.out.size
  have k0 := HM4.out.cellsK.1
  have f0 := HM4.out.cellsK.2.2.2.2.2 0
  simp only [hva] at k0
  have b1 : w4.cell? ⟨W.heap.size, 1, none⟩ = some (.string nm) := by simp [World.cell?, HM4.out.arg]
  have hK4 : K < w4.heap.size := by omega
  obtain ⟨a', cap', hva', _, hat', _⟩ := OwnN.form HM4.out.at_.on.1
  simp only [hva] at hva'
  injection hva' with e1 e2 e3
  subst e1 e3
  have gw := with_any a cap D.names nm (D.nodes.length : Int) w4.drew hat' (by omega)
  clear hat'
  have hW4 : W.heap.size < w4.heap.size := hs4
  generalize hPP : W.heap.size = P at *
  have hPK : P ≠ K := fun e => HM4.out.kne (by rw [hPP]; exact e.symm)
  generalize hNN : D.names.length = N at *
  generalize hMM : D.nodes.length = M at *
  refine region_until 11 (fun w' : World => w'.cell? ⟨K, 0, none⟩ = some (.slice a N cap) ∧ w'.cell? ⟨P, 1, none⟩ = some (.string nm)) 12 rfl (by kernel_rfl) ⟨k0, b1⟩ (fun a' Q hA hQ hP hS => ?_)
  have z : a'.tmps.size = 180 := by rw [hA.out]; rfl
  have e0 : a'.eval (.tmp 0) = Value.pointer (some ⟨K, 0, none⟩) := by rw [hA.out]; rfl
  have e3 : a'.eval (.tmp 3) = Value.pointer (some ⟨P, 0, none⟩) := by rw [hA.out]; rfl
  have e6 : a'.eval (.tmp 6) = Value.int .i64 (M : Int) := by rw [hA.out]; rfl
  refine tk_move (i := 0) (d := (some 66)) rfl rfl rfl (by kernel_rfl) hP e0 hS ?_
  refine tk_move (i := 1) (d := (some 67)) rfl rfl rfl (by kernel_rfl) hP (evq (by decide) e0) hS ?_
  refine tk_nil (i := 2) (d := (some 68)) rfl rfl rfl (by kernel_rfl) hP (eve (Nat.lt_of_lt_of_eq (by decide : 67 < 180) (szq z).symm)) hS ?_
  refine tk_field (i := 3) (d := (some 69)) (p' := ⟨K, 0, none⟩) rfl rfl rfl (by kernel_rfl) hP (eve (Nat.lt_of_lt_of_eq (by decide : 68 < 180) (szq (szq z)).symm)) (fun w => by kernel_rfl) hS ?_
  refine tk_load (i := 4) (d := (some 70)) rfl rfl rfl (by kernel_rfl) hP (eve (Nat.lt_of_lt_of_eq (by decide : 69 < 180) (szq (szq (szq z))).symm)) (fun w hw => loadAt_one (fun w => by kernel_rfl) hw.1) hS ?_
  refine tk_field (i := 5) (d := (some 71)) (p' := ⟨P, 1, none⟩) rfl rfl rfl (by kernel_rfl) hP (evq (by decide) (evq (by decide) (evq (by decide) (evq (by decide) (evq (by decide) e3))))) (fun w => by kernel_rfl) hS ?_
  refine tk_load (i := 6) (d := (some 72)) rfl rfl rfl (by kernel_rfl) hP (eve (Nat.lt_of_lt_of_eq (by decide : 71 < 180) (szq (szq (szq (szq (szq z))))).symm)) (fun w hw => loadAt_one (fun w => by kernel_rfl) hw.2) hS ?_
  refine tk_move (i := 7) (d := (some 73)) rfl rfl rfl (by kernel_rfl) hP (evq (by decide) (evq (by decide) (evq (by decide) (evq (by decide) (evq (by decide) (evq (by decide) (evq (by decide) e6))))))) hS ?_
  refine go_call (i := 8) (d := (some 74)) (by kernel_rfl) rfl rfl rfl rfl Tryz.func23 (by kernel_rfl) rfl (args3 (evq (by decide) (evq (by decide) (evq (by decide) (eve (Nat.lt_of_lt_of_eq (by decide : 70 < 180) (szq (szq (szq (szq z)))).symm))))) (evq (by decide) (eve (Nat.lt_of_lt_of_eq (by decide : 72 < 180) (szq (szq (szq (szq (szq (szq z)))))).symm))) (eve (Nat.lt_of_lt_of_eq (by decide : 73 < 180) (szq (szq (szq (szq (szq (szq (szq z))))))).symm))) gw ?_
  rintro e' w5 ⟨⟨v, rfl, hown5⟩, hb5⟩
  obtain ⟨va, vc, hv, _⟩ := own_form2 hown5
  subst hv
  have r0 := (hb5.cell (p := ⟨K, 0, none⟩) (by show K < w4.heap.size; omega)).trans k0
  have rf := (hb5.frozen (p := ⟨K, 0, none⟩) (by show K < w4.heap.size; omega)).trans f0
  have r1 := (hb5.cell (p := ⟨P, 1, none⟩) (by show P < w4.heap.size; omega)).trans b1
  refine ⟨_, rfl, fun _ => ⟨r0, r1⟩, ?_⟩
  clear hS
  have hS := And.intro r0 r1
  refine go_nil (i := 9) (d := (some 75)) (by kernel_rfl) rfl rfl rfl rfl (evq (by decide) (evq (by decide) (evq (by decide) (evq (by decide) (evq (by decide) (evq (by decide) (evq (by decide) (evq (by decide) (eve (Nat.lt_of_lt_of_eq (by decide : 66 < 180) z.symm)))))))))) (fun _ => hS) ?_
  refine go_field (i := 10) (d := (some 76)) (p' := ⟨K, 0, none⟩) (by kernel_rfl) rfl rfl rfl rfl (eve (Nat.lt_of_lt_of_eq (by decide : 75 < 180) (szq (szq (szq (szq (szq (szq (szq (szq (szq z))))))))).symm)) (fun w => by kernel_rfl) (fun _ => hS) ?_
  refine go_put (i := 11) (by kernel_rfl) rfl rfl rfl rfl (eve (Nat.lt_of_lt_of_eq (by decide : 76 < 180) (szq (szq (szq (szq (szq (szq (szq (szq (szq (szq z)))))))))).symm)) (evq (by decide) (evq (by decide) (eve (Nat.lt_of_lt_of_eq (by decide : 74 < 180) (szq (szq (szq (szq (szq (szq (szq (szq z)))))))).symm)))) (fun w h1 h2 => by simp [Instr.storeAt, go_sem, h1, h2]) r0 rf (fun h => absurd rfl h) ?_
  refine wpAnyU_done (by kernel_rfl) (hQ.out _ _ ?_) _
  rw [hA.out]
  simp only [Act.put, List.setIfInBounds_toArray]
  dsimp only [List.set]
  clear hQ hP hA z hS Q a' e0 e3 e6 r0 rf r1 k0 b1 f0 gw
  have M6 := (HM4.out.drew).setN hb5 hown5
  have HM6 := Lib.hid M6
  clear M6 hown5 hb5 HM4
  generalize hw6 : w5.setCell ⟨K, 0, none⟩ (.slice va (Mb.withN D.names nm.data.toList (M : Int)).length vc) = w6 at *
  clear hw6
  go_wp2_with fail
  have hx6 := HM6.out.arg
  obtain ⟨vi, ci, hvi, _⟩ := own_form2 HM6.out.at_.oi.1
  have k3 := HM6.out.cellsK.2.2.2.1
  have f3 := HM6.out.cellsK.2.2.2.2.2 3
  simp only [hPP] at hx6
  rw [hvi] at k3
  have hs6 : P < w6.heap.size := hPP ▸ HM6.out.size
  have hK6 : K < w6.heap.size := HM6.out.ltK
  have hB6 : B ≤ w6.heap.size := by have := HM6.out.base; omega
  have hown6 := (HM6.out.drew.alloc (.cells #[.int .i64 1, .string nm, .string dt, .string da] 70)).at_.oi.1
  rw [hvi] at hown6
  have hno6 : some K ≠ (Value.slice vi D.since.length ci).ownBlock := fun e => by rw [← hvi] at e; have h4 := HM6.out.at_.oi.2 K e.symm; rw [HM6.out.at_.rk] at h4; exact absurd h4 (by decide)
  have hnP6 : some P ≠ (Value.slice vi D.since.length ci).ownBlock := fun e => by rw [← hvi] at e; exact HM6.out.narg (Or.inr (Or.inr (Or.inr (Or.inr (Or.inl (by rw [hPP]; exact e.symm))))))
  refine region_until 10 (fun w' : World => w'.heap[P]? = some (.cells #[.int .i64 1, .string nm, .string dt, .string da] 70 (0, 0)) ∧ w'.cell? ⟨K, 3, none⟩ = some (.slice vi D.since.length ci)) 11 rfl (by kernel_rfl) ⟨hx6, k3⟩ (fun a' Q hA hQ hP hS => ?_)
  have z : a'.tmps.size = 180 := by rw [hA.out]; rfl
  have e0 : a'.eval (.tmp 0) = Value.pointer (some ⟨K, 0, none⟩) := by rw [hA.out]; rfl
  have e3 : a'.eval (.tmp 3) = Value.pointer (some ⟨P, 0, none⟩) := by rw [hA.out]; rfl
  refine tk_move (i := 0) (d := (some 160)) rfl rfl rfl (by kernel_rfl) hP e0 hS ?_
  refine tk_move (i := 1) (d := (some 161)) rfl rfl rfl (by kernel_rfl) hP (evq (by decide) e0) hS ?_
  refine tk_nil (i := 2) (d := (some 162)) rfl rfl rfl (by kernel_rfl) hP (eve (Nat.lt_of_lt_of_eq (by decide : 161 < 180) (szq z).symm)) hS ?_
  refine tk_field (i := 3) (d := (some 163)) (p' := ⟨K, 3, none⟩) rfl rfl rfl (by kernel_rfl) hP (eve (Nat.lt_of_lt_of_eq (by decide : 162 < 180) (szq (szq z)).symm)) (fun w => by kernel_rfl) hS ?_
  refine tk_load (i := 4) (d := (some 164)) rfl rfl rfl (by kernel_rfl) hP (eve (Nat.lt_of_lt_of_eq (by decide : 163 < 180) (szq (szq (szq z))).symm)) (fun w hw => loadAt_one (fun w => by kernel_rfl) hw.2) hS ?_
  refine tk_load (i := 5) (d := (some 165)) rfl rfl rfl (by kernel_rfl) hP (evq (by decide) (evq (by decide) (evq (by decide) (evq (by decide) (evq (by decide) e3))))) (fun w hw => act_load hw.1) hS ?_
  have hS7 : ((w6.drew).alloc (.cells #[.int .i64 1, .string nm, .string dt, .string da] 70)).heap[P]? = some (.cells #[.int .i64 1, .string nm, .string dt, .string da] 70 (0, 0)) ∧ ((w6.drew).alloc (.cells #[.int .i64 1, .string nm, .string dt, .string da] 70)).cell? ⟨K, 3, none⟩ = some (.slice vi D.since.length ci) := ⟨(Go.heap_alloc_old _ _ hs6).trans hx6, (World.cell?_of_block (a := ⟨K, 3, none⟩) (Go.heap_alloc_old w6.drew _ hK6)).trans k3⟩
  refine go_build1 (i := 6) (d := (some 166)) (v := .slice (some ⟨w6.drew.heap.size, 0, none⟩) 1 1) (w' := (w6.drew).alloc (.cells #[.int .i64 1, .string nm, .string dt, .string da] 70)) (by kernel_rfl) rfl rfl rfl rfl (eve (Nat.lt_of_lt_of_eq (by decide : 165 < 180) (szq (szq (szq (szq (szq z))))).symm)) act_build (fun _ => hS7) ?_
  refine go_append (i := 7) (d := (some 167)) [.int .i64 1, .string nm, .string dt, .string da] (by kernel_rfl) rfl rfl rfl rfl elem_act (by decide) (evq (by decide) (evq (by decide) (eve (Nat.lt_of_lt_of_eq (by decide : 164 < 180) (szq (szq (szq (szq z)))).symm)))) hown6 (eve (Nat.lt_of_lt_of_eq (by decide : 166 < 180) (szq (szq (szq (szq (szq (szq z)))))).symm)) rfl (World.news_of_block (cs := #[.int .i64 1, .string nm, .string dt, .string da]) (t := 70) (fr := (0, 0)) (heap_alloc_new w6.drew _)) (by simp [Value.oneCell']) (by decide) (by show D.since.length + 1 ≤ maxLen; unfold maxLen; omega) (by show (D.since.length + 1) * 56 ≤ _; omega) (by simp; omega) ?_
  intro gi ci' w7 hown7 hgrow7 hat7 hlt7
  have m3 := (hgrow7.cell_far ⟨K, 3, none⟩ (by simp; omega) hno6).trans hS7.2
  have q3 := (hgrow7.frozen_far ⟨K, 3, none⟩ (by simp; omega) hno6).trans ((World.frozen?_of_block (a := ⟨K, 3, none⟩) (Go.heap_alloc_old w6.drew _ hK6)).trans f3)
  have m4 := (hgrow7.block P (by simp; omega) hnP6).trans hS7.1
  refine ⟨fun _ => ⟨m4, m3⟩, ?_⟩
  clear hS
  have hS := And.intro m4 m3
  refine go_nil (i := 8) (d := (some 168)) (by kernel_rfl) rfl rfl rfl rfl (evq (by decide) (evq (by decide) (evq (by decide) (evq (by decide) (evq (by decide) (evq (by decide) (evq (by decide) (eve (Nat.lt_of_lt_of_eq (by decide : 160 < 180) z.symm))))))))) (fun _ => hS) ?_
  refine go_field (i := 9) (d := (some 169)) (p' := ⟨K, 3, none⟩) (by kernel_rfl) rfl rfl rfl rfl (eve (Nat.lt_of_lt_of_eq (by decide : 168 < 180) (szq (szq (szq (szq (szq (szq (szq (szq z)))))))).symm)) (fun w => by kernel_rfl) (fun _ => hS) ?_
  refine go_put (i := 10) (by kernel_rfl) rfl rfl rfl rfl (eve (Nat.lt_of_lt_of_eq (by decide : 169 < 180) (szq (szq (szq (szq (szq (szq (szq (szq (szq z))))))))).symm)) (evq (by decide) (evq (by decide) (eve (Nat.lt_of_lt_of_eq (by decide : 167 < 180) (szq (szq (szq (szq (szq (szq (szq z))))))).symm)))) (fun w h1 h2 => by simp [Instr.storeAt, go_sem, h1, h2]) m3 q3 (fun h => absurd rfl h) ?_
  refine wpAnyU_done (by kernel_rfl) (hQ.out _ _ ?_) _
  rw [hA.out]
  simp only [Act.put, List.setIfInBounds_toArray]
  dsimp only [List.set]
  clear hQ hP hA z hS Q a' e0 e3 
  rw [← hvi] at hgrow7 hat7
  have M8 := ((HM6.out.drew.alloc (.cells #[.int .i64 1, .string nm, .string dt, .string da] 70)).setI hgrow7 (n := D.since.length + 1) (ns := D.since ++ [⟨1, nm.data.toList, dt.data.toList, da.data.toList⟩]) (by simp) (by rw [acCells_snoc]; exact hown7) (by simpa using hat7))
  have HM8 := Lib.hid M8
  clear M8 hown7 hgrow7 hat7 hlt7 hown6 HM6 m3 q3 m4 hS7 k3 f3 hx6 hno6 hnP6
  generalize hw8 : w7.setCell ⟨K, 3, none⟩ (.slice (some ⟨gi, 0, none⟩) (D.since.length + 1) ci') = w8 at *
  clear hw8
  have hown8 := (HM8.out.alloc (.cells #[.int .i64 (M : Int)] 3)).at_.om.1
  obtain ⟨vm, cm, hvm, _⟩ := own_form2 HM8.out.at_.om.1
  have k4 := HM8.out.cellsK.2.2.2.2.1
  have f4 := HM8.out.cellsK.2.2.2.2.2 4
  rw [hvm] at k4 hown8
  have hs8 : P < w8.heap.size := hPP ▸ HM8.out.size
  have hK8 : K < w8.heap.size := HM8.out.ltK
  have hB8 : B ≤ w8.heap.size := by have := HM8.out.base; omega
  obtain ⟨l0, hl0, hl1, hl2, hl3⟩ := info_parts Tryz.info_int
  go_wp2_with (at_builtin; refine wpList_append_lies _ rfl (.tmp 174) (.tmp 176) 35 rfl B 3 l0 (.int .i64 0) 1 8 Tryz.underlying35 hl0 hl1 hl2 hl3 rfl (by decide) (.slice vm D.made.length cm) D.made.length (inCells D.made) rfl hown8 ⟨w8.heap.size, 0, none⟩ 1 1 [.int .i64 (M : Int)] rfl rfl (World.news_of_block (cs := #[.int .i64 (M : Int)]) (t := 3) (fr := (0, 0)) (heap_alloc_new w8 _)) (by simp [Value.oneCell']) (by decide) (by unfold maxLen; omega) (by omega) (by simp; omega) (w8.heap.size + 1) (by simp) ?_)
  intro gm cm' w9 hown9 hgrow9 hat9 hlt9
  have hno8 : some K ≠ (Value.slice vm D.made.length cm).ownBlock := fun e => by rw [← hvm] at e; have h4 := HM8.out.at_.om.2 K e.symm; rw [HM8.out.at_.rk] at h4; exact absurd h4 (by decide)
  have m4 := (hgrow9.cell_far ⟨K, 4, none⟩ (by simp; omega) hno8).trans ((World.cell?_of_block (a := ⟨K, 4, none⟩) (Go.heap_alloc_old w8 _ hK8)).trans k4)
  have q4 := (hgrow9.frozen_far ⟨K, 4, none⟩ (by simp; omega) hno8).trans ((World.frozen?_of_block (a := ⟨K, 4, none⟩) (Go.heap_alloc_old w8 _ hK8)).trans f4)
  rw [← hvm] at hgrow9 hat9
  have M10 := (HM8.out.alloc (.cells #[.int .i64 (M : Int)] 3)).setM hgrow9 (n := D.made.length + 1) (ns := D.made ++ [(M : Int)]) (by simp) (by rw [inCells_snoc]; exact hown9) (by simpa using hat9)
  have HM10 := Lib.hid M10
  clear M10 hown9 hgrow9 hat9 hlt9 hown8 HM8
  go_wp2_with fail
  go_ret
  subst hMM hNN
  exact ⟨rfl, _, _, HM10.out.at_, HM10.out.done⟩

end Go.Proofs.YtamglanahpcedaaGreatDoor
namespace Go.Proofs.YtamglanahpcedaaGreatDoor
open Go.RowKit Go.Lib

set_option maxRecDepth 100000 in
set_option maxHeartbeats 4000000 in
theorem do_add {role : Nat → Nat} {B K : Nat} {V : DkV} {D : Mb.Dk} {W : World} (h : DkAt role B K V D W) (hB : B ≤ W.heap.size) (nm dt da : ByteArray) (hl : D.names.length ≤ 1048576) {k nd : Nat} {x : Mb.Nm} (hk : Mb.findI D.names nm.data.toList = (k : Int)) (hx : D.names[k]? = some x) (hxn : x.node = (nd : Int)) {y : Mb.Nd} (hy : D.nodes[nd]? = some y) (hyl : y.data.length + da.data.toList.length ≤ 1048576) :
    Calls Tryz.prog 17 #[.pointer (some ⟨K, 0, none⟩), .agg #[.int .i64 2, .string nm, .string dt, .string da]] W fun e w' => e = .returned (.bool (decide ((y.data ++ da.data.toList).length ≤ 400))) ∧ ∃ role' V', DkAt role' B K V' { D with nodes := D.nodes.set nd ⟨y.data ++ da.data.toList, y.safe⟩ } w' ∧ DkStep K V V' W w' := by
  obtain ⟨i0, hi, hz0, hz1, hz2⟩ := info_parts Tryz.info_named
  obtain ⟨a, cap, hva, hcap, hat, hab⟩ := OwnN.form h.on.1
  have hK : K < W.heap.size := h.lt
  have c0 : W.cell? ⟨K, 0, none⟩ = some (.slice a D.names.length cap) := by rw [← hva]; simp [World.cell?, h.blk]
  have c0' : ∀ o, (W.alloc o).cell? ⟨K, 0, none⟩ = some (.slice a D.names.length cap) := fun o => (World.cell?_of_block (a := ⟨K, 0, none⟩) (Go.heap_alloc_old W o hK)).trans c0
  have c0z : ∀ (o : Obj) (z : Later (W.alloc o).heap.size (W.alloc o)), z.w.cell? ⟨K, 0, none⟩ = some (.slice a D.names.length cap) := fun o z => (z.h.cell (p := ⟨K, 0, none⟩) (by simp; omega)).trans (c0' o)
  have g : ∀ (o : Obj) (z : Later (W.alloc o).heap.size (W.alloc o)), Calls Tryz.prog 22 #[.slice a D.names.length cap, .string nm] z.w fun e w' => e = .returned (.int .i64 (Mb.findI D.names nm.data.toList)) ∧ Below z.w.heap.size z.w w' := fun o z => by
    refine find_any a cap D.names nm z.w ?_ (by unfold maxLen; omega)
    have hb : Below W.heap.size W z.w := ((Below.refl _ _).alloc (Nat.le_refl _) o).trans (z.h.mono (by simp))
    rcases hat with hat | ⟨b, off, h1, h2, h3⟩
    · exact Or.inl hat
    · exact Or.inr ⟨b, off, h1, Nat.lt_of_lt_of_le h2 hb.size, h3.below hb h2⟩
  have Hab := Lib.hid hab
  have Hat := Lib.hid hat
  have Hh := Lib.hid h
  clear h hat hab
  obtain ⟨nb, noff, ha, hnb, hnc⟩ : ∃ b off, a = some ⟨b, off, none⟩ ∧ b < W.heap.size ∧ NmsAt W b off D.names := by
    rcases Hat.out with hz | hz
    · rw [hz] at hx; simp at hx
    · exact hz
  subst ha
  have Hnc := Lib.hid hnc
  clear hnc
  have hkl : k < D.names.length := (List.getElem?_eq_some_iff.1 hx).1
  rw [hk] at g
  have hNE := fun o => Later.some (W.alloc o).heap.size (W.alloc o)
  go_enter Tryz.func17, Tryz.ntmps17
  go_wp2_with fail
  have a1 : ∀ z : Later (W.alloc (.cells #[.int .i64 2, .string nm, .string dt, .string da] 70)).heap.size (W.alloc (.cells #[.int .i64 2, .string nm, .string dt, .string da] 70)), z.w.cell? ⟨W.heap.size, 1, none⟩ = some (.string nm) := fun z => (z.h.cell (p := ⟨W.heap.size, 1, none⟩) (by simp)).trans (by simp)
  replace c0z := c0z (.cells #[.int .i64 2, .string nm, .string dt, .string da] 70)
  replace g := g (.cells #[.int .i64 2, .string nm, .string dt, .string da] 70)
  replace hNE := hNE (.cells #[.int .i64 2, .string nm, .string dt, .string da] 70)
  have hblkA : (W.alloc (.cells #[.int .i64 2, .string nm, .string dt, .string da] 70)).heap[W.heap.size]? = some (.cells #[.int .i64 2, .string nm, .string dt, .string da] 70 (0, 0)) := heap_alloc_new W _
  have HW1 : Hid (Below W.heap.size W (W.alloc (.cells #[.int .i64 2, .string nm, .string dt, .string da] 70))) := (Below.refl _ _).alloc (Nat.le_refl _) _
  have hsz : W.heap.size < (W.alloc (.cells #[.int .i64 2, .string nm, .string dt, .string da] 70)).heap.size := by simp
  generalize (W.alloc (.cells #[.int .i64 2, .string nm, .string dt, .string da] 70)) = W1 at *
  refine wp_region_later W1.heap.size (by kernel_rfl) (by kernel_rfl) ?_
  repeat (go_big_quiet_step ((go_at_call 22; exact Later.calls _ (Nat.le_refl _) (g _))))
  refine wpQuiet_nil ?_
  intro _ hw'
  obtain ⟨z, rfl⟩ := hw'
  have hb2 := HW1.out.trans (z.h.mono (by omega))
  have hblk2 := (z.h.block W.heap.size hsz).trans hblkA
  have hz2' := z.h.size
  generalize z.w = w2 at *
  clear g c0z a1 hNE c0 c0' hblkA
  have h2 := Hh.out.kept (Chg.of_below role 0 hb2)
  have hs2 : W.heap.size < w2.heap.size := by omega
  have k0 : w2.cell? ⟨K, 0, none⟩ = some (.slice (some ⟨nb, noff, none⟩) D.names.length cap) := by rw [← hva]; simp [World.cell?, h2.blk]
  have n1 : w2.cell? ⟨nb, noff + k * 2 + 1, none⟩ = some (.int .i64 (nd : Int)) := (hb2.cell (p := ⟨nb, noff + k * 2 + 1, none⟩) hnb).trans (by rw [← hxn]; exact (Hnc.out k x hx).2)
  have M2 : Mid B K W V (.cells #[.int .i64 2, .string nm, .string dt, .string da] 70 (0, 0)) role V D w2 := Mid.start Hh.out hB hb2 hblk2 hs2
  have HM2 := Lib.hid M2
  have a0 : w2.cell? ⟨W.heap.size, 0, none⟩ = some (.int .i64 2) := by simp [World.cell?, hblk2]
  clear M2 h2 hb2 hblk2 Hh
  obtain ⟨vd, cd, hvd, _⟩ := own_form2 HM2.out.at_.od.1
  have k2 := HM2.out.cellsK.2.2.1
  rw [hvd] at k2
  have hI : ∀ w, (Instr.indexAt 43 (.slice (some ⟨nb, noff, none⟩) D.names.length cap) (.int .i64 (k : Int))).run Tryz.prog w = .ok (.pointer (some ⟨nb, noff + k * 2, none⟩)) w := fun w => named_index hkl
  go_wp2_with fail
  obtain ⟨gd, hgd⟩ : ∃ g, vd = some ⟨g, 0, none⟩ := by
    rcases HM2.out.at_.od.1.2 with ⟨h1, h2⟩ | ⟨g, c, cur, h1, _⟩
    · have := (List.getElem?_eq_some_iff.1 hy).1; omega
    · rw [hvd] at h1; injection h1 with h1; exact ⟨g, h1⟩
  subst hgd
  have hnl : nd < D.nodes.length := (List.getElem?_eq_some_iff.1 hy).1
  have hcs := HM2.out.at_.od.1
  rw [hvd] at hcs
  have y0 : w2.cell? ⟨gd, nd * 2, none⟩ = some (.string ⟨y.data.toArray⟩) := own_cell hcs (ndCells_get _ _ _ hy).1
  have y1 : w2.cell? ⟨gd, nd * 2 + 1, none⟩ = some (.int .i64 y.safe) := own_cell hcs (ndCells_get _ _ _ hy).2
  have yf : ∀ j, w2.frozen? ⟨gd, j, none⟩ = false := own_frozen hcs
  have hPP := HM2.out.arg
  have hgP : gd ≠ W.heap.size := fun e => HM2.out.narg (Or.inr (Or.inr (Or.inr (Or.inl (by rw [hvd, ← e]; rfl)))))
  have hgK : gd ≠ K := fun e => by have h4 := HM2.out.at_.od.2 K (by rw [hvd, ← e]; rfl); rw [HM2.out.at_.rk] at h4; exact absurd h4 (by decide)
  clear hcs
  have hyl2 : y.data.length + da.data.toList.length ≤ 9223372036854775807 := by omega
  have p3 : w2.cell? ⟨W.heap.size, 3, none⟩ = some (.string da) := by simp [World.cell?, hPP]
  refine region_until 18 (fun w' : World => w'.cell? ⟨K, 2, none⟩ = some (.slice (some ⟨gd, 0, none⟩) D.nodes.length cd) ∧ w'.cell? ⟨gd, nd * 2, none⟩ = some (.string ⟨y.data.toArray⟩) ∧ w'.cell? ⟨W.heap.size, 3, none⟩ = some (.string da)) 19 rfl (by kernel_rfl) ⟨k2, y0, p3⟩ (fun a' Q hA hQ hP hS => ?_)
  have z : a'.tmps.size = 180 := by rw [hA.out]; rfl
  have e0 : a'.eval (.tmp 0) = Value.pointer (some ⟨K, 0, none⟩) := by rw [hA.out]; rfl
  have e3 : a'.eval (.tmp 3) = Value.pointer (some ⟨W.heap.size, 0, none⟩) := by rw [hA.out]; rfl
  have e6 : a'.eval (.tmp 6) = Value.int .i64 (nd : Int) := by rw [hA.out]; rfl
  refine tk_move (i := 0) (d := (some 79)) rfl rfl rfl (by kernel_rfl) hP e0 hS ?_
  refine tk_nil (i := 1) (d := (some 80)) rfl rfl rfl (by kernel_rfl) hP (eve (Nat.lt_of_lt_of_eq (by decide : 79 < 180) z.symm)) hS ?_
  refine tk_field (i := 2) (d := (some 81)) (p' := ⟨K, 2, none⟩) rfl rfl rfl (by kernel_rfl) hP (eve (Nat.lt_of_lt_of_eq (by decide : 80 < 180) (szq z).symm)) (fun w => by kernel_rfl) hS ?_
  refine tk_load (i := 3) (d := (some 82)) rfl rfl rfl (by kernel_rfl) hP (eve (Nat.lt_of_lt_of_eq (by decide : 81 < 180) (szq (szq z)).symm)) (fun w hw => loadAt_one (fun w => by kernel_rfl) hw.1) hS ?_
  refine tk_move (i := 4) (d := (some 83)) rfl rfl rfl (by kernel_rfl) hP (evq (by decide) (evq (by decide) (evq (by decide) (evq (by decide) e6)))) hS ?_
  refine tk_move (i := 5) (d := (some 84)) rfl rfl rfl (by kernel_rfl) hP (evq (by decide) (evq (by decide) (evq (by decide) (evq (by decide) (evq (by decide) e0))))) hS ?_
  refine tk_nil (i := 6) (d := (some 85)) rfl rfl rfl (by kernel_rfl) hP (eve (Nat.lt_of_lt_of_eq (by decide : 84 < 180) (szq (szq (szq (szq (szq z))))).symm)) hS ?_
  refine tk_field (i := 7) (d := (some 86)) (p' := ⟨K, 2, none⟩) rfl rfl rfl (by kernel_rfl) hP (eve (Nat.lt_of_lt_of_eq (by decide : 85 < 180) (szq (szq (szq (szq (szq (szq z)))))).symm)) (fun w => by kernel_rfl) hS ?_
  refine tk_load (i := 8) (d := (some 87)) rfl rfl rfl (by kernel_rfl) hP (eve (Nat.lt_of_lt_of_eq (by decide : 86 < 180) (szq (szq (szq (szq (szq (szq (szq z))))))).symm)) (fun w hw => loadAt_one (fun w => by kernel_rfl) hw.1) hS ?_
  refine tk_move (i := 9) (d := (some 88)) rfl rfl rfl (by kernel_rfl) hP (evq (by decide) (evq (by decide) (evq (by decide) (evq (by decide) (evq (by decide) (evq (by decide) (evq (by decide) (evq (by decide) (evq (by decide) e6))))))))) hS ?_
  refine tk_index (i := 10) (d := (some 89)) (v := .pointer (some ⟨gd, nd * 2, none⟩)) rfl rfl rfl (by kernel_rfl) hP (evq (by decide) (eve (Nat.lt_of_lt_of_eq (by decide : 87 < 180) (szq (szq (szq (szq (szq (szq (szq (szq z)))))))).symm))) (eve (Nat.lt_of_lt_of_eq (by decide : 88 < 180) (szq (szq (szq (szq (szq (szq (szq (szq (szq z))))))))).symm)) (fun w => node_index hnl) hS ?_
  refine tk_field (i := 11) (d := (some 90)) (p' := ⟨gd, nd * 2, none⟩) rfl rfl rfl (by kernel_rfl) hP (eve (Nat.lt_of_lt_of_eq (by decide : 89 < 180) (szq (szq (szq (szq (szq (szq (szq (szq (szq (szq z)))))))))).symm)) (fun w => by kernel_rfl) hS ?_
  refine tk_load (i := 12) (d := (some 91)) rfl rfl rfl (by kernel_rfl) hP (eve (Nat.lt_of_lt_of_eq (by decide : 90 < 180) (szq (szq (szq (szq (szq (szq (szq (szq (szq (szq (szq z))))))))))).symm)) (fun w hw => loadAt_one (fun w => by kernel_rfl) hw.2.1) hS ?_
  refine tk_field (i := 13) (d := (some 92)) (p' := ⟨W.heap.size, 3, none⟩) rfl rfl rfl (by kernel_rfl) hP (evq (by decide) (evq (by decide) (evq (by decide) (evq (by decide) (evq (by decide) (evq (by decide) (evq (by decide) (evq (by decide) (evq (by decide) (evq (by decide) (evq (by decide) (evq (by decide) (evq (by decide) e3))))))))))))) (fun w => by kernel_rfl) hS ?_
  refine tk_load (i := 14) (d := (some 93)) rfl rfl rfl (by kernel_rfl) hP (eve (Nat.lt_of_lt_of_eq (by decide : 92 < 180) (szq (szq (szq (szq (szq (szq (szq (szq (szq (szq (szq (szq (szq z))))))))))))).symm)) (fun w hw => loadAt_one (fun w => by kernel_rfl) hw.2.2) hS ?_
  refine tk_bin (i := 15) (d := (some 94)) (v := .string ⟨(y.data ++ da.data.toList).toArray⟩) rfl rfl rfl (by kernel_rfl) hP (evq (by decide) (evq (by decide) (eve (Nat.lt_of_lt_of_eq (by decide : 91 < 180) (szq (szq (szq (szq (szq (szq (szq (szq (szq (szq (szq (szq z)))))))))))).symm)))) (eve (Nat.lt_of_lt_of_eq (by decide : 93 < 180) (szq (szq (szq (szq (szq (szq (szq (szq (szq (szq (szq (szq (szq (szq z)))))))))))))).symm)) (fun w => cat_bin hyl2) hS ?_
  refine go_index (i := 16) (d := (some 95)) (v := .pointer (some ⟨gd, nd * 2, none⟩)) (by kernel_rfl) rfl rfl rfl rfl (evq (by decide) (evq (by decide) (evq (by decide) (evq (by decide) (evq (by decide) (evq (by decide) (evq (by decide) (evq (by decide) (evq (by decide) (evq (by decide) (evq (by decide) (evq (by decide) (eve (Nat.lt_of_lt_of_eq (by decide : 82 < 180) (szq (szq (szq z))).symm)))))))))))))) (evq (by decide) (evq (by decide) (evq (by decide) (evq (by decide) (evq (by decide) (evq (by decide) (evq (by decide) (evq (by decide) (evq (by decide) (evq (by decide) (evq (by decide) (eve (Nat.lt_of_lt_of_eq (by decide : 83 < 180) (szq (szq (szq (szq z)))).symm))))))))))))) (fun w => node_index hnl) (fun _ => hS) ?_
  refine go_field (i := 17) (d := (some 96)) (p' := ⟨gd, nd * 2, none⟩) (by kernel_rfl) rfl rfl rfl rfl (eve (Nat.lt_of_lt_of_eq (by decide : 95 < 180) (szq (szq (szq (szq (szq (szq (szq (szq (szq (szq (szq (szq (szq (szq (szq (szq z)))))))))))))))).symm)) (fun w => by kernel_rfl) (fun _ => hS) ?_
  refine go_put (i := 18) (by kernel_rfl) rfl rfl rfl rfl (eve (Nat.lt_of_lt_of_eq (by decide : 96 < 180) (szq (szq (szq (szq (szq (szq (szq (szq (szq (szq (szq (szq (szq (szq (szq (szq (szq z))))))))))))))))).symm)) (evq (by decide) (evq (by decide) (eve (Nat.lt_of_lt_of_eq (by decide : 94 < 180) (szq (szq (szq (szq (szq (szq (szq (szq (szq (szq (szq (szq (szq (szq (szq z))))))))))))))).symm)))) (fun w h1 h2 => by simp [Instr.storeAt, go_sem, h1, h2]) y0 (yf _) (fun h => absurd rfl h) ?_
  refine wpAnyU_done (by kernel_rfl) (hQ.out _ _ ?_) _
  rw [hA.out]
  simp only [Act.put, List.setIfInBounds_toArray]
  dsimp only [List.set]
  clear hQ hP hA z hS Q a' e0 e3 e6 
  have M4 := (HM2.out.drew).put (j := nd * 2) (u := .string ⟨(y.data ++ da.data.toList).toArray⟩) (ns := D.nodes.set nd ⟨y.data ++ da.data.toList, y.safe⟩) hvd (by simp) (ndCells_data _ _ _ _ hy)
  have HM4 := Lib.hid M4
  have z2 := HM4.out.cellsK.2.2.1
  have z0 := World.cell?_setCell_same w2.drew ⟨gd, nd * 2, none⟩ (.string ⟨(y.data ++ da.data.toList).toArray⟩) y0
  rw [hvd] at z2
  clear M4 HM2 y0 y1 yf k2 k0 a0 p3 hPP
  generalize hw4 : (w2.drew).setCell ⟨gd, nd * 2, none⟩ (.string ⟨(y.data ++ da.data.toList).toArray⟩) = w4 at *
  clear hw4
  have hJ : ∀ w, (Instr.indexAt 44 (.slice (some ⟨gd, 0, none⟩) D.nodes.length cd) (.int .i64 (nd : Int))).run Tryz.prog w = .ok (.pointer (some ⟨gd, nd * 2, none⟩)) w := fun w => node_index hnl
  go_wp2_with fail
  go_ret
  refine ⟨?_, _, _, HM4.out.at_, HM4.out.done⟩
  show Ending.returned (Value.bool (decide ((y.data.length : Int) + (da.size : Int) ≤ 400))) = _
  rw [Lib.size_eq, List.length_append]
  congr 2
  exact decide_eq_decide.2 (by omega)

end Go.Proofs.YtamglanahpcedaaGreatDoor
