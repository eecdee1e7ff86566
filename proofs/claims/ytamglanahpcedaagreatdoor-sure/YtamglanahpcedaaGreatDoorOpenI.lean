/-
  OWN TEXT: found.readList of a list that is right.
-/
import Derived.Test.YtamglanahpcedaaGreatDoorOpenCE
import Derived.Test.YtamglanahpcedaaGreatDoorSortBC
import Derived.Test.YtamglanahpcedaaGreatDoorFolderDE
namespace Go.Proofs.YtamglanahpcedaaGreatDoor
open Go.RowKit Go.Lib

/-- the cells of a list -/
def ListCells (w : World) (b : Nat) (e n : Int) (v : Value) : Prop := w.cell? ⟨b, 0, none⟩ = some (.int .i64 e) ∧ w.cell? ⟨b, 1, none⟩ = some (.int .i64 n) ∧ w.cell? ⟨b, 2, none⟩ = some v
theorem ListCells.below {w w' : World} {B b : Nat} {e n : Int} {v : Value} (h : ListCells w b e n v) (hb : Below B w w') (hB : b < B) : ListCells w' b e n v :=
  ⟨(hb.cell (p := ⟨b, 0, none⟩) hB).trans h.1, (hb.cell (p := ⟨b, 1, none⟩) hB).trans h.2.1, (hb.cell (p := ⟨b, 2, none⟩) hB).trans h.2.2⟩
theorem list_load {w : World} {b : Nat} {e n : Int} {a : Option Addr} {l c : Nat} (h : ListCells w b e n (.slice a l c)) : (Instr.loadAt 153 (.pointer (some ⟨b, 0, none⟩))).run Tryz.prog w = .ok (.agg #[.int .i64 e, .int .i64 n, .slice a l c]) w := by
  obtain ⟨c0, c1, c2⟩ := h
  go_simp
theorem put1 {P : Program} {t : TypeId} {p : Addr} {u v : Value} {w : World} (hs : ∀ w : World, w.cell? p = some u → w.frozen? p = false → (Instr.storeAt t (.pointer (some p)) v).run P w = .ok () (w.setCell p v)) (hc : w.cell? p = some u) (hf : w.frozen? p = false) : (Instr.storeAt t (.pointer (some p)) v).run P w = .ok () (w.setCell p v) := hs w hc hf
/-- three cells of a folder as found written -/
abbrev set3 (w : World) (F : Nat) (v0 v1 v2 : Value) : World := ((w.setCell ⟨F, 3, none⟩ v0).setCell ⟨F, 4, none⟩ v1).setCell ⟨F, 5, none⟩ v2
theorem FdBlk.set3 {w : World} {F : Nat} {code text : ByteArray} {v : Value} {ep nx : Int} {ev : Value} {br : Bool} (h : FdBlk w F code text v ep nx ev br) (e n : Int) (x : Value) : FdBlk (set3 w F (.int .i64 e) (.int .i64 n) x) F code text v e n x br := by
  have h5 := heap_set_in (o := 5) x (heap_set_in (o := 4) (.int .i64 n) (heap_set_in (o := 3) (.int .i64 e) h))
  unfold FdBlk
  simpa using h5
theorem set3_far (w : World) {F b : Nat} (h : b ≠ F) (v0 v1 v2 : Value) : (set3 w F v0 v1 v2).heap[b]? = w.heap[b]? :=
  (Below.heap_setCell _ _ _ _ h).trans ((Below.heap_setCell _ _ _ _ h).trans (Below.heap_setCell _ _ _ _ h))

set_option maxRecDepth 100000 in
set_option maxHeartbeats 4000000 in
theorem readList_ok {w : World} {F : Nat} {code text : ByteArray} {a : Option Addr} {cap : Nat} {xs : List Mb.Ms} (h : FdBlk w F code text (.slice a xs.length cap) 0 0 (.slice none 0 0) false) (hm : MsAt w a xs) (hma : ∀ b off, a = some ⟨b, off, none⟩ → b ≠ F) (hl : xs.length ≤ 1048576)
    (hs : text.size ≤ 400) (hE : Env w) {ep nx : Int} {es : List Mb.Ent} (hr : Mb.readL text.data.toList = some (ep, nx, es)) (hel : es.length ≤ 1048576) (hin : ∀ x ∈ xs, Mb.KeyIn x.key es) (hn0 : 0 ≤ nx) (hn1 : nx ≤ 100) :
    Calls Tryz.prog 68 #[.pointer (some ⟨F, 0, none⟩)] w fun e w' => e = .returned (.tuple #[]) ∧ (∃ ea ec, FdBlk w' F code text (.slice a xs.length cap) ep nx (.slice ea es.length ec) false ∧ SlAt w' ea es ∧ ∀ b off, ea = some ⟨b, off, none⟩ → w.heap.size ≤ b) ∧ But F none w w' := by
  obtain ⟨_, c1, _, _, _, _, _, _, hFw⟩ := h.cells
  have gR := lread_some text hs w hE ep nx es hr
  have Hh := Lib.hid h
  have Hm := Lib.hid hm
  have HI := Lib.hid hin
  have Hma := Lib.hid hma
  clear h hm hin hr hma
  go_enter Tryz.func68, Tryz.ntmps68
  go_wp2_with fail
  refine gR.mono ?_
  rintro e w1 ⟨ea, ec, rfl, hb1, hsl, _, _, hnew⟩
  have hs1 := hb1.size
  have hF1 : FdBlk w1 F code text (.slice a xs.length cap) 0 0 (.slice none 0 0) false := (hb1.block F hFw).trans Hh.out
  have hF1w : F < w1.heap.size := by omega
  obtain ⟨_, _, _, f3, f4, f5, _, ff, _⟩ := hF1.cells
  have ff3 := ff 3
  have ff4 := ff 4
  have ff5 := ff 5
  have hne : F ≠ w1.heap.size := by omega
  have HF1 := Lib.hid hF1
  have HB1 := Lib.hid hb1
  have HSL0 := Lib.hid hsl
  have HNew := Lib.hid hnew
  have HS1 := Lib.hid hs1
  clear gR hb1 hsl hnew hF1 hs1 ff
  go_wp2_with fail
  have hz2 : (set3 w1 F (.int .i64 ep) (.int .i64 nx) (.slice ea es.length ec)).heap.size = w1.heap.size := by simp [set3]
  have hF3 : FdBlk ((set3 w1 F (.int .i64 ep) (.int .i64 nx) (.slice ea es.length ec)).alloc (.cells #[.int .i64 ep, .int .i64 nx, .slice ea es.length ec] 153)) F code text (.slice a xs.length cap) ep nx (.slice ea es.length ec) false := (Go.heap_alloc_old _ _ (by rw [hz2]; exact hF1w)).trans (HF1.out.set3 ep nx (.slice ea es.length ec))
  have far3 : ∀ b, b < w1.heap.size → b ≠ F → ((set3 w1 F (.int .i64 ep) (.int .i64 nx) (.slice ea es.length ec)).alloc (.cells #[.int .i64 ep, .int .i64 nx, .slice ea es.length ec] 153)).heap[b]? = w1.heap[b]? := fun b h0 hb => (Go.heap_alloc_old _ _ (by rw [hz2]; exact h0)).trans (set3_far _ hb _ _ _)
  have hs3 : ((set3 w1 F (.int .i64 ep) (.int .i64 nx) (.slice ea es.length ec)).alloc (.cells #[.int .i64 ep, .int .i64 nx, .slice ea es.length ec] 153)).heap.size = w1.heap.size + 1 := by simp [set3]
  have hBt3 : But F none w ((set3 w1 F (.int .i64 ep) (.int .i64 nx) (.slice ea es.length ec)).alloc (.cells #[.int .i64 ep, .int .i64 nx, .slice ea es.length ec] 153)) := ((((But.of_below HB1.out).setCell (p := ⟨F, 3, none⟩) (Or.inl rfl) _).setCell (p := ⟨F, 4, none⟩) (Or.inl rfl) _).setCell (p := ⟨F, 5, none⟩) (Or.inl rfl) _).below ((Below.refl _ _).alloc (Nat.le_refl _) _)
  have hL3 : ((set3 w1 F (.int .i64 ep) (.int .i64 nx) (.slice ea es.length ec)).alloc (.cells #[.int .i64 ep, .int .i64 nx, .slice ea es.length ec] 153)).heap[w1.heap.size]? = some (.cells #[.int .i64 ep, .int .i64 nx, .slice ea es.length ec] 153 (0, 0)) := by
    have := heap_alloc_new (set3 w1 F (.int .i64 ep) (.int .i64 nx) (.slice ea es.length ec)) (.cells #[.int .i64 ep, .int .i64 nx, .slice ea es.length ec] 153)
    rwa [hz2] at this
  generalize ((set3 w1 F (.int .i64 ep) (.int .i64 nx) (.slice ea es.length ec)).alloc (.cells #[.int .i64 ep, .int .i64 nx, .slice ea es.length ec] 153)) = w3 at *
  have hs1 := HS1.out
  have far3c : ∀ b o, b < w1.heap.size → b ≠ F → w3.cell? ⟨b, o, none⟩ = w1.cell? ⟨b, o, none⟩ := fun b o h0 hb => World.cell?_of_block (a := ⟨b, o, none⟩) (far3 b h0 hb)
  have HLC : Hid (ListCells w3 w1.heap.size ep nx (.slice ea es.length ec)) := ⟨by simp [World.cell?, hL3], by simp [World.cell?, hL3], by simp [World.cell?, hL3]⟩
  have hLw3 : w1.heap.size < w3.heap.size := by omega
  have hsl3 : SlAt w3 ea es := by
    rcases HSL0.out with h | ⟨b, off, h1, h2, h3⟩
    · exact Or.inl h
    · have hbw := HNew.out b off h1
      refine Or.inr ⟨b, off, h1, by omega, fun i x hx => ?_⟩
      obtain ⟨c0, c1, c2⟩ := h3 i x hx
      exact ⟨(far3c _ _ h2 (by omega)).trans c0, (far3c _ _ h2 (by omega)).trans c1, (far3c _ _ h2 (by omega)).trans c2⟩
  have hms3 : MsAt w3 a xs := by
    rcases Hm.out with h | ⟨b, off, h1, h2, h3⟩
    · exact Or.inl h
    · have hbF := Hma.out b off h1
      refine Or.inr ⟨b, off, h1, by omega, fun i x hx => ?_⟩
      have hfar : ∀ o, w3.cell? ⟨b, o, none⟩ = w.cell? ⟨b, o, none⟩ := fun o => World.cell?_of_block (a := ⟨b, o, none⟩) (hBt3.block b h2 hbF (by simp))
      obtain ⟨c0, c1, c2, c3, c4⟩ := h3 i x hx
      exact ⟨(hfar _).trans c0, (hfar _).trans c1, (hfar _).trans c2, (hfar _).trans c3, (hfar _).trans c4⟩
  have gM := missing_none (w := w3.drew) ((((Below.refl w3.heap.size w3).drew).block F (by omega)).trans hF3) (hms3.below ((Below.refl _ _).drew)) hl ea ec es ep nx (hsl3.below ((Below.refl _ _).drew) (Nat.le_refl _)) hel HI.out
  have hneq : ∀ w, (do eqGuard .neq 32 (.tmp 17) (.const (.int .i64 0)) (.int .i64 0) (.int .i64 0); binOp .neq 32 (.int .i64 0) (.int .i64 0) : Sem Value).run Tryz.prog w = .ok (.bool false) w := fun w => by go_simp
  have hw1 : IntKind.i64.wrap (nx - 1) = nx - 1 := IntWalk.i64_in _ (by omega)
  have hw0 : IntKind.i64.wrap nx = nx := IntWalk.i64_in _ (by omega)
  have hadd : ∀ w, (do eqGuard .add 3 (.tmp 21) (.tmp 24) (.int .i64 nx) (.int .i64 0); binOp .add 3 (.int .i64 nx) (.int .i64 0) : Sem Value).run Tryz.prog w = .ok (.int .i64 nx) w := fun w => by go_simp
  have hsub : ∀ w, (do eqGuard .sub 3 (.tmp 25) (.const (.int .i64 1)) (.int .i64 nx) (.int .i64 1); binOp .sub 3 (.int .i64 nx) (.int .i64 1) : Sem Value).run Tryz.prog w = .ok (.int .i64 (nx - 1)) w := fun w => by go_simp
  have hgtr : ∀ w, (do eqGuard .gtr 3 (.tmp 26) (.const (.int .i64 99)) (.int .i64 (nx - 1)) (.int .i64 99); binOp .gtr 3 (.int .i64 (nx - 1)) (.int .i64 99) : Sem Value).run Tryz.prog w = .ok (.bool false) w := fun w => by
    have : ¬ (99 : Int) < nx - 1 := by omega
    go_simp
  have HF3 := Lib.hid hF3
  refine region_late [15] (fun w' : World => w'.cell? ⟨w1.heap.size, 1, none⟩ = some (.int .i64 nx) ∧ ListCells w' w1.heap.size ep nx (.slice ea es.length ec)) 16 rfl (by kernel_rfl) ⟨HLC.out.2.1, HLC.out⟩ (fun a' Q hA hQ hP hS => ?_)
  have z : a'.tmps.size = 31 := by rw [hA.out]; rfl
  have e0 : a'.eval (.tmp 0) = Value.pointer (some ⟨F, 0, none⟩) := by rw [hA.out]; rfl
  have e3 : a'.eval (.tmp 3) = Value.int .i64 0 := by rw [hA.out]; rfl
  have e2 : a'.eval (.tmp 2) = Value.pointer (some ⟨w1.heap.size, 0, none⟩) := by rw [hA.out]; rfl
  refine tkp (i := 0) (d := (some 16)) rfl rfl (by kernel_rfl) hP (wanted_all rfl) (fun wx => run_move rfl e0) hS ?_
  refine tkp (i := 1) (d := (some 17)) rfl rfl (by kernel_rfl) hP (wanted_all rfl) (fun wx => run_move rfl (evq (by decide) e3)) hS ?_
  refine tkp (i := 2) (d := (some 18)) rfl rfl (by kernel_rfl) hP (wanted_all rfl) (fun wx => run_bin (v := .bool false) rfl (eve (Nat.lt_of_lt_of_eq (by decide : 17 < 31) (szq z).symm)) rfl (hneq wx)) hS ?_
  refine tkp (i := 3) (d := (some 19)) rfl rfl (by kernel_rfl) hP (wanted_all rfl) (fun wx => run_move rfl (eve (Nat.lt_of_lt_of_eq (by decide : 18 < 31) (szq (szq z)).symm))) hS ?_
  refine tkp (i := 4) (d := (some 20)) rfl rfl (by kernel_rfl) hP (wanted_yes (e := 19) (b := false) rfl rfl (eve (Nat.lt_of_lt_of_eq (by decide : 19 < 31) (szq (szq (szq z))).symm))) (fun wx => run_field (p' := ⟨w1.heap.size, 1, none⟩) rfl (evq (by decide) (evq (by decide) (evq (by decide) (evq (by decide) e2)))) (fun w => by kernel_rfl)) hS ?_
  refine tkv (i := 5) (d := (some 21)) rfl rfl (by kernel_rfl) hP (wanted_yes (e := 19) (b := false) rfl rfl (evq (by decide) (eve (Nat.lt_of_lt_of_eq (by decide : 19 < 31) (szq (szq (szq z))).symm)))) (fun wx hw => run_load rfl (eve (Nat.lt_of_lt_of_eq (by decide : 20 < 31) (szq (szq (szq (szq z)))).symm)) (loadAt_one (fun w => by kernel_rfl) hw.1)) hS ?_
  refine tkp (i := 6) (d := (some 22)) rfl rfl (by kernel_rfl) hP (wanted_yes (e := 19) (b := false) rfl rfl (evq (by decide) (evq (by decide) (eve (Nat.lt_of_lt_of_eq (by decide : 19 < 31) (szq (szq (szq z))).symm))))) (fun wx => run_move rfl (evq (by decide) (evq (by decide) (evq (by decide) (evq (by decide) (evq (by decide) (evq (by decide) e0))))))) hS ?_
  refine tkv (i := 7) (d := (some 23)) rfl rfl (by kernel_rfl) hP (wanted_yes (e := 19) (b := false) rfl rfl (evq (by decide) (evq (by decide) (evq (by decide) (eve (Nat.lt_of_lt_of_eq (by decide : 19 < 31) (szq (szq (szq z))).symm)))))) (fun wx hw => run_load rfl (evq (by decide) (evq (by decide) (evq (by decide) (evq (by decide) (evq (by decide) (evq (by decide) (evq (by decide) e2))))))) (list_load hw.2)) hS ?_
  refine gov_callv (i := 8) (d := (some 24)) (by kernel_rfl) rfl rfl (wanted_yes (e := 19) (b := false) rfl rfl (evq (by decide) (evq (by decide) (evq (by decide) (evq (by decide) (eve (Nat.lt_of_lt_of_eq (by decide : 19 < 31) (szq (szq (szq z))).symm))))))) rfl rfl Tryz.func111 (by kernel_rfl) rfl (args2 (evq (by decide) (eve (Nat.lt_of_lt_of_eq (by decide : 22 < 31) (szq (szq (szq (szq (szq (szq z)))))).symm))) (eve (Nat.lt_of_lt_of_eq (by decide : 23 < 31) (szq (szq (szq (szq (szq (szq (szq z))))))).symm))) gM ?_
  rintro e w4 ⟨rfl, hb4⟩
  have hS4 : w4.cell? ⟨w1.heap.size, 1, none⟩ = some (.int .i64 nx) ∧ ListCells w4 w1.heap.size ep nx (.slice ea es.length ec) := ⟨(hb4.cell (p := ⟨w1.heap.size, 1, none⟩) hLw3).trans HLC.out.2.1, hS.2.below hb4 hLw3⟩
  refine ⟨_, rfl, fun _ => hS4, ?_⟩
  clear hS
  have hS := hS4
  have k6 : w4.cell? ⟨F, 6, none⟩ = some (.bool false) := (hb4.cell (p := ⟨F, 6, none⟩) (show F < w3.heap.size by omega)).trans HF3.out.cells.2.2.2.2.2.2.1
  have kf : w4.frozen? ⟨F, 6, none⟩ = false := (hb4.frozen (p := ⟨F, 6, none⟩) (show F < w3.heap.size by omega)).trans (HF3.out.cells.2.2.2.2.2.2.2.1 6)
  refine gov_val (i := 9) (d := (some 25)) (by kernel_rfl) rfl rfl (wanted_yes (e := 19) (b := false) rfl rfl (evq (by decide) (evq (by decide) (evq (by decide) (evq (by decide) (evq (by decide) (eve (Nat.lt_of_lt_of_eq (by decide : 19 < 31) (szq (szq (szq z))).symm)))))))) (run_bin (v := .int .i64 nx) rfl (evq (by decide) (evq (by decide) (evq (by decide) (eve (Nat.lt_of_lt_of_eq (by decide : 21 < 31) (szq (szq (szq (szq (szq z))))).symm))))) (eve (Nat.lt_of_lt_of_eq (by decide : 24 < 31) (szq (szq (szq (szq (szq (szq (szq (szq z)))))))).symm)) (hadd _)) (fun _ => hS) ?_
  refine gov_val (i := 10) (d := (some 26)) (by kernel_rfl) rfl rfl (wanted_yes (e := 19) (b := false) rfl rfl (evq (by decide) (evq (by decide) (evq (by decide) (evq (by decide) (evq (by decide) (evq (by decide) (eve (Nat.lt_of_lt_of_eq (by decide : 19 < 31) (szq (szq (szq z))).symm))))))))) (run_bin (v := .int .i64 (nx - 1)) rfl (eve (Nat.lt_of_lt_of_eq (by decide : 25 < 31) (szq (szq (szq (szq (szq (szq (szq (szq (szq z))))))))).symm)) rfl (hsub _)) (fun _ => hS) ?_
  refine gov_val (i := 11) (d := (some 27)) (by kernel_rfl) rfl rfl (wanted_yes (e := 19) (b := false) rfl rfl (evq (by decide) (evq (by decide) (evq (by decide) (evq (by decide) (evq (by decide) (evq (by decide) (evq (by decide) (eve (Nat.lt_of_lt_of_eq (by decide : 19 < 31) (szq (szq (szq z))).symm)))))))))) (run_bin (v := .bool false) rfl (eve (Nat.lt_of_lt_of_eq (by decide : 26 < 31) (szq (szq (szq (szq (szq (szq (szq (szq (szq (szq z)))))))))).symm)) rfl (hgtr _)) (fun _ => hS) ?_
  refine gov_val (i := 12) (d := (some 28)) (by kernel_rfl) rfl rfl (wanted_all rfl) (run_pick (v := .bool false) rfl (evq (by decide) (evq (by decide) (evq (by decide) (evq (by decide) (evq (by decide) (evq (by decide) (evq (by decide) (evq (by decide) (eve (Nat.lt_of_lt_of_eq (by decide : 19 < 31) (szq (szq (szq z))).symm)))))))))) rfl (eve (Nat.lt_of_lt_of_eq (by decide : 27 < 31) (szq (szq (szq (szq (szq (szq (szq (szq (szq (szq (szq z))))))))))).symm)) rfl) (fun _ => hS) ?_
  refine gov_val (i := 13) (d := (some 29)) (by kernel_rfl) rfl rfl (wanted_all rfl) (run_nil rfl (evq (by decide) (evq (by decide) (evq (by decide) (evq (by decide) (evq (by decide) (evq (by decide) (evq (by decide) (evq (by decide) (evq (by decide) (evq (by decide) (evq (by decide) (evq (by decide) (eve (Nat.lt_of_lt_of_eq (by decide : 16 < 31) z.symm))))))))))))))) (fun _ => hS) ?_
  refine gov_val (i := 14) (d := (some 30)) (by kernel_rfl) rfl rfl (wanted_all rfl) (run_field (p' := ⟨F, 6, none⟩) rfl (eve (Nat.lt_of_lt_of_eq (by decide : 29 < 31) (szq (szq (szq (szq (szq (szq (szq (szq (szq (szq (szq (szq (szq z))))))))))))).symm)) (fun w => by kernel_rfl)) (fun _ => hS) ?_
  refine gov_store (i := 15) (w' := w4.setCell ⟨F, 6, none⟩ (.bool false)) (by kernel_rfl) rfl rfl rfl rfl (eve (Nat.lt_of_lt_of_eq (by decide : 30 < 31) (szq (szq (szq (szq (szq (szq (szq (szq (szq (szq (szq (szq (szq (szq z)))))))))))))).symm)) (evq (by decide) (evq (by decide) (eve (Nat.lt_of_lt_of_eq (by decide : 28 < 31) (szq (szq (szq (szq (szq (szq (szq (szq (szq (szq (szq (szq z)))))))))))).symm)))) (put1 (fun w h1 h2 => by simp [Instr.storeAt, go_sem, h1, h2]) k6 kf) (brk_no (by kernel_rfl)) ?_
  refine wpAnyV_done (by kernel_rfl) (hQ.out _ _ ?_) _
  rw [hA.out]
  simp only [Act.put, List.setIfInBounds_toArray]
  dsimp only [List.set]
  clear hQ hP hA z hS Q a' e0 e3 e2 
  have hb34 : Below w3.heap.size w3 w4 := ((Below.refl _ _).drew).trans hb4
  have hF4 := (hb34.block F (by omega)).trans hF3
  have hF5 : FdBlk (w4.setCell ⟨F, 6, none⟩ (.bool false)) F code text (.slice a xs.length cap) ep nx (.slice ea es.length ec) false := by
    have h5 := heap_set_in (o := 6) (.bool false) hF4
    unfold FdBlk
    simpa using h5
  have hsl5 : SlAt (w4.setCell ⟨F, 6, none⟩ (.bool false)) ea es := by
    rcases hsl3.below hb34 (Nat.le_refl _) with h | ⟨b, off, h1, h2, h3⟩
    · exact Or.inl h
    · have hbw := HNew.out b off h1
      have hf : ∀ o, (w4.setCell ⟨F, 6, none⟩ (.bool false)).cell? ⟨b, o, none⟩ = w4.cell? ⟨b, o, none⟩ := fun o => World.cell?_of_block (a := ⟨b, o, none⟩) (Below.heap_setCell _ _ _ _ (by show b ≠ F; omega))
      refine Or.inr ⟨b, off, h1, by simpa using h2, fun i x hx => ?_⟩
      obtain ⟨c0, c1, c2⟩ := h3 i x hx
      exact ⟨(hf _).trans c0, (hf _).trans c1, (hf _).trans c2⟩
  have HR := Lib.hid (And.intro hF5 (And.intro hsl5 ((hBt3.below hb34).setCell (p := ⟨F, 6, none⟩) (Or.inl rfl) (.bool false))))
  clear hF5 hsl5 hF4 hb34 hF3 far3 far3c hms3 hsl3 hBt3 gM hb4 hS4
  go_wp2_with fail
  go_end0
  exact ⟨rfl, ⟨ea, ec, HR.out.1, HR.out.2.1, HNew.out⟩, HR.out.2.2⟩
end Go.Proofs.YtamglanahpcedaaGreatDoor
