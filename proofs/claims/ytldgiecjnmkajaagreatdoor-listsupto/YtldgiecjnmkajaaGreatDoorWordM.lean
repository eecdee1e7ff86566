/-
  OWN TEXT: the step Write: the program's answer and the document's are the same, twice.
  OWN TEXT: the step Write, of a list that is there.
-/
import Derived.Test.YtldgiecjnmkajaaGreatDoorWordR
import Derived.Test.YtldgiecjnmkajaaGreatDoorLentM
import Derived.Deep.RegionWith
import Derived.Test.YtldgiecjnmkajaaGreatDoorMarkA
import Derived.Deep.RegionHeld3
namespace Go.Proofs.YtldgiecjnmkajaaGreatDoor
open Go.RowKit Go.Lib

/-- both answers to Write -/
theorem write_ans (e n : Int) (xs : List Mb.Ent) (hl : xs.length ≤ maxLen) (hf : ∀ x ∈ xs, x.flags.length ≤ maxLen) : ∃ (T : ByteArray) (E : Int),
    (∀ w a cap, Env w → SlAt w a xs → xs.length ≤ cap → Calls Tryz.prog 109 #[.agg #[.int .i64 e, .int .i64 n, .slice a xs.length cap]] w fun r w' => r = .returned (.tuple #[.string T, .int .i64 E]) ∧ Below w.heap.size w w') ∧
    (∀ w a cap, Env w → SlAt w a xs → xs.length ≤ cap → Calls Tryz.prog 110 #[.agg #[.int .i64 e, .int .i64 n, .slice a xs.length cap]] w fun r w' => r = .returned (.tuple #[.string T, .int .i64 E]) ∧ Below w.heap.size w w') := by
  by_cases h : Mb.listOk e n xs = true
  · exact ⟨_, 0, fun w a cap hE hs hc => mwrite_yes e n a cap xs w hE hs hl hc hf h, fun w a cap hE hs hc => rwrite_yes e n a cap xs w hE hs hl hc hf h⟩
  · have hno : Mb.listOk e n xs = false := by simpa using h
    exact ⟨_, 3, fun w a cap _ hs hc => mwrite_no e n a cap xs w hs hl hc hf hno, fun w a cap _ hs hc => rwrite_no e n a cap xs w hs hl hc hf hno⟩

theorem ents_left {W : World} {g off : Nat} {xs ys : List Mb.Ent} (h : EntsAt W g off (xs ++ ys)) : EntsAt W g off xs := by
  intro i x hx
  exact h i x (by rw [List.getElem?_append_left (List.getElem?_eq_some_iff.1 hx).1]; exact hx)

/-- the box of the caller's list -/
def lbox (e n : Int) (v : Value) : Obj := .cells #[.int .i64 e, .int .i64 n, v] 80

set_option maxHeartbeats 8000000 in
set_option maxRecDepth 100000 in
theorem words_write_nil {w0 W : World} {H : Obj} {N : Nat} {role : Nat → Nat} {D : Wd} (h : WL w0 H N 0 role D W) (hE0 : Env w0) (hv : D.v = .slice none 0 0) (a b : Int) (s t : ByteArray) :
    Calls Tryz.prog 59 #[.pointer (some ⟨w0.heap.size, 0, none⟩), .agg #[.int .i64 9, .int .i64 a, .int .i64 b, .string s, .string t]] W fun e w' => e = .returned (.bool true) ∧ WX w0 H N w' := by
  have hz := h.size
  obtain ⟨c0, -⟩ := h.cell 0 (.int .i64 D.e) rfl
  obtain ⟨c1, -⟩ := h.cell 1 (.int .i64 D.n) rfl
  obtain ⟨c2, -⟩ := h.cell 2 D.v rfl
  rw [hv] at c2
  have hEW : Env W := hE0.below h.low (Nat.le_refl _)
  obtain ⟨T, E, gM, gR⟩ := write_ans D.e D.n [] (by simp) (fun x hx => by cases hx)
  have ha : ∀ o, Below W.heap.size W (W.alloc o) := fun o => (Below.refl _ _).alloc (Nat.le_refl _) o
  have HX : Hid (∀ w', Below W.heap.size W w' → WX w0 H N w') := fun w' hb => ⟨role, D, h.below hb⟩
  have hnil : ∀ W, (binOp .eql 78 (.slice none 0 0) (.slice none 0 0)).run Tryz.prog W = .ok (.bool true) W := fun W => entry_nil none 0 0 W
  generalize D.e = e at *
  generalize D.n = n at *
  simp only [List.length_nil] at gM gR
  have HE := Lib.hid hEW
  have GM := Lib.hid gM
  have GR := Lib.hid gR
  have hK1 : ∀ o j x, W.cell? ⟨w0.heap.size, j, none⟩ = some x → (W.alloc o).cell? ⟨w0.heap.size, j, none⟩ = some x := fun o j x hx => (World.cell?_of_block (a := ⟨w0.heap.size, j, none⟩) (Go.heap_alloc_old W o (by show w0.heap.size < _; omega))).trans hx
  have d0 := fun o => hK1 o 0 _ c0
  have d1 := fun o => hK1 o 1 _ c1
  have d2 := fun o => hK1 o 2 _ c2
  have hK2 : ∀ o o' j x, W.cell? ⟨w0.heap.size, j, none⟩ = some x → ((W.alloc o).alloc o').cell? ⟨w0.heap.size, j, none⟩ = some x := fun o o' j x hx => (World.cell?_of_block (a := ⟨w0.heap.size, j, none⟩) (Go.heap_alloc_old (W.alloc o) o' (by show w0.heap.size < _; simp; omega))).trans (hK1 o j x hx)
  have e0 := fun o o' => hK2 o o' 0 _ c0
  have e1 := fun o o' => hK2 o o' 1 _ c1
  have e2 := fun o o' => hK2 o o' 2 _ c2
  clear h hv hEW gM gR hE0 hK1 hK2
  go_enter Tryz.func59, Tryz.ntmps59
  go_wp2_with fail
  go_at_call 108
  refine (lent_nil _).mono ?_
  rintro r w' ⟨rfl, hw'⟩
  subst w'
  go_wp2_with fail
  go_at_call 109
  have hb2 : Below W.heap.size W ((W.alloc (.cells #[.int .i64 9, .int .i64 a, .int .i64 b, .string s, .string t] 92)).alloc (.cells #[.int .i64 e, .int .i64 n, .slice none 0 0] 80)) := ((Below.refl _ _).alloc (Nat.le_refl _) _).alloc (by simp) _
  refine (GM.out _ none 0 (HE.out.below hb2 (Nat.le_refl _)) (Or.inl rfl) (Nat.le_refl _)).mono (fun r w3 hpost => ?_)
  obtain ⟨rfl, hb3⟩ := hpost
  have s3 := hb3.size
  simp at s3
  have B3 := hb2.trans (hb3.mono (by simp; omega))
  have p0 := (hb3.cell (p := ⟨W.heap.size + 1, 0, none⟩) (by simp)).trans (show _ = some (.int .i64 e) by simp)
  have p1 := (hb3.cell (p := ⟨W.heap.size + 1, 1, none⟩) (by simp)).trans (show _ = some (.int .i64 n) by simp)
  have p2 := (hb3.cell (p := ⟨W.heap.size + 1, 2, none⟩) (by simp)).trans (show _ = some (.slice none 0 0) by simp)
  have q0 := (B3.cell (p := ⟨w0.heap.size, 0, none⟩) (by simp; omega)).trans c0
  have q1 := (B3.cell (p := ⟨w0.heap.size, 1, none⟩) (by simp; omega)).trans c1
  have q2 := (B3.cell (p := ⟨w0.heap.size, 2, none⟩) (by simp; omega)).trans c2
  have HB3 := Lib.hid B3
  clear hb2 hb3 B3 d0 d1 d2 e0 e1 e2
  go_wp2_with fail
  go_at_call 110
  refine (GR.out _ none 0 (HE.out.below HB3.out (Nat.le_refl _)) (Or.inl rfl) (Nat.le_refl _)).mono (fun r w4 hpost => ?_)
  obtain ⟨rfl, hb4⟩ := hpost
  have s4 := hb4.size
  have HB4 := Lib.hid (HB3.out.trans (hb4.mono (by omega)))
  have hNE := Later.some w4.heap.size w4
  have p0' : ∀ z : Later w4.heap.size w4, z.w.cell? ⟨W.heap.size + 1, 0, none⟩ = some (.int .i64 e) := fun z => (z.h.cell (p := ⟨W.heap.size + 1, 0, none⟩) (by simp; omega)).trans ((hb4.cell (p := ⟨W.heap.size + 1, 0, none⟩) (by simp; omega)).trans p0)
  have p1' : ∀ z : Later w4.heap.size w4, z.w.cell? ⟨W.heap.size + 1, 1, none⟩ = some (.int .i64 n) := fun z => (z.h.cell (p := ⟨W.heap.size + 1, 1, none⟩) (by simp; omega)).trans ((hb4.cell (p := ⟨W.heap.size + 1, 1, none⟩) (by simp; omega)).trans p1)
  have p2' : ∀ z : Later w4.heap.size w4, z.w.cell? ⟨W.heap.size + 1, 2, none⟩ = some (.slice none 0 0) := fun z => (z.h.cell (p := ⟨W.heap.size + 1, 2, none⟩) (by simp; omega)).trans ((hb4.cell (p := ⟨W.heap.size + 1, 2, none⟩) (by simp; omega)).trans p2)
  have q2' : ∀ z : Later w4.heap.size w4, z.w.cell? ⟨w0.heap.size, 2, none⟩ = some (.slice none 0 0) := fun z => (z.h.cell (p := ⟨w0.heap.size, 2, none⟩) (by simp; omega)).trans ((hb4.cell (p := ⟨w0.heap.size, 2, none⟩) (by simp; omega)).trans q2)
  clear hb4 p0 p1 p2 q0 q1 q2 HB3
  go_upto_region 15 with fail
  refine wp_region_later w4.heap.size (by kernel_rfl) (by kernel_rfl) ?_
  repeat (go_big_quiet_step ((go_at_call 111; exact Later.calls_same _ (whole_nil _ _))))
  refine wpQuiet_nil ?_
  intro _ hw'
  obtain ⟨z, rfl⟩ := hw'
  have P0 := p0' z
  have P1 := p1' z
  have P2 := p2' z
  have hzs := z.h.size
  have HB5 := Lib.hid (HB4.out.trans (z.h.mono (by omega)))
  obtain ⟨j0, hj0, hy0, hy1, hy2⟩ := info_parts info_entry
  generalize z.w = w5 at *
  clear p0' p1' p2' q2' hNE HB4
  have a0 : ∀ o, (w5.alloc o).cell? ⟨W.heap.size + 1, 0, none⟩ = some (.int .i64 e) := fun o => (World.cell?_of_block (a := ⟨W.heap.size + 1, 0, none⟩) (Go.heap_alloc_old w5 o (by show W.heap.size + 1 < _; omega))).trans P0
  have a1 : ∀ o, (w5.alloc o).cell? ⟨W.heap.size + 1, 1, none⟩ = some (.int .i64 n) := fun o => (World.cell?_of_block (a := ⟨W.heap.size + 1, 1, none⟩) (Go.heap_alloc_old w5 o (by show W.heap.size + 1 < _; omega))).trans P1
  have a2 : ∀ o, (w5.alloc o).cell? ⟨W.heap.size + 1, 2, none⟩ = some (.slice none 0 0) := fun o => (World.cell?_of_block (a := ⟨W.heap.size + 1, 2, none⟩) (Go.heap_alloc_old w5 o (by show W.heap.size + 1 < _; omega))).trans P2
  go_wp2_with (at_builtin; refine wpList_append_new rfl (.const (.slice none 0 0)) (.tmp 114) 78 rfl 221 j0 _ 3 32 Tryz.underlying78 hj0 hy0 hy1 hy2 rfl (by decide) rfl (.slice none 0 0) rfl 0 [] rfl (Or.inl ⟨rfl, rfl⟩) (by simp) (by simp) (by decide) ?_)
  intro ua uc w6 ou gu
  have s6 : w5.heap.size + 1 ≤ w6.heap.size := by have := gu.size; simp at this; omega
  have hbx : Below w5.heap.size w5 (w5.alloc (.cells #[.int .i64 e, .int .i64 n, .slice none 0 0] 80)) := (Below.refl _ _).alloc (Nat.le_refl _) _
  have hb6 : Below w5.heap.size w5 w6 := hbx.trans ⟨gu.os, gu.tape, gu.output, gu.size, fun k hk => gu.block k (by simp; omega) (by simp)⟩
  have t0 := (gu.cell_far ⟨w5.heap.size, 0, none⟩ (by simp) (by simp)).trans (show _ = some (.int .i64 e) by simp)
  have t1 := (gu.cell_far ⟨w5.heap.size, 1, none⟩ (by simp) (by simp)).trans (show _ = some (.int .i64 n) by simp)
  have t2 := (gu.cell_far ⟨w5.heap.size, 2, none⟩ (by simp) (by simp)).trans (show _ = some (.slice none 0 0) by simp)
  have u2 := (gu.frozen_far ⟨w5.heap.size, 2, none⟩ (by simp) (by simp)).trans (show _ = false by simp)
  have v0 := (hb6.cell (p := ⟨W.heap.size + 1, 0, none⟩) (by simp; omega)).trans P0
  have v1 := (hb6.cell (p := ⟨W.heap.size + 1, 1, none⟩) (by simp; omega)).trans P1
  have v2 := (hb6.cell (p := ⟨W.heap.size + 1, 2, none⟩) (by simp; omega)).trans P2
  have hne : ¬ W.heap.size + 1 = w5.heap.size := by omega
  have HB6 := Lib.hid (HB5.out.trans (hb6.mono (by omega)))
  clear hbx hb6 gu ou a0 a1 a2 P0 P1 P2 HB5
  go_wp2_with fail
  go_at_call 109
  have HB7 : Hid (Below W.heap.size W (w6.setCell ⟨w5.heap.size, 2, none⟩ (.slice ua 0 uc))) := HB6.out.setCell (by simp; omega) _
  refine (GM.out _ none 0 (HE.out.below HB7.out (Nat.le_refl _)) (Or.inl rfl) (Nat.le_refl _)).mono (fun r w7 hpost => ?_)
  obtain ⟨rfl, hb7⟩ := hpost
  have s7 := hb7.size
  simp at s7
  have x0 := (hb7.cell (p := ⟨w5.heap.size, 0, none⟩) (by simp; omega)).trans ((World.cell?_setCell_other _ _ _ _ (by simp)).trans t0)
  have x1 := (hb7.cell (p := ⟨w5.heap.size, 1, none⟩) (by simp; omega)).trans ((World.cell?_setCell_other _ _ _ _ (by simp)).trans t1)
  have x2 := (hb7.cell (p := ⟨w5.heap.size, 2, none⟩) (by simp; omega)).trans (World.cell?_setCell_same w6 ⟨w5.heap.size, 2, none⟩ (.slice ua 0 uc) t2)
  have HB8 := Lib.hid (HB7.out.trans (hb7.mono (by simp; omega)))
  clear hb7 t0 t1 t2 u2 v0 v1 v2 HB6 HB7
  go_wp2_with fail
  go_at_call 110
  refine (GR.out _ ua uc (HE.out.below HB8.out (Nat.le_refl _)) (Or.inl rfl) (Nat.zero_le _)).mono (fun r w8 hpost => ?_)
  obtain ⟨rfl, hb8⟩ := hpost
  have HB9 := Lib.hid (HB8.out.trans (hb8.mono (by omega)))
  have gN := num_any E
  clear hb8 x0 x1 x2 HB8
  go_wp2_with (first | (go_at_call 53; refine (gN _).mono ?_; rintro r w' ⟨rfl, rfl⟩))
  go_ret
  exact ⟨rfl, HX.out _ HB9.out⟩

end Go.Proofs.YtldgiecjnmkajaaGreatDoor
namespace Go.Proofs.YtldgiecjnmkajaaGreatDoor
open Go.RowKit Go.Lib

theorem ents_block {W W' : World} {g off : Nat} {xs : List Mb.Ent} (h : EntsAt W g off xs) (hb : W'.heap[g]? = W.heap[g]?) : EntsAt W' g off xs := by
  intro i x hx
  obtain ⟨c0, c1, c2⟩ := h i x hx
  have hk : ∀ o, W'.cell? ⟨g, o, none⟩ = W.cell? ⟨g, o, none⟩ := fun o => World.cell?_of_block (a := ⟨g, o, none⟩) hb
  exact ⟨(hk _).trans c0, (hk _).trans c1, (hk _).trans c2⟩

set_option maxHeartbeats 8000000 in
set_option maxRecDepth 100000 in
theorem words_write_some {w0 W : World} {H : Obj} {N : Nat} {role : Nat → Nat} {D : Wd} (h : WL w0 H N 0 role D W) (hE0 : Env w0) (hN : N ≤ 2097152) (g cap : Nat) (hv : D.v = .slice (some ⟨g, 0, none⟩) D.es.length cap) (hcap : D.es.length ≤ cap) (a b : Int) (s t : ByteArray) :
    Calls Tryz.prog 59 #[.pointer (some ⟨w0.heap.size, 0, none⟩), .agg #[.int .i64 9, .int .i64 a, .int .i64 b, .string s, .string t]] W fun e w' => e = .returned (.bool true) ∧ WX w0 H N w' := by
  have hz := h.size
  obtain ⟨c0, -⟩ := h.cell 0 (.int .i64 D.e) rfl
  obtain ⟨c1, -⟩ := h.cell 1 (.int .i64 D.n) rfl
  obtain ⟨c2, -⟩ := h.cell 2 D.v rfl
  rw [hv] at c2
  have hEW : Env W := hE0.below h.low (Nat.le_refl _)
  have hnv := h.nv
  have hfv := h.fv
  obtain ⟨T, E, gM, gR⟩ := write_ans D.e D.n D.es (by unfold maxLen; omega) (fun x hx => by have := hfv x hx; unfold maxLen; omega)
  obtain ⟨T2, E2, gM2, gR2⟩ := write_ans D.e D.n (List.replicate D.es.length spoE) (by rw [List.length_replicate]; unfold maxLen; omega) (fun x hx => by rw [(List.mem_replicate.1 hx).2]; decide)
  simp only [List.length_replicate] at gM2 gR2
  have hov := h.ov
  rw [hv] at hov
  have hgl : g < W.heap.size := (hov.lt g rfl).2.1
  have hgB : w0.heap.size + 2 ≤ g := (hov.lt g rfl).1
  have hents : EntsAt W g 0 D.es := cells_ents (hov.1.cells rfl)
  have HX : Hid (∀ w', Below W.heap.size W w' → WX w0 H N w') := fun w' hb => ⟨role, D, h.below hb⟩
  generalize D.e = e at *
  generalize D.n = n at *
  generalize hes : D.es = es at *
  have hX4 : es.length ≤ 4194304 := by omega
  have HE := Lib.hid hEW
  have GM := Lib.hid gM
  have GR := Lib.hid gR
  have GM2 := Lib.hid gM2
  have GR2 := Lib.hid gR2
  have HEN := Lib.hid hents
  have hK1 : ∀ o j x, W.cell? ⟨w0.heap.size, j, none⟩ = some x → (W.alloc o).cell? ⟨w0.heap.size, j, none⟩ = some x := fun o j x hx => (World.cell?_of_block (a := ⟨w0.heap.size, j, none⟩) (Go.heap_alloc_old W o (by show w0.heap.size < _; omega))).trans hx
  have d0 := fun o => hK1 o 0 _ c0
  have d1 := fun o => hK1 o 1 _ c1
  have d2 := fun o => hK1 o 2 _ c2
  have hK2 : ∀ o o' j x, W.cell? ⟨w0.heap.size, j, none⟩ = some x → ((W.alloc o).alloc o').cell? ⟨w0.heap.size, j, none⟩ = some x := fun o o' j x hx => (World.cell?_of_block (a := ⟨w0.heap.size, j, none⟩) (Go.heap_alloc_old (W.alloc o) o' (by show w0.heap.size < _; simp; omega))).trans (hK1 o j x hx)
  have e2 := fun o o' => hK2 o o' 2 _ c2
  clear h hv hEW gM gR gM2 gR2 hE0 hK1 hK2 hov hents hfv hnv hes
  go_enter Tryz.func59, Tryz.ntmps59
  go_wp2_with fail
  go_at_call 108
  have hb2 : Below W.heap.size W ((W.alloc (.cells #[.int .i64 9, .int .i64 a, .int .i64 b, .string s, .string t] 92)).alloc (.cells #[.int .i64 e, .int .i64 n, .slice (some ⟨g, 0, none⟩) es.length cap] 80)) := ((Below.refl _ _).alloc (Nat.le_refl _) _).alloc (by simp) _
  refine (lent_some g cap es _ (by simp; omega) (ents_block HEN.out (hb2.block g hgl)) hX4).mono (fun r w3 hpost => ?_)
  obtain ⟨rfl, hb3, hm3⟩ := hpost
  have s3 := hb3.size
  have hsz2 : ((W.alloc (.cells #[.int .i64 9, .int .i64 a, .int .i64 b, .string s, .string t] 92)).alloc (.cells #[.int .i64 e, .int .i64 n, .slice (some ⟨g, 0, none⟩) es.length cap] 80)).heap.size = W.heap.size + 2 := by simp
  rw [hsz2] at s3 hm3 ⊢
  have B3 := hb2.trans (hb3.mono (by simp; omega))
  have p0 := (hb3.cell (p := ⟨W.heap.size + 1, 0, none⟩) (by simp)).trans (show _ = some (.int .i64 e) by simp)
  have p1 := (hb3.cell (p := ⟨W.heap.size + 1, 1, none⟩) (by simp)).trans (show _ = some (.int .i64 n) by simp)
  have p2 := (hb3.cell (p := ⟨W.heap.size + 1, 2, none⟩) (by simp)).trans (show _ = some (.slice (some ⟨g, 0, none⟩) es.length cap) by simp)
  have f2 := (hb3.frozen (p := ⟨W.heap.size + 1, 2, none⟩) (by simp)).trans (show _ = false by simp)
  have hMs : W.heap.size + 2 < w3.heap.size := (Array.getElem?_eq_some_iff.1 hm3).1
  have HM3 := Lib.hid hm3
  have HB3 := Lib.hid B3
  clear hb2 hb3 B3 d0 d1 d2 e2 hm3 hsz2
  go_wp2_with fail
  go_at_call 109
  have HB3' : Hid (Below W.heap.size W (w3.setCell ⟨W.heap.size + 1, 2, none⟩ (.slice (some ⟨W.heap.size + 2, 0, none⟩) es.length (es.length + 8)))) := HB3.out.setCell (by simp) _
  have HM3' : Hid ((w3.setCell ⟨W.heap.size + 1, 2, none⟩ (.slice (some ⟨W.heap.size + 2, 0, none⟩) es.length (es.length + 8))).heap[W.heap.size + 2]? = some (.cells (entCells (es ++ List.replicate 8 beyE)).toArray 221 (0, 0))) := (Below.heap_setCell _ _ _ _ (by simp)).trans HM3.out
  refine (GM.out _ (some ⟨W.heap.size + 2, 0, none⟩) (es.length + 8) (HE.out.below HB3'.out (Nat.le_refl _)) (Or.inr ⟨W.heap.size + 2, 0, rfl, by simpa using hMs, ents_left (ent_read HM3'.out)⟩) (by omega)).mono (fun r w4 hpost => ?_)
  obtain ⟨rfl, hb4⟩ := hpost
  have s4 := hb4.size
  simp at s4
  have HB4 := Lib.hid (HB3'.out.trans (hb4.mono (by simp; omega)))
  have HM4 := Lib.hid ((hb4.block (W.heap.size + 2) (by simpa using hMs)).trans HM3'.out)
  have r0 := (hb4.cell (p := ⟨W.heap.size + 1, 0, none⟩) (by simp; omega)).trans ((World.cell?_setCell_other _ _ _ _ (by simp)).trans p0)
  have r1 := (hb4.cell (p := ⟨W.heap.size + 1, 1, none⟩) (by simp; omega)).trans ((World.cell?_setCell_other _ _ _ _ (by simp)).trans p1)
  have r2 := (hb4.cell (p := ⟨W.heap.size + 1, 2, none⟩) (by simp; omega)).trans (World.cell?_setCell_same w3 ⟨W.heap.size + 1, 2, none⟩ (.slice (some ⟨W.heap.size + 2, 0, none⟩) es.length (es.length + 8)) p2)
  have q0 := (HB4.out.cell (p := ⟨w0.heap.size, 0, none⟩) (by simp; omega)).trans c0
  have q1 := (HB4.out.cell (p := ⟨w0.heap.size, 1, none⟩) (by simp; omega)).trans c1
  have q2 := (HB4.out.cell (p := ⟨w0.heap.size, 2, none⟩) (by simp; omega)).trans c2
  clear hb4 p0 p1 p2 f2 HB3 HB3' HM3 HM3'
  go_wp2_with fail
  go_at_call 110
  refine (GR.out _ (some ⟨g, 0, none⟩) cap (HE.out.below HB4.out (Nat.le_refl _)) (Or.inr ⟨g, 0, rfl, by have := HB4.out.size; omega, ents_block HEN.out (HB4.out.block g hgl)⟩) hcap).mono (fun r w5 hpost => ?_)
  obtain ⟨rfl, hb5⟩ := hpost
  have s5 := hb5.size
  have HB5 := Lib.hid (HB4.out.trans (hb5.mono (by omega)))
  have HM5 := Lib.hid ((hb5.block (W.heap.size + 2) (by omega)).trans HM4.out)
  replace r0 := (hb5.cell (p := ⟨W.heap.size + 1, 0, none⟩) (by simp; omega)).trans r0
  replace r1 := (hb5.cell (p := ⟨W.heap.size + 1, 1, none⟩) (by simp; omega)).trans r1
  replace r2 := (hb5.cell (p := ⟨W.heap.size + 1, 2, none⟩) (by simp; omega)).trans r2
  replace q2 := (hb5.cell (p := ⟨w0.heap.size, 2, none⟩) (by simp; omega)).trans q2
  have hgM : g ≠ W.heap.size + 2 := by omega
  have gW := whole_some (W.heap.size + 2) g cap es w5.drew HM5.out hgM (by show g < w5.heap.size; omega) (ents_block HEN.out (HB5.out.block g hgl)) hX4 hcap
  clear hb5 q0 q1 HB4 HM4
  have hlM : (W.heap.size + 1 : Nat) ≠ W.heap.size + 2 := by omega
  have hKM : w0.heap.size ≠ W.heap.size + 2 := by omega
  go_wp2_with fail
  go_region_held3 (fun w' => w'.cell? ⟨W.heap.size + 1, 2, none⟩ = some (.slice (some ⟨W.heap.size + 2, 0, none⟩) es.length (es.length + 8)) ∧ w'.cell? ⟨w0.heap.size, 2, none⟩ = some (.slice (some ⟨g, 0, none⟩) es.length cap)) (go_keep)
    (first | (go_at_call 111; refine gW.mono ?_; rintro r w6 ⟨rfl, hc6, hm6⟩; have k2 := (hc6.cell (p := ⟨W.heap.size + 1, 2, none⟩) (by show W.heap.size + 1 < w5.heap.size; omega) (by rw [only_not hlM]; omega)).trans r2; have k3 := (hc6.cell (p := ⟨w0.heap.size, 2, none⟩) (by show w0.heap.size < w5.heap.size; omega) (by rw [only_not hKM]; omega)).trans q2))
  have s6 : w5.heap.size ≤ w6.heap.size := hc6.size
  have k0 := (hc6.cell (p := ⟨W.heap.size + 1, 0, none⟩) (by show W.heap.size + 1 < w5.heap.size; omega) (by rw [only_not hlM]; omega)).trans r0
  have k1 := (hc6.cell (p := ⟨W.heap.size + 1, 1, none⟩) (by show W.heap.size + 1 < w5.heap.size; omega) (by rw [only_not hlM]; omega)).trans r1
  have hb56 : Below W.heap.size w5 w6 := ⟨hc6.os, hc6.tape, hc6.output, hc6.size, fun k hk => hc6.block k (by show k < w5.heap.size; omega) (by rw [only_not (by omega)]; omega)⟩
  have HB6 := Lib.hid (HB5.out.trans hb56)
  have hm6' : w6.heap[W.heap.size + 2]? = some (.cells (entCells (List.replicate es.length spoE ++ List.replicate 8 spoE)).toArray 221 (0, 0)) := by
    rw [List.replicate_append_replicate]
    exact hm6
  have HM6 := Lib.hid hm6'
  have hn6 : EntsAt w6 (W.heap.size + 2) 0 (List.replicate es.length spoE) := ents_left (ent_read hm6')
  have hMs6 : W.heap.size + 2 < w6.heap.size := by omega
  have HEN6 := Lib.hid hn6
  have hv6 : ∀ o, (es.length = 0 ∧ Value.slice (some ⟨W.heap.size + 2, 0, none⟩) es.length (es.length + 8) = .slice none 0 0) ∨ ∃ ad c, Value.slice (some ⟨W.heap.size + 2, 0, none⟩) es.length (es.length + 8) = .slice (some ad) es.length c ∧ ∀ j u, (entCells (List.replicate es.length spoE))[j]? = some u → (w6.alloc o).cell? (ad.add j) = some u := by
    intro o
    refine Or.inr ⟨⟨W.heap.size + 2, 0, none⟩, es.length + 8, rfl, fun j u hj => ?_⟩
    have hb : (w6.alloc o).heap[W.heap.size + 2]? = _ := (Go.heap_alloc_old w6 o hMs6).trans hm6'
    have hj2 : (entCells (List.replicate es.length spoE ++ List.replicate 8 spoE))[j]? = some u := by
      rw [entCells_append, List.getElem?_append_left (List.getElem?_eq_some_iff.1 hj).1]
      exact hj
    exact World.news_of_block hb j u hj2
  obtain ⟨j0, hj0, hy0, hy1, hy2⟩ := info_parts info_entry
  clear hc6 hm6 hm6' hn6 hb56 r0 r1 r2 q2 gW HB5 HM5 k3
  have a0 : ∀ o, (w6.alloc o).cell? ⟨W.heap.size + 1, 0, none⟩ = some (.int .i64 e) := fun o => (World.cell?_of_block (a := ⟨W.heap.size + 1, 0, none⟩) (Go.heap_alloc_old w6 o (by show W.heap.size + 1 < _; omega))).trans k0
  have a1 : ∀ o, (w6.alloc o).cell? ⟨W.heap.size + 1, 1, none⟩ = some (.int .i64 n) := fun o => (World.cell?_of_block (a := ⟨W.heap.size + 1, 1, none⟩) (Go.heap_alloc_old w6 o (by show W.heap.size + 1 < _; omega))).trans k1
  have a2 : ∀ o, (w6.alloc o).cell? ⟨W.heap.size + 1, 2, none⟩ = some (.slice (some ⟨W.heap.size + 2, 0, none⟩) es.length (es.length + 8)) := fun o => (World.cell?_of_block (a := ⟨W.heap.size + 1, 2, none⟩) (Go.heap_alloc_old w6 o (by show W.heap.size + 1 < _; omega))).trans k2
  go_wp2_with (at_builtin; refine wpList_append_new rfl (.const (.slice none 0 0)) (.tmp 114) 78 rfl 221 j0 _ 3 32 Tryz.underlying78 hj0 hy0 hy1 hy2 rfl (by decide) rfl (.slice (some ⟨W.heap.size + 2, 0, none⟩) es.length (es.length + 8)) rfl es.length (entCells (List.replicate es.length spoE)) (by rw [entCells_len, List.length_replicate]) (hv6 _) (ents_onecell _) (by unfold maxLen; omega) (by omega) ?_)
  intro ua uc w7 ou gu
  have s7 : w6.heap.size + 1 ≤ w7.heap.size := by have := gu.size; simp at this; omega
  have hbx : Below w6.heap.size w6 (w6.alloc (.cells #[.int .i64 e, .int .i64 n, .slice (some ⟨W.heap.size + 2, 0, none⟩) es.length (es.length + 8)] 80)) := (Below.refl _ _).alloc (Nat.le_refl _) _
  have hb7 : Below w6.heap.size w6 w7 := hbx.trans ⟨gu.os, gu.tape, gu.output, gu.size, fun k hk => gu.block k (by simp; omega) (by simp)⟩
  have t0 := (gu.cell_far ⟨w6.heap.size, 0, none⟩ (by simp) (by simp)).trans (show _ = some (.int .i64 e) by simp)
  have t1 := (gu.cell_far ⟨w6.heap.size, 1, none⟩ (by simp) (by simp)).trans (show _ = some (.int .i64 n) by simp)
  have t2 := (gu.cell_far ⟨w6.heap.size, 2, none⟩ (by simp) (by simp)).trans (show _ = some (.slice (some ⟨W.heap.size + 2, 0, none⟩) es.length (es.length + 8)) by simp)
  have u2 := (gu.frozen_far ⟨w6.heap.size, 2, none⟩ (by simp) (by simp)).trans (show _ = false by simp)
  have v0 := (hb7.cell (p := ⟨W.heap.size + 1, 0, none⟩) (by simp; omega)).trans k0
  have v1 := (hb7.cell (p := ⟨W.heap.size + 1, 1, none⟩) (by simp; omega)).trans k1
  have v2 := (hb7.cell (p := ⟨W.heap.size + 1, 2, none⟩) (by simp; omega)).trans k2
  have hne : ¬ W.heap.size + 1 = w6.heap.size := by omega
  have HB7 := Lib.hid (HB6.out.trans (hb7.mono (by omega)))
  have HN7 := Lib.hid (ents_block HEN6.out (hb7.block _ hMs6))
  have HOU := Lib.hid ou
  clear hbx hb7 gu ou a0 a1 a2 k0 k1 k2 HB6 hv6 HEN6 HM6
  go_wp2_with fail
  go_at_call 109
  have HB7' : Hid (Below W.heap.size W (w7.setCell ⟨w6.heap.size, 2, none⟩ (.slice ua es.length uc))) := HB7.out.setCell (by simp; omega) _
  have HN7' : Hid (EntsAt (w7.setCell ⟨w6.heap.size, 2, none⟩ (.slice ua es.length uc)) (W.heap.size + 2) 0 (List.replicate es.length spoE)) := ents_block HN7.out (Below.heap_setCell _ _ _ _ (by simp; omega))
  refine (GM2.out _ (some ⟨W.heap.size + 2, 0, none⟩) (es.length + 8) (HE.out.below HB7'.out (Nat.le_refl _)) (Or.inr ⟨W.heap.size + 2, 0, rfl, by simp; omega, HN7'.out⟩) (by omega)).mono (fun r w8 hpost => ?_)
  obtain ⟨rfl, hb8⟩ := hpost
  have s8 := hb8.size
  simp at s8
  have x0 := (hb8.cell (p := ⟨w6.heap.size, 0, none⟩) (by simp; omega)).trans ((World.cell?_setCell_other _ _ _ _ (by simp)).trans t0)
  have x1 := (hb8.cell (p := ⟨w6.heap.size, 1, none⟩) (by simp; omega)).trans ((World.cell?_setCell_other _ _ _ _ (by simp)).trans t1)
  have x2 := (hb8.cell (p := ⟨w6.heap.size, 2, none⟩) (by simp; omega)).trans (World.cell?_setCell_same w7 ⟨w6.heap.size, 2, none⟩ (.slice ua es.length uc) t2)
  have HB8 := Lib.hid (HB7'.out.trans (hb8.mono (by simp; omega)))
  have hO8 := owns_below (owns_set HOU.out (M := w6.heap.size) (o := 2) (fun e => by have := (HOU.out.lt _ e).1; omega) (.slice ua es.length uc)) hb8
  obtain ⟨y1, y2, _⟩ := slAt_of_owns hO8 (by rw [List.length_replicate])
  have HY := Lib.hid y1
  clear hb8 t0 t1 t2 u2 v0 v1 v2 HB7 HB7' HN7 HN7' HOU hO8 y1
  go_wp2_with fail
  go_at_call 110
  refine (GR2.out _ ua uc (HE.out.below HB8.out (Nat.le_refl _)) HY.out y2).mono (fun r w9 hpost => ?_)
  obtain ⟨rfl, hb9⟩ := hpost
  have HB9 := Lib.hid (HB8.out.trans (hb9.mono (by omega)))
  have gN := num_any E
  have gN2 := num_any E2
  clear hb9 x0 x1 x2 HB8
  go_wp2_with (first | (go_at_call_of 53 (E); refine (gN _).mono ?_; rintro r w' ⟨rfl, rfl⟩) | (go_at_call_of 53 (E2); refine (gN2 _).mono ?_; rintro r w' ⟨rfl, rfl⟩))
  go_ret
  exact ⟨rfl, HX.out _ HB9.out⟩

/-- the step Write -/
theorem words_writeL {w0 W : World} {H : Obj} {N : Nat} (hX : WX w0 H N W) (hE0 : Env w0) (hN : N ≤ 2097152) (a b : Int) (s t : ByteArray) :
    Calls Tryz.prog 59 #[.pointer (some ⟨w0.heap.size, 0, none⟩), .agg #[.int .i64 9, .int .i64 a, .int .i64 b, .string s, .string t]] W fun e w' => e = .returned (.bool true) ∧ WX w0 H N w' := by
  obtain ⟨role, D, h⟩ := hX
  rcases h.ov.1.2 with ⟨e1, _⟩ | ⟨g, cap, cur, e1, _, _, e4, _⟩
  · exact words_write_nil h hE0 e1 a b s t
  · exact words_write_some h hE0 hN g cap e1 e4 a b s t

end Go.Proofs.YtldgiecjnmkajaaGreatDoor
