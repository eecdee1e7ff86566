/-
  OWN TEXT: a message that comes in to a folder.
  OWN TEXT: Folder.Add.
-/
import Derived.Test.YtamglanahpcedaaGreatDoorFolderM
import Derived.Test.YtamglanahpcedaaGreatDoorDiskKO
namespace Go.Proofs.YtamglanahpcedaaGreatDoor
open Go.RowKit Go.Lib

/-- all but one block and one row is as it was -/
structure But (K : Nat) (row : Option Nat) (w w' : World) : Prop where
  os : w'.os = w.os
  tape : w'.tape = w.tape
  output : w'.output = w.output
  size : w.heap.size ≤ w'.heap.size
  block : ∀ b, b < w.heap.size → b ≠ K → row ≠ some b → w'.heap[b]? = w.heap[b]?
theorem But.of_below {K : Nat} {row : Option Nat} {w w' : World} (h : Below w.heap.size w w') : But K row w w' := ⟨h.os, h.tape, h.output, h.size, fun b hb _ _ => h.block b hb⟩
theorem But.row {K : Nat} (row : Option Nat) {w w' : World} (h : But K none w w') : But K row w w' := ⟨h.os, h.tape, h.output, h.size, fun b h1 h2 _ => h.block b h1 h2 (by simp)⟩
theorem But.below {K : Nat} {row : Option Nat} {w w1 w2 : World} (h : But K row w w1) (k : Below w1.heap.size w1 w2) : But K row w w2 := ⟨k.os.trans h.os, k.tape.trans h.tape, k.output.trans h.output, Nat.le_trans h.size k.size, fun b hb h1 h2 => (k.block b (Nat.lt_of_lt_of_le hb h.size)).trans (h.block b hb h1 h2)⟩
theorem But.setCell {K : Nat} {row : Option Nat} {w w1 : World} (h : But K row w w1) {p : Addr} (hp : p.block = K ∨ w.heap.size ≤ p.block) (u : Value) : But K row w (w1.setCell p u) := by
  have hb := (Below.refl 0 w1).setCell (p := p) (Nat.zero_le _) u
  refine ⟨hb.os.trans h.os, hb.tape.trans h.tape, hb.output.trans h.output, by simpa using h.size, fun b h1 h2 h3 => (Below.heap_setCell _ _ _ _ ?_).trans (h.block b h1 h2 h3)⟩
  rintro rfl
  rcases hp with h4 | h4
  · exact h2 h4
  · omega
theorem But.grown {K : Nat} {row : Option Nat} {w w1 w2 : World} (h : But K row w w1) (hg : w1.grownBy w2 row) : But K row w w2 := by
  have hb := (Below.refl 0 w1).grown hg (Nat.zero_le _) (fun _ _ => Nat.zero_le _)
  exact ⟨hb.os.trans h.os, hb.tape.trans h.tape, hb.output.trans h.output, Nat.le_trans h.size hg.size, fun b h1 h2 h3 => (hg.block b (Nat.lt_of_lt_of_le h1 h.size) (Ne.symm h3)).trans (h.block b h1 h2 h3)⟩

theorem msg_load {P : Nat} {key uid : Int} {fl cm tx : ByteArray} {w : World} {fr : Nat × Nat} (h : w.heap[P]? = some (.cells #[.int .i64 key, .int .i64 uid, .string fl, .string cm, .string tx] 130 fr)) :
    (Instr.loadAt 130 (.pointer (some ⟨P, 0, none⟩))).run Tryz.prog w = .ok (.agg #[.int .i64 key, .int .i64 uid, .string fl, .string cm, .string tx]) w := by
  have c0 : w.cell? ⟨P, 0, none⟩ = some (.int .i64 key) := by simp [World.cell?, h]
  have c1 : w.cell? ⟨P, 1, none⟩ = some (.int .i64 uid) := by simp [World.cell?, h]
  have c2 : w.cell? ⟨P, 2, none⟩ = some (.string fl) := by simp [World.cell?, h]
  have c3 : w.cell? ⟨P, 3, none⟩ = some (.string cm) := by simp [World.cell?, h]
  have c4 : w.cell? ⟨P, 4, none⟩ = some (.string tx) := by simp [World.cell?, h]
  go_simp
theorem msg_build {key uid : Int} {fl cm tx : ByteArray} {w : World} :
    (Instr.buildSlice 126 1 #[(0, .agg #[.int .i64 key, .int .i64 uid, .string fl, .string cm, .string tx])]).run Tryz.prog w = .ok (.slice (some ⟨w.heap.size, 0, none⟩) 1 1) (w.alloc (.cells #[.int .i64 key, .int .i64 uid, .string fl, .string cm, .string tx] 130)) := by
  go_simp

/-- five cells written -/
abbrev set5 (w : World) (R : Nat) (v0 v1 v2 v3 v4 : Value) : World := ((((w.setCell ⟨R, 0, none⟩ v0).setCell ⟨R, 1, none⟩ v1).setCell ⟨R, 2, none⟩ v2).setCell ⟨R, 3, none⟩ v3).setCell ⟨R, 4, none⟩ v4
theorem set5_at {w : World} {R : Nat} {u0 u1 u2 u3 u4 : Value} {t : TypeId} {fr : Nat × Nat} (h : w.heap[R]? = some (.cells #[u0, u1, u2, u3, u4] t fr)) (v0 v1 v2 v3 v4 : Value) : (set5 w R v0 v1 v2 v3 v4).heap[R]? = some (.cells #[v0, v1, v2, v3, v4] t fr) := by
  have h5 := heap_set_in (o := 4) v4 (heap_set_in (o := 3) v3 (heap_set_in (o := 2) v2 (heap_set_in (o := 1) v1 (heap_set_in (o := 0) v0 h))))
  simpa using h5
theorem set5_far (w : World) {R b : Nat} (h : b ≠ R) (v0 v1 v2 v3 v4 : Value) : (set5 w R v0 v1 v2 v3 v4).heap[b]? = w.heap[b]? :=
  (Below.heap_setCell _ _ _ _ h).trans ((Below.heap_setCell _ _ _ _ h).trans ((Below.heap_setCell _ _ _ _ h).trans ((Below.heap_setCell _ _ _ _ h).trans (Below.heap_setCell _ _ _ _ h))))
theorem But.set5 {K : Nat} {row : Option Nat} {w w1 : World} (h : But K row w w1) {R : Nat} (hp : w.heap.size ≤ R) (v0 v1 v2 v3 v4 : Value) : But K row w (set5 w1 R v0 v1 v2 v3 v4) :=
  ((((h.setCell (Or.inr hp) v0).setCell (Or.inr hp) v1).setCell (Or.inr hp) v2).setCell (Or.inr hp) v3).setCell (Or.inr hp) v4

set_option maxRecDepth 100000 in
set_option maxHeartbeats 2000000 in
theorem append_any {w : World} {K B : Nat} {name code : ByteArray} {ep nx : Int} {v : Value} {xs : List Mb.Ms} (h : FoBlk w K name code ep nx v) (ho : OwnM w B v xs) (hB : B ≤ w.heap.size) (hne : v.ownBlock ≠ some K) (hl : xs.length ≤ 1048576) (hn0 : 0 ≤ nx) (hn1 : nx ≤ 99) (key uid : Int) (fl cm tx : ByteArray) :
    Calls Tryz.prog 80 #[.pointer (some ⟨K, 0, none⟩), .agg #[.int .i64 key, .int .i64 uid, .string fl, .string cm, .string tx]] w fun e w' => e = .returned (.agg #[.int .i64 key, .int .i64 nx, .string fl, .string cm, .string tx]) ∧ ∃ g cap, FoBlk w' K name code ep (nx + 1) (.slice (some ⟨g, 0, none⟩) (xs.length + 1) cap) ∧ OwnM w' B (.slice (some ⟨g, 0, none⟩) (xs.length + 1) cap) (xs ++ [⟨key, nx, fl.data.toList, cm.data.toList, tx.data.toList⟩]) ∧ (v.ownBlock = some g ∨ w.heap.size ≤ g) ∧ But K v.ownBlock w w' := by
  obtain ⟨d0, d1, d2, d3, d4, df, hK⟩ := h.cells
  have hd3 := df 3
  obtain ⟨va, vc, rfl, _⟩ := own_form2 ho
  generalize hnn : xs.length = n at *
  have Hh := Lib.hid h
  have Ho := Lib.hid ho
  have hw1 : IntKind.i64.wrap (nx + 1) = nx + 1 := IntWalk.i64_in _ (by omega)
  clear h ho
  go_enter Tryz.func80, Tryz.ntmps80
  go_wp2_with fail
  have hs2 : (((w.setCell ⟨K, 3, none⟩ (.int .i64 (nx + 1))).alloc (.cells #[.int .i64 key, .int .i64 nx, .string fl, .string cm, .string tx] 130)).alloc (.cells #[.int .i64 0, .int .i64 0, .string ⟨#[]⟩, .string ⟨#[]⟩, .string ⟨#[]⟩] 130)).heap.size = w.heap.size + 2 := by simp
  have hF2 : FoBlk (((w.setCell ⟨K, 3, none⟩ (.int .i64 (nx + 1))).alloc (.cells #[.int .i64 key, .int .i64 nx, .string fl, .string cm, .string tx] 130)).alloc (.cells #[.int .i64 0, .int .i64 0, .string ⟨#[]⟩, .string ⟨#[]⟩, .string ⟨#[]⟩] 130)) K name code ep (nx + 1) (.slice va n vc) := by
    have h1 := heap_set_in (o := 3) (.int .i64 (nx + 1)) Hh.out
    exact (Go.heap_alloc_old _ _ (by simp; omega)).trans ((Go.heap_alloc_old _ _ (by simpa using hK)).trans (by simpa using h1))
  have hP2 : (((w.setCell ⟨K, 3, none⟩ (.int .i64 (nx + 1))).alloc (.cells #[.int .i64 key, .int .i64 nx, .string fl, .string cm, .string tx] 130)).alloc (.cells #[.int .i64 0, .int .i64 0, .string ⟨#[]⟩, .string ⟨#[]⟩, .string ⟨#[]⟩] 130)).heap[w.heap.size]? = some (.cells #[.int .i64 key, .int .i64 nx, .string fl, .string cm, .string tx] 130 (0, 0)) := by
    have h1 := heap_alloc_new (w.setCell ⟨K, 3, none⟩ (.int .i64 (nx + 1))) (.cells #[.int .i64 key, .int .i64 nx, .string fl, .string cm, .string tx] 130)
    exact (Go.heap_alloc_old _ _ (by simp)).trans (by simpa using h1)
  have hR2 : (((w.setCell ⟨K, 3, none⟩ (.int .i64 (nx + 1))).alloc (.cells #[.int .i64 key, .int .i64 nx, .string fl, .string cm, .string tx] 130)).alloc (.cells #[.int .i64 0, .int .i64 0, .string ⟨#[]⟩, .string ⟨#[]⟩, .string ⟨#[]⟩] 130)).heap[w.heap.size + 1]? = some (.cells #[.int .i64 0, .int .i64 0, .string ⟨#[]⟩, .string ⟨#[]⟩, .string ⟨#[]⟩] 130 (0, 0)) := by
    have h1 := heap_alloc_new ((w.setCell ⟨K, 3, none⟩ (.int .i64 (nx + 1))).alloc (.cells #[.int .i64 key, .int .i64 nx, .string fl, .string cm, .string tx] 130)) (.cells #[.int .i64 0, .int .i64 0, .string ⟨#[]⟩, .string ⟨#[]⟩, .string ⟨#[]⟩] 130)
    simpa using h1
  have hBut : But K none w (((w.setCell ⟨K, 3, none⟩ (.int .i64 (nx + 1))).alloc (.cells #[.int .i64 key, .int .i64 nx, .string fl, .string cm, .string tx] 130)).alloc (.cells #[.int .i64 0, .int .i64 0, .string ⟨#[]⟩, .string ⟨#[]⟩, .string ⟨#[]⟩] 130)) := (((But.of_below (Below.refl _ _)).setCell (p := ⟨K, 3, none⟩) (Or.inl rfl) _).below ((Below.refl _ _).alloc (Nat.le_refl _) _)).below ((Below.refl _ _).alloc (Nat.le_refl _) _)
  have hown2 : (((w.setCell ⟨K, 3, none⟩ (.int .i64 (nx + 1))).alloc (.cells #[.int .i64 key, .int .i64 nx, .string fl, .string cm, .string tx] 130)).alloc (.cells #[.int .i64 0, .int .i64 0, .string ⟨#[]⟩, .string ⟨#[]⟩, .string ⟨#[]⟩] 130)).ownsRow B 130 5 (.slice va n vc) n (msCells xs) := by
    have h1 : w.ownsRow B 130 5 (.slice va n vc) n (msCells xs) := by have := Ho.out; unfold OwnM at this; rwa [hnn] at this
    refine owns_block (fun b hb => ?_) h1
    have h2 := h1.lt b hb
    exact hBut.block b h2.2 (fun e => hne (by rw [hb, e])) (by simp)
  generalize (((w.setCell ⟨K, 3, none⟩ (.int .i64 (nx + 1))).alloc (.cells #[.int .i64 key, .int .i64 nx, .string fl, .string cm, .string tx] 130)).alloc (.cells #[.int .i64 0, .int .i64 0, .string ⟨#[]⟩, .string ⟨#[]⟩, .string ⟨#[]⟩] 130)) = w2 at *
  have k4 := hF2.cells.2.2.2.2.1
  have hK2 : K < w2.heap.size := by omega
  have hownA := (hown2.drew).alloc (.cells #[.int .i64 key, .int .i64 nx, .string fl, .string cm, .string tx] 130)
  have hnK : some K ≠ (Value.slice va n vc).ownBlock := fun e => hne e.symm
  have hnP : some w.heap.size ≠ (Value.slice va n vc).ownBlock := fun e => by
    have h1 : w.ownsRow B 130 5 (.slice va n vc) n (msCells xs) := by have := Ho.out; unfold OwnM at this; rwa [hnn] at this
    have := (h1.lt _ e.symm).2; omega
  have hnR : some (w.heap.size + 1) ≠ (Value.slice va n vc).ownBlock := fun e => by
    have h1 : w.ownsRow B 130 5 (.slice va n vc) n (msCells xs) := by have := Ho.out; unfold OwnM at this; rwa [hnn] at this
    have := (h1.lt _ e.symm).2; omega
  refine region_until 10 (fun w' : World => w'.cell? ⟨K, 4, none⟩ = some (.slice va n vc) ∧ w'.heap[w.heap.size]? = some (.cells #[.int .i64 key, .int .i64 nx, .string fl, .string cm, .string tx] 130 (0, 0))) 11 rfl (by kernel_rfl) ⟨k4, hP2⟩ (fun a' Q hA hQ hP hS => ?_)
  have z : a'.tmps.size = 28 := by rw [hA.out]; rfl
  have e0 : a'.eval (.tmp 0) = Value.pointer (some ⟨K, 0, none⟩) := by rw [hA.out]; rfl
  have e3 : a'.eval (.tmp 3) = Value.pointer (some ⟨w.heap.size, 0, none⟩) := by rw [hA.out]; rfl
  refine tk (i := 0) (d := (some 17)) rfl rfl (by kernel_rfl) hP (fun wx hw => run_move rfl e0) hS ?_
  refine tk (i := 1) (d := (some 18)) rfl rfl (by kernel_rfl) hP (fun wx hw => run_move rfl (evq (by decide) e0)) hS ?_
  refine tk (i := 2) (d := (some 19)) rfl rfl (by kernel_rfl) hP (fun wx hw => run_nil rfl (eve (Nat.lt_of_lt_of_eq (by decide : 18 < 28) (szq z).symm))) hS ?_
  refine tk (i := 3) (d := (some 20)) rfl rfl (by kernel_rfl) hP (fun wx hw => run_field (p' := ⟨K, 4, none⟩) rfl (eve (Nat.lt_of_lt_of_eq (by decide : 19 < 28) (szq (szq z)).symm)) (fun w => by kernel_rfl)) hS ?_
  refine tk (i := 4) (d := (some 21)) rfl rfl (by kernel_rfl) hP (fun wx hw => run_load rfl (eve (Nat.lt_of_lt_of_eq (by decide : 20 < 28) (szq (szq (szq z))).symm)) (loadAt_one (fun w => by kernel_rfl) hw.1)) hS ?_
  refine tk (i := 5) (d := (some 22)) rfl rfl (by kernel_rfl) hP (fun wx hw => run_load rfl (evq (by decide) (evq (by decide) (evq (by decide) (evq (by decide) (evq (by decide) e3))))) (msg_load hw.2)) hS ?_
  have hS1 : (w2.drew.alloc (.cells #[.int .i64 key, .int .i64 nx, .string fl, .string cm, .string tx] 130)).cell? ⟨K, 4, none⟩ = some (.slice va n vc) ∧ (w2.drew.alloc (.cells #[.int .i64 key, .int .i64 nx, .string fl, .string cm, .string tx] 130)).heap[w.heap.size]? = some (.cells #[.int .i64 key, .int .i64 nx, .string fl, .string cm, .string tx] 130 (0, 0)) := ⟨(World.cell?_of_block (a := ⟨K, 4, none⟩) (Go.heap_alloc_old w2.drew _ hK2)).trans k4, (Go.heap_alloc_old w2.drew _ (show w.heap.size < w2.heap.size by omega)).trans hP2⟩
  refine go_build1 (i := 6) (d := (some 23)) (v := .slice (some ⟨w2.drew.heap.size, 0, none⟩) 1 1) (w' := w2.drew.alloc (.cells #[.int .i64 key, .int .i64 nx, .string fl, .string cm, .string tx] 130)) (by kernel_rfl) rfl rfl rfl rfl (eve (Nat.lt_of_lt_of_eq (by decide : 22 < 28) (szq (szq (szq (szq (szq z))))).symm)) msg_build (fun _ => hS1) ?_
  refine go_append (i := 7) (d := (some 24)) [.int .i64 key, .int .i64 nx, .string fl, .string cm, .string tx] (by kernel_rfl) rfl rfl rfl rfl elem_msg (by decide) (evq (by decide) (evq (by decide) (eve (Nat.lt_of_lt_of_eq (by decide : 21 < 28) (szq (szq (szq (szq z)))).symm)))) hownA (eve (Nat.lt_of_lt_of_eq (by decide : 23 < 28) (szq (szq (szq (szq (szq (szq z)))))).symm)) rfl (World.news_of_block (cs := #[.int .i64 key, .int .i64 nx, .string fl, .string cm, .string tx]) (t := 130) (fr := (0, 0)) (heap_alloc_new w2.drew _)) (by simp [Value.oneCell']) (by decide) (by unfold maxLen; omega) (by omega) (by simp; omega) ?_
  intro g gc w3 hown3 hgrow3 hat3 hlt3
  have r2 := (hgrow3.cell_far ⟨K, 4, none⟩ (by simp; omega) hnK).trans hS1.1
  have rf := (hgrow3.frozen_far ⟨K, 4, none⟩ (by simp; omega) hnK).trans ((World.frozen?_of_block (a := ⟨K, 4, none⟩) (Go.heap_alloc_old w2.drew _ hK2)).trans (hF2.cells.2.2.2.2.2.1 4))
  have r1 := (hgrow3.block w.heap.size (by simp; omega) hnP).trans hS1.2
  refine ⟨fun _ => ⟨r2, r1⟩, ?_⟩
  clear hS
  have hS := And.intro r2 r1
  refine go_val (i := 8) (d := (some 25)) (by kernel_rfl) rfl rfl rfl (run_nil rfl (evq (by decide) (evq (by decide) (evq (by decide) (evq (by decide) (evq (by decide) (evq (by decide) (evq (by decide) (eve (Nat.lt_of_lt_of_eq (by decide : 17 < 28) z.symm)))))))))) (fun _ => hS) ?_
  refine go_val (i := 9) (d := (some 26)) (by kernel_rfl) rfl rfl rfl (run_field (p' := ⟨K, 4, none⟩) rfl (eve (Nat.lt_of_lt_of_eq (by decide : 25 < 28) (szq (szq (szq (szq (szq (szq (szq (szq z)))))))).symm)) (fun w => by kernel_rfl)) (fun _ => hS) ?_
  refine go_put (i := 10) (by kernel_rfl) rfl rfl rfl rfl (eve (Nat.lt_of_lt_of_eq (by decide : 26 < 28) (szq (szq (szq (szq (szq (szq (szq (szq (szq z))))))))).symm)) (evq (by decide) (evq (by decide) (eve (Nat.lt_of_lt_of_eq (by decide : 24 < 28) (szq (szq (szq (szq (szq (szq (szq z))))))).symm)))) (fun w h1 h2 => by simp [Instr.storeAt, go_sem, h1, h2]) r2 rf (fun h => absurd rfl h) ?_
  refine wpAnyU_done (by kernel_rfl) (hQ.out _ _ ?_) _
  rw [hA.out]
  simp only [Act.put, List.setIfInBounds_toArray]
  dsimp only [List.set]
  clear hQ hP hA z hS Q a' e0 e3 hS1 k4
  have hBut4 : But K (Value.slice va n vc).ownBlock w (w3.setCell ⟨K, 4, none⟩ (.slice (some ⟨g, 0, none⟩) (n + 1) gc)) := ((((hBut.row _).below ((Below.refl _ _).drew)).below ((Below.refl _ _).alloc (Nat.le_refl _) _)).grown hgrow3).setCell (Or.inl rfl) _
  have hF4 : FoBlk (w3.setCell ⟨K, 4, none⟩ (.slice (some ⟨g, 0, none⟩) (n + 1) gc)) K name code ep (nx + 1) (.slice (some ⟨g, 0, none⟩) (n + 1) gc) := by
    have h1 := (hgrow3.block K (by simp; omega) hnK).trans ((Go.heap_alloc_old w2.drew _ hK2).trans hF2)
    have h2 := heap_set_in (o := 4) (.slice (some ⟨g, 0, none⟩) (n + 1) gc) h1
    unfold FoBlk
    simpa using h2
  have hgK : g ≠ K := by
    rcases hat3 with h1 | h1
    · exact fun e => hne (by rw [h1, e])
    · simp at h1; omega
  have hO4 : OwnM (w3.setCell ⟨K, 4, none⟩ (.slice (some ⟨g, 0, none⟩) (n + 1) gc)) B (.slice (some ⟨g, 0, none⟩) (n + 1) gc) (xs ++ [⟨key, nx, fl.data.toList, cm.data.toList, tx.data.toList⟩]) := by
    unfold OwnM
    rw [msCells_snoc]
    have e : (xs ++ [(⟨key, nx, fl.data.toList, cm.data.toList, tx.data.toList⟩ : Mb.Ms)]).length = n + 1 := by simp [hnn]
    rw [e]
    refine owns_block (w := w3) (fun b hb => Below.heap_setCell _ _ _ _ ?_) hown3
    have e : g = b := Option.some.inj hb
    show b ≠ K
    omega
  have hg4 : (Value.slice va n vc).ownBlock = some g ∨ w.heap.size ≤ g := by
    rcases hat3 with h1 | h1
    · exact Or.inl h1
    · right; simp at h1; omega
  have hP4 : (w3.setCell ⟨K, 4, none⟩ (.slice (some ⟨g, 0, none⟩) (n + 1) gc)).heap[w.heap.size]? = some (.cells #[.int .i64 key, .int .i64 nx, .string fl, .string cm, .string tx] 130 (0, 0)) := (Below.heap_setCell _ _ _ _ (by show w.heap.size ≠ K; omega)).trans r1
  have hR4 : (w3.setCell ⟨K, 4, none⟩ (.slice (some ⟨g, 0, none⟩) (n + 1) gc)).heap[w.heap.size + 1]? = some (.cells #[.int .i64 0, .int .i64 0, .string ⟨#[]⟩, .string ⟨#[]⟩, .string ⟨#[]⟩] 130 (0, 0)) := (Below.heap_setCell _ _ _ _ (by show w.heap.size + 1 ≠ K; omega)).trans ((hgrow3.block (w.heap.size + 1) (by simp; omega) hnR).trans ((Go.heap_alloc_old w2.drew _ (show w.heap.size + 1 < w2.heap.size by omega)).trans hR2))
  have hs4 : w.heap.size + 2 ≤ (w3.setCell ⟨K, 4, none⟩ (.slice (some ⟨g, 0, none⟩) (n + 1) gc)).heap.size := by have := hgrow3.size; simp at this ⊢; omega
  have hgne : g ≠ w.heap.size + 1 := by
    rcases hat3 with h1 | h1
    · exact fun e => hnR (by rw [h1, e])
    · simp at h1; omega
  generalize (w3.setCell ⟨K, 4, none⟩ (.slice (some ⟨g, 0, none⟩) (n + 1) gc)) = w4 at *
  have p0 : w4.cell? ⟨w.heap.size, 0, none⟩ = some (.int .i64 key) := by simp [World.cell?, hP4]
  have p1 : w4.cell? ⟨w.heap.size, 1, none⟩ = some (.int .i64 nx) := by simp [World.cell?, hP4]
  have p2 : w4.cell? ⟨w.heap.size, 2, none⟩ = some (.string fl) := by simp [World.cell?, hP4]
  have p3 : w4.cell? ⟨w.heap.size, 3, none⟩ = some (.string cm) := by simp [World.cell?, hP4]
  have p4 : w4.cell? ⟨w.heap.size, 4, none⟩ = some (.string tx) := by simp [World.cell?, hP4]
  have q0 : w4.cell? ⟨w.heap.size + 1, 0, none⟩ = some (.int .i64 0) := by simp [World.cell?, hR4]
  have q1 : w4.cell? ⟨w.heap.size + 1, 1, none⟩ = some (.int .i64 0) := by simp [World.cell?, hR4]
  have q2 : w4.cell? ⟨w.heap.size + 1, 2, none⟩ = some (.string ⟨#[]⟩) := by simp [World.cell?, hR4]
  have q3 : w4.cell? ⟨w.heap.size + 1, 3, none⟩ = some (.string ⟨#[]⟩) := by simp [World.cell?, hR4]
  have q4 : w4.cell? ⟨w.heap.size + 1, 4, none⟩ = some (.string ⟨#[]⟩) := by simp [World.cell?, hR4]
  have qf : ∀ o, w4.frozen? ⟨w.heap.size + 1, o, none⟩ = false := fun o => by simp [World.frozen?, hR4]
  have qf0 := qf 0
  have qf1 := qf 1
  have qf2 := qf 2
  have qf3 := qf 3
  have qf4 := qf 4
  have HB4 := Lib.hid hBut4
  have HF4 := Lib.hid hF4
  have HO4 := Lib.hid hO4
  have HG4 := Lib.hid hg4
  have HR4 := Lib.hid hR4
  clear hBut4 hF4 hO4 hg4 hP4 hR4 hown3 hgrow3 hat3 r1 r2 rf hownA hown2 hF2 hP2 hR2 hBut Hh Ho
  go_wp2_with fail
  have h5 := set5_at HR4.out (.int .i64 key) (.int .i64 nx) (.string fl) (.string cm) (.string tx)
  have hF5 : FoBlk (set5 w4 (w.heap.size + 1) (.int .i64 key) (.int .i64 nx) (.string fl) (.string cm) (.string tx)) K name code ep (nx + 1) (.slice (some ⟨g, 0, none⟩) (n + 1) gc) := (set5_far w4 (by omega) _ _ _ _ _).trans HF4.out
  have hO5 : OwnM (set5 w4 (w.heap.size + 1) (.int .i64 key) (.int .i64 nx) (.string fl) (.string cm) (.string tx)) B (.slice (some ⟨g, 0, none⟩) (n + 1) gc) (xs ++ [⟨key, nx, fl.data.toList, cm.data.toList, tx.data.toList⟩]) := by
    refine owns_block (w := w4) (fun b hb => set5_far w4 ?_ _ _ _ _ _) HO4.out
    have e : g = b := Option.some.inj hb
    omega
  have hB5 := HB4.out.set5 (R := w.heap.size + 1) (by omega) (.int .i64 key) (.int .i64 nx) (.string fl) (.string cm) (.string tx)
  refine (?_ : bodyPost _ _ _ _ _ (set5 w4 (w.heap.size + 1) (.int .i64 key) (.int .i64 nx) (.string fl) (.string cm) (.string tx)))
  clear p0 p1 p2 p3 p4 q0 q1 q2 q3 q4 qf qf0 qf1 qf2 qf3 qf4
  generalize set5 w4 (w.heap.size + 1) (.int .i64 key) (.int .i64 nx) (.string fl) (.string cm) (.string tx) = w5 at *
  have z0 : w5.cell? ⟨w.heap.size + 1, 0, none⟩ = some (.int .i64 key) := by simp [World.cell?, h5]
  have z1 : w5.cell? ⟨w.heap.size + 1, 1, none⟩ = some (.int .i64 nx) := by simp [World.cell?, h5]
  have z2 : w5.cell? ⟨w.heap.size + 1, 2, none⟩ = some (.string fl) := by simp [World.cell?, h5]
  have z3 : w5.cell? ⟨w.heap.size + 1, 3, none⟩ = some (.string cm) := by simp [World.cell?, h5]
  have z4 : w5.cell? ⟨w.heap.size + 1, 4, none⟩ = some (.string tx) := by simp [World.cell?, h5]
  refine bodyPost_ret (v := .agg #[.int .i64 key, .int .i64 nx, .string fl, .string cm, .string tx]) (by simp [results, Tryz.results80, go_sem, z0, z1, z2, z3, z4]) rfl ⟨rfl, g, gc, hF5, hO5, HG4.out, hB5⟩
end Go.Proofs.YtamglanahpcedaaGreatDoor
namespace Go.Proofs.YtamglanahpcedaaGreatDoor
open Go.RowKit Go.Lib

theorem But.trans_below {K : Nat} {row : Option Nat} {w w1 w2 : World} (h : Below w.heap.size w w1) (k : But K row w1 w2) : But K row w w2 :=
  ⟨k.os.trans h.os, k.tape.trans h.tape, k.output.trans h.output, Nat.le_trans h.size k.size, fun b h1 h2 h3 => (k.block b (Nat.lt_of_lt_of_le h1 h.size) h2 h3).trans (h.block b h1)⟩

set_option maxRecDepth 100000 in
set_option maxHeartbeats 2000000 in
theorem fAdd_any {w : World} {K B : Nat} {name code : ByteArray} {ep nx : Int} {v : Value} {xs : List Mb.Ms} (h : FoBlk w K name code ep nx v) (ho : OwnM w B v xs) (hB : B ≤ w.heap.size) (hne : v.ownBlock ≠ some K) (hl : xs.length ≤ 1048576) (hn0 : 0 ≤ nx) (hn1 : nx ≤ 99) (fl tx : ByteArray)
    (m : Nat) (h1 : 1 ≤ m) (hm : m ≤ 1000) (hall : ∀ j : Nat, 1 ≤ j → j < m → Mb.hasKM (j : Int) xs = true) (hno : Mb.hasKM (m : Int) xs = false) :
    Calls Tryz.prog 53 #[.pointer (some ⟨K, 0, none⟩), .string fl, .string tx] w fun e w' => e = .returned (.agg #[.int .i64 (m : Int), .int .i64 nx, .string fl, .string fl, .string tx]) ∧ ∃ g cap, FoBlk w' K name code ep (nx + 1) (.slice (some ⟨g, 0, none⟩) (xs.length + 1) cap) ∧ OwnM w' B (.slice (some ⟨g, 0, none⟩) (xs.length + 1) cap) (xs ++ [⟨(m : Int), nx, fl.data.toList, fl.data.toList, tx.data.toList⟩]) ∧ (v.ownBlock = some g ∨ w.heap.size ≤ g) ∧ But K v.ownBlock w w' := by
  have hK : K < w.heap.size := h.cells.2.2.2.2.2.2
  obtain ⟨va, vc, hvv, hcap, hat, _⟩ := OwnM.form ho
  subst hvv
  have Hh := Lib.hid h
  have Ho := Lib.hid ho
  have hBz : Below w.heap.size w (w.alloc (.cells #[.int .i64 0, .int .i64 0, .string ⟨#[]⟩, .string ⟨#[]⟩, .string ⟨#[]⟩] 130)) := (Below.refl _ _).alloc (Nat.le_refl _) _
  have gk := freeKey_is (h.below hBz) (hat.below hBz) hl m h1 hm hall hno
  have hR1 : (w.alloc (.cells #[.int .i64 0, .int .i64 0, .string ⟨#[]⟩, .string ⟨#[]⟩, .string ⟨#[]⟩] 130)).heap[w.heap.size]? = some (.cells #[.int .i64 0, .int .i64 0, .string ⟨#[]⟩, .string ⟨#[]⟩, .string ⟨#[]⟩] 130 (0, 0)) := heap_alloc_new w _
  have HR1 := Lib.hid hR1
  have HBz := Lib.hid hBz
  clear h ho hat hall hno hR1 hBz
  go_enter Tryz.func53, Tryz.ntmps53
  go_wp2_with fail
  refine gk.mono ?_
  rintro e w1 ⟨rfl, hb1⟩
  have hB1 : Below w.heap.size w w1 := HBz.out.trans (hb1.mono (by simp))
  have hs1 : w.heap.size < w1.heap.size := by have := hb1.size; simp at this; omega
  have hR2 := (hb1.block w.heap.size (by simp)).trans HR1.out
  have HB1 := Lib.hid hB1
  have HR2 := Lib.hid hR2
  clear hb1 hB1 hR2 gk
  go_wp2_with fail
  have hB2 : Below w.heap.size w (w1.alloc (.cells #[.int .i64 (m : Int), .int .i64 0, .string fl, .string fl, .string tx] 130)) := HB1.out.alloc (by omega) _
  have ga := append_any (Hh.out.below hB2) (owns_block (fun b hb => hB2.block b (Ho.out.lt b hb).2) Ho.out) (by simp; omega) hne hl hn0 hn1 (m : Int) 0 fl fl tx
  refine ga.mono ?_
  rintro e w3 ⟨rfl, g, cap, hF3, hO3, hg3, hb3⟩
  have hR3 : w3.heap[w.heap.size]? = some (.cells #[.int .i64 0, .int .i64 0, .string ⟨#[]⟩, .string ⟨#[]⟩, .string ⟨#[]⟩] 130 (0, 0)) := (hb3.block w.heap.size (by simp; omega) (by omega) (fun e => by have := (Ho.out.lt _ e).2; omega)).trans ((Go.heap_alloc_old w1 _ hs1).trans HR2.out)
  have q0 : w3.cell? ⟨w.heap.size, 0, none⟩ = some (.int .i64 0) := by simp [World.cell?, hR3]
  have q1 : w3.cell? ⟨w.heap.size, 1, none⟩ = some (.int .i64 0) := by simp [World.cell?, hR3]
  have q2 : w3.cell? ⟨w.heap.size, 2, none⟩ = some (.string ⟨#[]⟩) := by simp [World.cell?, hR3]
  have q3 : w3.cell? ⟨w.heap.size, 3, none⟩ = some (.string ⟨#[]⟩) := by simp [World.cell?, hR3]
  have q4 : w3.cell? ⟨w.heap.size, 4, none⟩ = some (.string ⟨#[]⟩) := by simp [World.cell?, hR3]
  have qf : ∀ o, w3.frozen? ⟨w.heap.size, o, none⟩ = false := fun o => by simp [World.frozen?, hR3]
  have qf0 := qf 0
  have qf1 := qf 1
  have qf2 := qf 2
  have qf3 := qf 3
  have qf4 := qf 4
  have hgne : g ≠ w.heap.size := by
    rcases hg3 with h | h
    · have := (Ho.out.lt g h).2; omega
    · have : (w1.alloc (.cells #[.int .i64 (m : Int), .int .i64 0, .string fl, .string fl, .string tx] 130)).heap.size = w1.heap.size + 1 := by simp
      omega
  have HG3 := Lib.hid hg3
  have HF3 := Lib.hid hF3
  have HO3 := Lib.hid hO3
  have HR3 := Lib.hid hR3
  have HB3 := Lib.hid (But.trans_below hB2 hb3)
  clear hg3 hF3 hO3 hR3 hb3 ga hB2
  go_wp2_with fail
  have h5 := set5_at HR3.out (.int .i64 (m : Int)) (.int .i64 nx) (.string fl) (.string fl) (.string tx)
  have hF5 : FoBlk (set5 w3 w.heap.size (.int .i64 (m : Int)) (.int .i64 nx) (.string fl) (.string fl) (.string tx)) K name code ep (nx + 1) (.slice (some ⟨g, 0, none⟩) (xs.length + 1) cap) := (set5_far w3 (by omega) _ _ _ _ _).trans HF3.out
  have hO5 : OwnM (set5 w3 w.heap.size (.int .i64 (m : Int)) (.int .i64 nx) (.string fl) (.string fl) (.string tx)) B (.slice (some ⟨g, 0, none⟩) (xs.length + 1) cap) (xs ++ [⟨(m : Int), nx, fl.data.toList, fl.data.toList, tx.data.toList⟩]) := by
    refine owns_block (w := w3) (fun b hb => set5_far w3 ?_ _ _ _ _ _) HO3.out
    have e : g = b := Option.some.inj hb
    omega
  have hB5 := HB3.out.set5 (R := w.heap.size) (Nat.le_refl _) (.int .i64 (m : Int)) (.int .i64 nx) (.string fl) (.string fl) (.string tx)
  refine (?_ : bodyPost _ _ _ _ _ (set5 w3 w.heap.size (.int .i64 (m : Int)) (.int .i64 nx) (.string fl) (.string fl) (.string tx)))
  clear q0 q1 q2 q3 q4 qf qf0 qf1 qf2 qf3 qf4
  generalize set5 w3 w.heap.size (.int .i64 (m : Int)) (.int .i64 nx) (.string fl) (.string fl) (.string tx) = w5 at *
  have z0 : w5.cell? ⟨w.heap.size, 0, none⟩ = some (.int .i64 (m : Int)) := by simp [World.cell?, h5]
  have z1 : w5.cell? ⟨w.heap.size, 1, none⟩ = some (.int .i64 nx) := by simp [World.cell?, h5]
  have z2 : w5.cell? ⟨w.heap.size, 2, none⟩ = some (.string fl) := by simp [World.cell?, h5]
  have z3 : w5.cell? ⟨w.heap.size, 3, none⟩ = some (.string fl) := by simp [World.cell?, h5]
  have z4 : w5.cell? ⟨w.heap.size, 4, none⟩ = some (.string tx) := by simp [World.cell?, h5]
  have hgg : (Value.slice va xs.length vc).ownBlock = some g ∨ w.heap.size ≤ g := by
    rcases HG3.out with h | h
    · exact Or.inl h
    · right; have : w1.heap.size ≤ (w1.alloc (.cells #[.int .i64 (m : Int), .int .i64 0, .string fl, .string fl, .string tx] 130)).heap.size := by simp
      omega
  refine bodyPost_ret (v := .agg #[.int .i64 (m : Int), .int .i64 nx, .string fl, .string fl, .string tx]) (by simp [results, Tryz.results53, go_sem, z0, z1, z2, z3, z4]) rfl ⟨rfl, g, cap, hF5, hO5, hgg, hB5⟩
end Go.Proofs.YtamglanahpcedaaGreatDoor
