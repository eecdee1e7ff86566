/-
  OWN TEXT: mailbagkeep.Listed.
-/
import Derived.Test.YtldgiecjnmkajaaDoorListWalkL
import Derived.Lib.ConvBytes
namespace Go.Proofs.YtldgiecjnmkajaaDoor
open Go.RowKit

/-- what lies behind '[]byte(s)' at one place -/
theorem bytes_frozen (w : World) (e : TypeId) (s : ByteArray) (j : Nat) (hj : j < s.size) : (Lib.bytesWorld w e s).frozen? ⟨w.heap.size, j, none⟩ = false := by
  have hsz : s.size ≤ (Lib.bytesCells w e s).size := by
    unfold Lib.bytesCells
    rw [Array.size_append, Array.size_map]
    exact Nat.le_add_right _ _
  simp only [World.frozen?, Lib.bytesWorld_at_new]
  simp
  omega

/-! ### what Read says of a text that was turned -/

theorem read_turned {e n : Int} {xs : List Mb.Ent} (hok : Mb.listOk e n xs = true) (m : Nat) (hm : m < (Mb.textOf e n xs).length) (c : UInt8) (hc : c ≠ (Mb.textOf e n xs)[m]) : Mb.readL ((Mb.textOf e n xs).set m c) = none := by
  rcases opt_or (Mb.readL ((Mb.textOf e n xs).set m c)) with h | ⟨⟨e', n', xs'⟩, h⟩
  · exact h
  · obtain ⟨h1, h2⟩ := Mb.read_some h
    rw [List.set_eq_take_append_cons_drop, if_pos hm] at h2
    have ht : Mb.textOf e n xs = (Mb.textOf e n xs).take m ++ (Mb.textOf e n xs)[m] :: (Mb.textOf e n xs).drop (m + 1) := by
      rw [← List.drop_eq_getElem_cons hm, List.take_append_drop]
    exact absurd (Mb.no_turn (Mb.listOk_fine hok) (Mb.listOk_fine h1) ht h2) hc
theorem read_cut (e n : Int) (xs : List Mb.Ent) : Mb.readL (Mb.textOf e n xs).dropLast = none := by
  rcases opt_or (Mb.readL (Mb.textOf e n xs).dropLast) with h | ⟨⟨e', n', xs'⟩, h⟩
  · exact h
  · exact (Mb.no_cut (Mb.read_some h).2).elim
theorem read_more (e n : Int) (xs : List Mb.Ent) (c : UInt8) : Mb.readL (Mb.textOf e n xs ++ [c]) = none := by
  rcases opt_or (Mb.readL (Mb.textOf e n xs ++ [c])) with h | ⟨⟨e', n', xs'⟩, h⟩
  · exact h
  · exact (Mb.no_more (Mb.read_some h).2).elim

theorem byte_of (v : Int) : ∃ c : UInt8, (c.toNat : Int) = v % 256 := ⟨UInt8.ofNat (v % 256).toNat, by rw [UInt8.toNat_ofNat']; omega⟩

theorem text_ne (e n : Int) (xs : List Mb.Ent) : Mb.textOf e n xs ≠ [] := by unfold Mb.textOf; simp

set_option maxRecDepth 100000 in
set_option maxHeartbeats 4000000 in
theorem listed_yes (e n : Int) (a : Option Addr) (cap : Nat) (xs : List Mb.Ent) (pos v : Int) (hp1 : -9223372036854775808 ≤ pos) (hp2 : pos ≤ 9223372036854775807) (w : World) (hE : Env w) (hs : SlAt w a xs) (hl : xs.length ≤ maxLen) (hcap : xs.length ≤ cap) (hf : ∀ x ∈ xs, x.flags.length ≤ maxLen) (hyes : Mb.listOk e n xs = true) (hneg : pos < 0) :
    Calls Tryd.prog 4 #[.agg #[.int .i64 e, .int .i64 n, .slice a xs.length cap], .int .i64 pos, .int .i64 v] w fun r w' => r = .returned (.bool true) ∧ Below w.heap.size w w' := by
  have hFine := Mb.listOk_fine hyes
  have hlen := Mb.textOf_len hFine
  have A0 : ∀ o, Below w.heap.size w (w.alloc o) := fun o => (Below.refl _ _).alloc (Nat.le_refl _) o
  have g1 := fun o => mwrite_yes e n a cap xs (w.alloc o) (hE.below (A0 o) (Nat.le_refl _)) (hs.below (A0 o) (Nat.le_refl _)) hl hcap hf hyes
  obtain ⟨bT, HbT, HbT'⟩ := named_bytes (Mb.textOf e n xs)
  rw [← HbT.out] at g1
  have hsz : bT.size ≤ 120 := by rw [Lib.size_eq, HbT'.out]; exact hlen
  have hsz0 : 0 < bT.size := by
    rw [Lib.size_eq, HbT'.out]
    exact List.length_pos_iff.2 (text_ne e n xs)
  have hem : bT.toList.isEmpty = false := by
    rw [ByteArray.toList_eq, HbT'.out]
    cases hh : Mb.textOf e n xs with
    | nil => exact absurd hh (text_ne e n xs)
    | cons _ _ => rfl
  have hem2 : (bT.toList == []) = false := by
    rw [ByteArray.toList_eq, HbT'.out]
    cases hh : Mb.textOf e n xs with
    | nil => exact absurd hh (text_ne e n xs)
    | cons _ _ => rfl
  clear hlen
  go_enter Tryd.func4, Tryd.ntmps4
  go_wp2_with fail
  refine (g1 _).mono ?_
  rintro e' w1 ⟨rfl, hb1⟩
  clear g1
  have hs1 := hb1.size
  simp at hs1
  have l0 := hb1.cell (p := ⟨w.heap.size, 0, none⟩) (by simp)
  have l1 := hb1.cell (p := ⟨w.heap.size, 1, none⟩) (by simp)
  have l2 := hb1.cell (p := ⟨w.heap.size, 2, none⟩) (by simp)
  simp at l0 l1 l2
  have HB1 : Hid (Below w.heap.size w w1) := (A0 _).trans (hb1.mono (by simp))
  have g2 := lawful_any e n a cap xs w1 (hs.below HB1.out (Nat.le_refl _)) hf
  rw [hyes] at g2
  clear hb1
  go_wp2_with fail
  refine g2.mono ?_
  rintro e' w2 ⟨rfl, hb2⟩
  clear g2
  have hs2 := hb2.size
  have l0 := (hb2.cell (p := ⟨w.heap.size, 0, none⟩) (by simp; omega)).trans l0
  have l1 := (hb2.cell (p := ⟨w.heap.size, 1, none⟩) (by simp; omega)).trans l1
  have l2 := (hb2.cell (p := ⟨w.heap.size, 2, none⟩) (by simp; omega)).trans l2
  have HB2 : Hid (Below w.heap.size w w2) := HB1.out.trans (hb2.mono (by omega))
  have hsl2 : SlAt w2 a xs := hs.below HB2.out (Nat.le_refl _)
  have g3 := mread_some bT (by omega) w2 (hE.below HB2.out (Nat.le_refl _)) e n xs (by rw [HbT'.out]; exact Mb.read_text hyes)
  clear hb2
  go_wp2_with fail
  refine g3.mono ?_
  rintro e' w3 ⟨a3, cap3, rfl, hb3, hsl3, hcap3, hnew3⟩
  clear g3 hnew3
  have hs3 := hb3.size
  have l0 := (hb3.cell (p := ⟨w.heap.size, 0, none⟩) (by simp; omega)).trans l0
  have l1 := (hb3.cell (p := ⟨w.heap.size, 1, none⟩) (by simp; omega)).trans l1
  have l2 := (hb3.cell (p := ⟨w.heap.size, 2, none⟩) (by simp; omega)).trans l2
  have HB3 : Hid (Below w.heap.size w w3) := HB2.out.trans (hb3.mono (by omega))
  have HBs : Hid (Below w2.heap.size w2 w3) := hb3
  have m0 : ∀ o, (w3.alloc o).cell? ⟨w.heap.size, 0, none⟩ = some (.int .i64 e) := fun o => (((Below.refl _ _).alloc (Nat.le_refl _) o).cell (p := ⟨w.heap.size, 0, none⟩) (by simp; omega)).trans l0
  have m1 : ∀ o, (w3.alloc o).cell? ⟨w.heap.size, 1, none⟩ = some (.int .i64 n) := fun o => (((Below.refl _ _).alloc (Nat.le_refl _) o).cell (p := ⟨w.heap.size, 1, none⟩) (by simp; omega)).trans l1
  have m2 : ∀ o, (w3.alloc o).cell? ⟨w.heap.size, 2, none⟩ = some (.slice a xs.length cap) := fun o => (((Below.refl _ _).alloc (Nat.le_refl _) o).cell (p := ⟨w.heap.size, 2, none⟩) (by simp; omega)).trans l2
  have g4 := fun o => same_any e n a3 a cap3 cap xs (w3.alloc o) (hsl3.below ((Below.refl _ _).alloc (Nat.le_refl _) o) (Nat.le_refl _)) ((hsl2.below HBs.out (Nat.le_refl _)).below ((Below.refl _ _).alloc (Nat.le_refl _) o) (Nat.le_refl _)) hl
  clear hb3 l0 l1 l2
  go_wp2_with fail
  refine (g4 _).mono ?_
  rintro e' w4 ⟨rfl, hb4⟩
  clear g4 m0 m1 m2
  have hs4 := hb4.size
  simp at hs4
  have HB4 : Hid (Below w.heap.size w w4) := (HB3.out.alloc (by omega) _).trans (hb4.mono (by simp; omega))
  clear hb4
  go_upto_region 17 with fail
  obtain ⟨m, hm⟩ : ∃ m : Nat, -(pos + 1).tmod (bT.size : Int) = m := by
    have h1 : 0 ≤ (-(pos + 1)).tmod (bT.size : Int) := Int.tmod_nonneg _ (by omega)
    rw [Int.neg_tmod] at h1
    exact ⟨(-(pos + 1).tmod (bT.size : Int)).toNat, by omega⟩
  have hml : m < bT.size := by
    have h1 : (-(pos + 1)).tmod (bT.size : Int) < bT.size := Int.tmod_lt_of_pos _ (by omega)
    rw [Int.neg_tmod] at h1
    omega
  have hcv : (convert 9 39 (.string bT)).run Tryd.prog w4 = .ok (.slice (some ⟨w4.heap.size, 0, none⟩) bT.size (grownCap w4 bT.size 0 5)) (Lib.bytesWorld w4 5 bT) := Lib.run_convert_string_bytes w4 9 39 5 bT Tryd.underlying9 Tryd.underlying39 Tryd.underlying5
  generalize hcp : grownCap w4 bT.size 0 5 = gc at hcv
  have hall : ∀ (j : Nat) (hj : j < bT.size), (Lib.bytesWorld w4 5 bT).cell? ⟨w4.heap.size, j, none⟩ = some (.int .u8 (bT[j].toNat : Int)) := by
    intro j hj
    rw [Lib.bytesWorld_cell w4 5 bT j hj]
    rw [List.getD_eq_getElem?_getD, List.getElem?_eq_getElem (by rw [← Lib.size_eq]; exact hj)]
    rfl
  have hbf := bytes_frozen w4 5 bT m hml
  have hbz := Lib.bytesWorld_size w4 5 bT
  have HBB : Hid (Below w4.heap.size w4 (Lib.bytesWorld w4 5 bT)) := Lib.bytesWorld_below _ _ _
  generalize hw5 : Lib.bytesWorld w4 5 bT = w5 at *
  have hbc := hall m hml
  have Hall : Hid (∀ (j : Nat) (hj : j < bT.size), w5.cell? ⟨w4.heap.size, j, none⟩ = some (.int .u8 (bT[j].toNat : Int))) := hall
  clear hw5 hcp hall
  have HB5 : Hid (Below w.heap.size w w5) := HB4.out.trans (HBB.out.mono (by omega))
  obtain ⟨cv, hcv8⟩ := byte_of v
  obtain ⟨cw, hcw8⟩ := byte_of (v + 1)
  have Hcv8 : Hid ((cv.toNat : Int) = v % 256) := hcv8
  have Hcw8 : Hid ((cw.toNat : Int) = (v + 1) % 256) := hcw8
  clear hcv8 hcw8
  -- the text with the byte c at m
  have hback : ∀ (c : UInt8) (X : Int), (c.toNat : Int) = X → ∃ bX : ByteArray, bX.data.toList = (Mb.textOf e n xs).set m c ∧ (convert 39 9 (.slice (some ⟨w4.heap.size, 0, none⟩) bT.size gc)).run Tryd.prog (w5.setCell ⟨w4.heap.size, m, none⟩ (.int .u8 X)) = .ok (.string bX) (w5.setCell ⟨w4.heap.size, m, none⟩ (.int .u8 X)) := by
    intro c X hX
    have hlen : ((Mb.textOf e n xs).set m c).length = bT.size := by rw [List.length_set, ← HbT'.out, ← Lib.size_eq]
    refine ⟨⟨((Mb.textOf e n xs).set m c).toArray⟩, rfl, ?_⟩
    have := run_convert_bytes_back (P := Tryd.prog) (w5.setCell ⟨w4.heap.size, m, none⟩ (.int .u8 X)) 39 9 5 ⟨w4.heap.size, 0, none⟩ gc ((Mb.textOf e n xs).set m c) Tryd.underlying39 Tryd.underlying5 Tryd.underlying9 (fun j hj => by
      rw [Lib.add_plain, Nat.zero_add, List.getElem_set]
      by_cases hjm : m = j
      · subst hjm
        rw [if_pos rfl, World.cell?_setCell_same _ _ _ hbc, hX]
      · rw [if_neg hjm, World.cell?_setCell_other _ _ _ _ (by intro h; injection h with h1 h2; omega)]
        have hj' : j < bT.size := by rw [hlen] at hj; exact hj
        rw [Hall.out j hj']
        have : bT[j] = (Mb.textOf e n xs)[j]'(by rw [List.length_set] at hj; exact hj) := by
          have h2 : bT[j] = bT.data.toList[j]'(by rw [← Lib.size_eq]; exact hj') := rfl
          rw [h2]
          simp only [HbT'.out]
        rw [this])
    rw [hlen] at this
    exact this
  have hTm : bT[m] = (Mb.textOf e n xs)[m]'(by rw [← HbT'.out, ← Lib.size_eq]; exact hml) := by
    have h2 : bT[m] = bT.data.toList[m]'(by rw [← Lib.size_eq]; exact hml) := rfl
    rw [h2]
    simp only [HbT'.out]
  have HTm : Hid (bT[m] = (Mb.textOf e n xs)[m]'(by rw [← HbT'.out, ← Lib.size_eq]; exact hml)) := hTm
  clear hTm
  -- the byte that is laid there
  obtain ⟨c, X, hXc, hcne, hX⟩ : ∃ (c : UInt8) (X : Int), (c.toNat : Int) = X ∧ c ≠ bT[m] ∧ (((bT[m].toNat : Int) == v % 256) = true ∧ X = (v + 1) % 256 ∨ ((bT[m].toNat : Int) == v % 256) = false ∧ X = v % 256) := by
    by_cases hq : ((bT[m].toNat : Int) == v % 256) = true
    · refine ⟨cw, _, Hcw8.out, fun h => ?_, Or.inl ⟨hq, rfl⟩⟩
      have h1 := Hcw8.out
      rw [h] at h1
      have h2 : (bT[m].toNat : Int) = v % 256 := by simpa using hq
      omega
    · have hq : ((bT[m].toNat : Int) == v % 256) = false := by simpa using hq
      refine ⟨cv, _, Hcv8.out, fun h => ?_, Or.inr ⟨hq, rfl⟩⟩
      have h1 := Hcv8.out
      rw [h] at h1
      rw [h1] at hq
      simp at hq
  obtain ⟨bX, hbX, hcb⟩ := hback c X hXc
  have gX := fun W (hW : Env W) => mread_none bX (by rw [Lib.size_eq, hbX, List.length_set, ← HbT'.out, ← Lib.size_eq]; omega) W hW (by
    rw [hbX]
    exact read_turned hyes m (by rw [← HbT'.out, ← Lib.size_eq]; exact hml) c (by rw [← HTm.out]; exact hcne))
  clear hback hXc hcne hbX
  have HB6 : Hid (Below w.heap.size w (w5.setCell ⟨w4.heap.size, m, none⟩ (.int .u8 X))) := HB5.out.setCell (by simp; omega) _
  -- the text without its last byte
  have gC := fun W (hW : Env W) => mread_none (bT.extract 0 (bT.size - 1)) (by rw [ByteArray.size_extract]; omega) W hW (by
    rw [Lib.extract_data, HbT'.out, List.drop_zero]
    have : (Mb.textOf e n xs).take (bT.size - 1 - 0) = (Mb.textOf e n xs).dropLast := by
      rw [List.dropLast_eq_take, Lib.size_eq, HbT'.out]
      rfl
    rw [this]; exact read_cut e n xs)
  -- the text with one byte more
  obtain ⟨bV, HbV, HbV'⟩ := named_bytes [cv]
  have HcB2 : Hid (∀ W : World, W.cell? ⟨W.heap.size - 1, 0, none⟩ = some (.int .u8 (v % 256)) → 0 < W.heap.size → (convert 39 9 (.slice (some ⟨W.heap.size - 1, 0, none⟩) 1 1)).run Tryd.prog W = .ok (.string bV) W) := by
    unfold Hid
    intro W hW h0
    have := run_convert_bytes_back (P := Tryd.prog) W 39 9 5 ⟨W.heap.size - 1, 0, none⟩ 1 [cv] Tryd.underlying39 Tryd.underlying5 Tryd.underlying9 (fun j hj => by
      have : j = 0 := by simp at hj; omega
      subst this
      rw [Lib.add_plain]
      simp only [Nat.add_zero, List.getElem_cons_zero]
      rw [hW, Hcv8.out])
    rw [HbV.out]; exact this
  obtain ⟨bM, HbM, kM⟩ := cat_run Tryd.prog bT bV (by rw [HbT'.out, HbV'.out, ← HbT'.out, ← Lib.size_eq]; simp; omega)
  have gM := fun W (hW : Env W) => mread_none bM (by rw [Lib.size_eq, HbM.out, List.length_append, HbV'.out, ← Lib.size_eq]; simp; omega) W hW (by
    rw [HbM.out, HbT'.out, HbV'.out]; exact read_more e n xs cv)
  rcases hX with ⟨hq, rfl⟩ | ⟨hq, rfl⟩
  · go_wp2_with fail
    refine (gX _ (hE.below HB6.out (Nat.le_refl _))).mono ?_
    rintro e' w7 ⟨rfl, hb7⟩
    have hs7 := hb7.size
    simp at hs7
    have HB7 : Hid (Below w.heap.size w w7) := HB6.out.trans (hb7.mono (by simp; omega))
    clear hb7 gX hcb hcv hbc hbf
    go_wp2_with fail
    refine (gC _ (hE.below HB7.out (Nat.le_refl _))).mono ?_
    rintro e' w8 ⟨rfl, hb8⟩
    have hs8 := hb8.size
    have HB8 : Hid (Below w.heap.size w w8) := HB7.out.trans (hb8.mono (by omega))
    clear hb8 gC
    have hc2 := HcB2.out (w8.alloc (.cells #[.int .u8 (v % 256)] 5)) (by simp) (by simp)
    simp only [World.size_alloc, Nat.add_sub_cancel] at hc2
    go_wp2_with fail
    refine (gM _ (hE.below (HB8.out.alloc (by omega) _) (Nat.le_refl _))).mono ?_
    rintro e' w9 ⟨rfl, hb9⟩
    have HB9 : Hid (Below w.heap.size w w9) := (HB8.out.alloc (by omega) _).trans (hb9.mono (by simp; omega))
    have hs9 := hb9.size
    simp at hs9
    clear hb9 gM
    go_wp2
    go_ret
    exact ⟨rfl, HB9.out.alloc (by omega) _⟩
  · go_wp2_with fail
    refine (gX _ (hE.below HB6.out (Nat.le_refl _))).mono ?_
    rintro e' w7 ⟨rfl, hb7⟩
    have hs7 := hb7.size
    simp at hs7
    have HB7 : Hid (Below w.heap.size w w7) := HB6.out.trans (hb7.mono (by simp; omega))
    clear hb7 gX hcb hcv hbc hbf
    go_wp2_with fail
    refine (gC _ (hE.below HB7.out (Nat.le_refl _))).mono ?_
    rintro e' w8 ⟨rfl, hb8⟩
    have hs8 := hb8.size
    have HB8 : Hid (Below w.heap.size w w8) := HB7.out.trans (hb8.mono (by omega))
    clear hb8 gC
    have hc2 := HcB2.out (w8.alloc (.cells #[.int .u8 (v % 256)] 5)) (by simp) (by simp)
    simp only [World.size_alloc, Nat.add_sub_cancel] at hc2
    go_wp2_with fail
    refine (gM _ (hE.below (HB8.out.alloc (by omega) _) (Nat.le_refl _))).mono ?_
    rintro e' w9 ⟨rfl, hb9⟩
    have HB9 : Hid (Below w.heap.size w w9) := (HB8.out.alloc (by omega) _).trans (hb9.mono (by simp; omega))
    have hs9 := hb9.size
    simp at hs9
    clear hb9 gM
    go_wp2
    go_ret
    exact ⟨rfl, HB9.out.alloc (by omega) _⟩

set_option maxRecDepth 100000 in
set_option maxHeartbeats 4000000 in
theorem listed_yes_pos (e n : Int) (a : Option Addr) (cap : Nat) (xs : List Mb.Ent) (pos v : Int) (hp1 : -9223372036854775808 ≤ pos) (hp2 : pos ≤ 9223372036854775807) (w : World) (hE : Env w) (hs : SlAt w a xs) (hl : xs.length ≤ maxLen) (hcap : xs.length ≤ cap) (hf : ∀ x ∈ xs, x.flags.length ≤ maxLen) (hyes : Mb.listOk e n xs = true) (hneg : ¬ pos < 0) :
    Calls Tryd.prog 4 #[.agg #[.int .i64 e, .int .i64 n, .slice a xs.length cap], .int .i64 pos, .int .i64 v] w fun r w' => r = .returned (.bool true) ∧ Below w.heap.size w w' := by
  have hFine := Mb.listOk_fine hyes
  have hlen := Mb.textOf_len hFine
  have A0 : ∀ o, Below w.heap.size w (w.alloc o) := fun o => (Below.refl _ _).alloc (Nat.le_refl _) o
  have g1 := fun o => mwrite_yes e n a cap xs (w.alloc o) (hE.below (A0 o) (Nat.le_refl _)) (hs.below (A0 o) (Nat.le_refl _)) hl hcap hf hyes
  obtain ⟨bT, HbT, HbT'⟩ := named_bytes (Mb.textOf e n xs)
  rw [← HbT.out] at g1
  have hsz : bT.size ≤ 120 := by rw [Lib.size_eq, HbT'.out]; exact hlen
  have hsz0 : 0 < bT.size := by
    rw [Lib.size_eq, HbT'.out]
    exact List.length_pos_iff.2 (text_ne e n xs)
  have hem : bT.toList.isEmpty = false := by
    rw [ByteArray.toList_eq, HbT'.out]
    cases hh : Mb.textOf e n xs with
    | nil => exact absurd hh (text_ne e n xs)
    | cons _ _ => rfl
  have hem2 : (bT.toList == []) = false := by
    rw [ByteArray.toList_eq, HbT'.out]
    cases hh : Mb.textOf e n xs with
    | nil => exact absurd hh (text_ne e n xs)
    | cons _ _ => rfl
  clear hlen
  go_enter Tryd.func4, Tryd.ntmps4
  go_wp2_with fail
  refine (g1 _).mono ?_
  rintro e' w1 ⟨rfl, hb1⟩
  clear g1
  have hs1 := hb1.size
  simp at hs1
  have l0 := hb1.cell (p := ⟨w.heap.size, 0, none⟩) (by simp)
  have l1 := hb1.cell (p := ⟨w.heap.size, 1, none⟩) (by simp)
  have l2 := hb1.cell (p := ⟨w.heap.size, 2, none⟩) (by simp)
  simp at l0 l1 l2
  have HB1 : Hid (Below w.heap.size w w1) := (A0 _).trans (hb1.mono (by simp))
  have g2 := lawful_any e n a cap xs w1 (hs.below HB1.out (Nat.le_refl _)) hf
  rw [hyes] at g2
  clear hb1
  go_wp2_with fail
  refine g2.mono ?_
  rintro e' w2 ⟨rfl, hb2⟩
  clear g2
  have hs2 := hb2.size
  have l0 := (hb2.cell (p := ⟨w.heap.size, 0, none⟩) (by simp; omega)).trans l0
  have l1 := (hb2.cell (p := ⟨w.heap.size, 1, none⟩) (by simp; omega)).trans l1
  have l2 := (hb2.cell (p := ⟨w.heap.size, 2, none⟩) (by simp; omega)).trans l2
  have HB2 : Hid (Below w.heap.size w w2) := HB1.out.trans (hb2.mono (by omega))
  have hsl2 : SlAt w2 a xs := hs.below HB2.out (Nat.le_refl _)
  have g3 := mread_some bT (by omega) w2 (hE.below HB2.out (Nat.le_refl _)) e n xs (by rw [HbT'.out]; exact Mb.read_text hyes)
  clear hb2
  go_wp2_with fail
  refine g3.mono ?_
  rintro e' w3 ⟨a3, cap3, rfl, hb3, hsl3, hcap3, hnew3⟩
  clear g3 hnew3
  have hs3 := hb3.size
  have l0 := (hb3.cell (p := ⟨w.heap.size, 0, none⟩) (by simp; omega)).trans l0
  have l1 := (hb3.cell (p := ⟨w.heap.size, 1, none⟩) (by simp; omega)).trans l1
  have l2 := (hb3.cell (p := ⟨w.heap.size, 2, none⟩) (by simp; omega)).trans l2
  have HB3 : Hid (Below w.heap.size w w3) := HB2.out.trans (hb3.mono (by omega))
  have HBs : Hid (Below w2.heap.size w2 w3) := hb3
  have m0 : ∀ o, (w3.alloc o).cell? ⟨w.heap.size, 0, none⟩ = some (.int .i64 e) := fun o => (((Below.refl _ _).alloc (Nat.le_refl _) o).cell (p := ⟨w.heap.size, 0, none⟩) (by simp; omega)).trans l0
  have m1 : ∀ o, (w3.alloc o).cell? ⟨w.heap.size, 1, none⟩ = some (.int .i64 n) := fun o => (((Below.refl _ _).alloc (Nat.le_refl _) o).cell (p := ⟨w.heap.size, 1, none⟩) (by simp; omega)).trans l1
  have m2 : ∀ o, (w3.alloc o).cell? ⟨w.heap.size, 2, none⟩ = some (.slice a xs.length cap) := fun o => (((Below.refl _ _).alloc (Nat.le_refl _) o).cell (p := ⟨w.heap.size, 2, none⟩) (by simp; omega)).trans l2
  have g4 := fun o => same_any e n a3 a cap3 cap xs (w3.alloc o) (hsl3.below ((Below.refl _ _).alloc (Nat.le_refl _) o) (Nat.le_refl _)) ((hsl2.below HBs.out (Nat.le_refl _)).below ((Below.refl _ _).alloc (Nat.le_refl _) o) (Nat.le_refl _)) hl
  clear hb3 l0 l1 l2
  go_wp2_with fail
  refine (g4 _).mono ?_
  rintro e' w4 ⟨rfl, hb4⟩
  clear g4 m0 m1 m2
  have hs4 := hb4.size
  simp at hs4
  have HB4 : Hid (Below w.heap.size w w4) := (HB3.out.alloc (by omega) _).trans (hb4.mono (by simp; omega))
  clear hb4
  go_upto_region 17 with fail
  obtain ⟨m, hm⟩ : ∃ m : Nat, pos.tmod (bT.size : Int) = m := by
    have h1 : 0 ≤ pos.tmod (bT.size : Int) := Int.tmod_nonneg _ (by omega)
    exact ⟨(pos.tmod (bT.size : Int)).toNat, by omega⟩
  have hm2 : pos % (bT.size : Int) = m := by rw [← hm, Int.tmod_eq_emod_of_nonneg (by omega)]
  have hml : m < bT.size := by
    have h1 : pos.tmod (bT.size : Int) < bT.size := Int.tmod_lt_of_pos _ (by omega)
    omega
  have hcv : (convert 9 39 (.string bT)).run Tryd.prog w4 = .ok (.slice (some ⟨w4.heap.size, 0, none⟩) bT.size (grownCap w4 bT.size 0 5)) (Lib.bytesWorld w4 5 bT) := Lib.run_convert_string_bytes w4 9 39 5 bT Tryd.underlying9 Tryd.underlying39 Tryd.underlying5
  generalize hcp : grownCap w4 bT.size 0 5 = gc at hcv
  have hall : ∀ (j : Nat) (hj : j < bT.size), (Lib.bytesWorld w4 5 bT).cell? ⟨w4.heap.size, j, none⟩ = some (.int .u8 (bT[j].toNat : Int)) := by
    intro j hj
    rw [Lib.bytesWorld_cell w4 5 bT j hj]
    rw [List.getD_eq_getElem?_getD, List.getElem?_eq_getElem (by rw [← Lib.size_eq]; exact hj)]
    rfl
  have hbf := bytes_frozen w4 5 bT m hml
  have hbz := Lib.bytesWorld_size w4 5 bT
  have HBB : Hid (Below w4.heap.size w4 (Lib.bytesWorld w4 5 bT)) := Lib.bytesWorld_below _ _ _
  generalize hw5 : Lib.bytesWorld w4 5 bT = w5 at *
  have hbc := hall m hml
  have Hall : Hid (∀ (j : Nat) (hj : j < bT.size), w5.cell? ⟨w4.heap.size, j, none⟩ = some (.int .u8 (bT[j].toNat : Int))) := hall
  clear hw5 hcp hall
  have HB5 : Hid (Below w.heap.size w w5) := HB4.out.trans (HBB.out.mono (by omega))
  obtain ⟨cv, hcv8⟩ := byte_of v
  obtain ⟨cw, hcw8⟩ := byte_of (v + 1)
  have Hcv8 : Hid ((cv.toNat : Int) = v % 256) := hcv8
  have Hcw8 : Hid ((cw.toNat : Int) = (v + 1) % 256) := hcw8
  clear hcv8 hcw8
  -- the text with the byte c at m
  have hback : ∀ (c : UInt8) (X : Int), (c.toNat : Int) = X → ∃ bX : ByteArray, bX.data.toList = (Mb.textOf e n xs).set m c ∧ (convert 39 9 (.slice (some ⟨w4.heap.size, 0, none⟩) bT.size gc)).run Tryd.prog (w5.setCell ⟨w4.heap.size, m, none⟩ (.int .u8 X)) = .ok (.string bX) (w5.setCell ⟨w4.heap.size, m, none⟩ (.int .u8 X)) := by
    intro c X hX
    have hlen : ((Mb.textOf e n xs).set m c).length = bT.size := by rw [List.length_set, ← HbT'.out, ← Lib.size_eq]
    refine ⟨⟨((Mb.textOf e n xs).set m c).toArray⟩, rfl, ?_⟩
    have := run_convert_bytes_back (P := Tryd.prog) (w5.setCell ⟨w4.heap.size, m, none⟩ (.int .u8 X)) 39 9 5 ⟨w4.heap.size, 0, none⟩ gc ((Mb.textOf e n xs).set m c) Tryd.underlying39 Tryd.underlying5 Tryd.underlying9 (fun j hj => by
      rw [Lib.add_plain, Nat.zero_add, List.getElem_set]
      by_cases hjm : m = j
      · subst hjm
        rw [if_pos rfl, World.cell?_setCell_same _ _ _ hbc, hX]
      · rw [if_neg hjm, World.cell?_setCell_other _ _ _ _ (by intro h; injection h with h1 h2; omega)]
        have hj' : j < bT.size := by rw [hlen] at hj; exact hj
        rw [Hall.out j hj']
        have : bT[j] = (Mb.textOf e n xs)[j]'(by rw [List.length_set] at hj; exact hj) := by
          have h2 : bT[j] = bT.data.toList[j]'(by rw [← Lib.size_eq]; exact hj') := rfl
          rw [h2]
          simp only [HbT'.out]
        rw [this])
    rw [hlen] at this
    exact this
  have hTm : bT[m] = (Mb.textOf e n xs)[m]'(by rw [← HbT'.out, ← Lib.size_eq]; exact hml) := by
    have h2 : bT[m] = bT.data.toList[m]'(by rw [← Lib.size_eq]; exact hml) := rfl
    rw [h2]
    simp only [HbT'.out]
  have HTm : Hid (bT[m] = (Mb.textOf e n xs)[m]'(by rw [← HbT'.out, ← Lib.size_eq]; exact hml)) := hTm
  clear hTm
  -- the byte that is laid there
  obtain ⟨c, X, hXc, hcne, hX⟩ : ∃ (c : UInt8) (X : Int), (c.toNat : Int) = X ∧ c ≠ bT[m] ∧ (((bT[m].toNat : Int) == v % 256) = true ∧ X = (v + 1) % 256 ∨ ((bT[m].toNat : Int) == v % 256) = false ∧ X = v % 256) := by
    by_cases hq : ((bT[m].toNat : Int) == v % 256) = true
    · refine ⟨cw, _, Hcw8.out, fun h => ?_, Or.inl ⟨hq, rfl⟩⟩
      have h1 := Hcw8.out
      rw [h] at h1
      have h2 : (bT[m].toNat : Int) = v % 256 := by simpa using hq
      omega
    · have hq : ((bT[m].toNat : Int) == v % 256) = false := by simpa using hq
      refine ⟨cv, _, Hcv8.out, fun h => ?_, Or.inr ⟨hq, rfl⟩⟩
      have h1 := Hcv8.out
      rw [h] at h1
      rw [h1] at hq
      simp at hq
  obtain ⟨bX, hbX, hcb⟩ := hback c X hXc
  have gX := fun W (hW : Env W) => mread_none bX (by rw [Lib.size_eq, hbX, List.length_set, ← HbT'.out, ← Lib.size_eq]; omega) W hW (by
    rw [hbX]
    exact read_turned hyes m (by rw [← HbT'.out, ← Lib.size_eq]; exact hml) c (by rw [← HTm.out]; exact hcne))
  clear hback hXc hcne hbX
  have HB6 : Hid (Below w.heap.size w (w5.setCell ⟨w4.heap.size, m, none⟩ (.int .u8 X))) := HB5.out.setCell (by simp; omega) _
  -- the text without its last byte
  have gC := fun W (hW : Env W) => mread_none (bT.extract 0 (bT.size - 1)) (by rw [ByteArray.size_extract]; omega) W hW (by
    rw [Lib.extract_data, HbT'.out, List.drop_zero]
    have : (Mb.textOf e n xs).take (bT.size - 1 - 0) = (Mb.textOf e n xs).dropLast := by
      rw [List.dropLast_eq_take, Lib.size_eq, HbT'.out]
      rfl
    rw [this]; exact read_cut e n xs)
  -- the text with one byte more
  obtain ⟨bV, HbV, HbV'⟩ := named_bytes [cv]
  have HcB2 : Hid (∀ W : World, W.cell? ⟨W.heap.size - 1, 0, none⟩ = some (.int .u8 (v % 256)) → 0 < W.heap.size → (convert 39 9 (.slice (some ⟨W.heap.size - 1, 0, none⟩) 1 1)).run Tryd.prog W = .ok (.string bV) W) := by
    unfold Hid
    intro W hW h0
    have := run_convert_bytes_back (P := Tryd.prog) W 39 9 5 ⟨W.heap.size - 1, 0, none⟩ 1 [cv] Tryd.underlying39 Tryd.underlying5 Tryd.underlying9 (fun j hj => by
      have : j = 0 := by simp at hj; omega
      subst this
      rw [Lib.add_plain]
      simp only [Nat.add_zero, List.getElem_cons_zero]
      rw [hW, Hcv8.out])
    rw [HbV.out]; exact this
  obtain ⟨bM, HbM, kM⟩ := cat_run Tryd.prog bT bV (by rw [HbT'.out, HbV'.out, ← HbT'.out, ← Lib.size_eq]; simp; omega)
  have gM := fun W (hW : Env W) => mread_none bM (by rw [Lib.size_eq, HbM.out, List.length_append, HbV'.out, ← Lib.size_eq]; simp; omega) W hW (by
    rw [HbM.out, HbT'.out, HbV'.out]; exact read_more e n xs cv)
  rcases hX with ⟨hq, rfl⟩ | ⟨hq, rfl⟩
  · go_wp2_with fail
    refine (gX _ (hE.below HB6.out (Nat.le_refl _))).mono ?_
    rintro e' w7 ⟨rfl, hb7⟩
    have hs7 := hb7.size
    simp at hs7
    have HB7 : Hid (Below w.heap.size w w7) := HB6.out.trans (hb7.mono (by simp; omega))
    clear hb7 gX hcb hcv hbc hbf
    go_wp2_with fail
    refine (gC _ (hE.below HB7.out (Nat.le_refl _))).mono ?_
    rintro e' w8 ⟨rfl, hb8⟩
    have hs8 := hb8.size
    have HB8 : Hid (Below w.heap.size w w8) := HB7.out.trans (hb8.mono (by omega))
    clear hb8 gC
    have hc2 := HcB2.out (w8.alloc (.cells #[.int .u8 (v % 256)] 5)) (by simp) (by simp)
    simp only [World.size_alloc, Nat.add_sub_cancel] at hc2
    go_wp2_with fail
    refine (gM _ (hE.below (HB8.out.alloc (by omega) _) (Nat.le_refl _))).mono ?_
    rintro e' w9 ⟨rfl, hb9⟩
    have HB9 : Hid (Below w.heap.size w w9) := (HB8.out.alloc (by omega) _).trans (hb9.mono (by simp; omega))
    have hs9 := hb9.size
    simp at hs9
    clear hb9 gM
    go_wp2
    go_ret
    exact ⟨rfl, HB9.out.alloc (by omega) _⟩
  · go_wp2_with fail
    refine (gX _ (hE.below HB6.out (Nat.le_refl _))).mono ?_
    rintro e' w7 ⟨rfl, hb7⟩
    have hs7 := hb7.size
    simp at hs7
    have HB7 : Hid (Below w.heap.size w w7) := HB6.out.trans (hb7.mono (by simp; omega))
    clear hb7 gX hcb hcv hbc hbf
    go_wp2_with fail
    refine (gC _ (hE.below HB7.out (Nat.le_refl _))).mono ?_
    rintro e' w8 ⟨rfl, hb8⟩
    have hs8 := hb8.size
    have HB8 : Hid (Below w.heap.size w w8) := HB7.out.trans (hb8.mono (by omega))
    clear hb8 gC
    have hc2 := HcB2.out (w8.alloc (.cells #[.int .u8 (v % 256)] 5)) (by simp) (by simp)
    simp only [World.size_alloc, Nat.add_sub_cancel] at hc2
    go_wp2_with fail
    refine (gM _ (hE.below (HB8.out.alloc (by omega) _) (Nat.le_refl _))).mono ?_
    rintro e' w9 ⟨rfl, hb9⟩
    have HB9 : Hid (Below w.heap.size w w9) := (HB8.out.alloc (by omega) _).trans (hb9.mono (by simp; omega))
    have hs9 := hb9.size
    simp at hs9
    clear hb9 gM
    go_wp2
    go_ret
    exact ⟨rfl, HB9.out.alloc (by omega) _⟩

end Go.Proofs.YtldgiecjnmkajaaDoor
