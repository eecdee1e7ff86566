/-
  OWN TEXT: slices.insertionSortCmpFunc of files by their names.
  OWN TEXT: slices.SortFunc of files by their names, of at most 12.
-/
import Derived.Test.YtamglanahpcedaaGreatDoorFileM
import Derived.Test.YtamglanahpcedaaGreatDoorFolderDE
namespace Go.Proofs.YtamglanahpcedaaGreatDoor
open Go.RowKit Go.Lib

theorem brk_no {brk : List Nat} {listed : Array Bool} {p : Prop} (h0 : unbrk brk listed = false) : unbrk brk listed = true → p := fun h => by rw [h0] at h; cases h
theorem file_put {w : World} {b o : Nat} {n d : ByteArray} {u0 u1 : Value} (c0 : w.cell? ⟨b, o, none⟩ = some u0) (c1 : w.cell? ⟨b, o + 1, none⟩ = some u1) (f0 : w.frozen? ⟨b, o, none⟩ = false) (f1 : w.frozen? ⟨b, o + 1, none⟩ = false) :
    (Instr.storeAt 48 (.pointer (some ⟨b, o, none⟩)) (.agg #[.string n, .string d])).run Tryz.prog w = .ok () ((w.setCell ⟨b, o, none⟩ (.string n)).setCell ⟨b, o + 1, none⟩ (.string d)) := by
  go_simp
theorem ownF_put {w : World} {B g n cap : Nat} {xs : List Mb.Fl} (h : OwnF w B (.slice (some ⟨g, 0, none⟩) n cap) xs) (hn : xs.length = n) {k : Nat} (hk : k < n) (nm d : ByteArray) : OwnF ((w.setCell ⟨g, k * 2, none⟩ (.string nm)).setCell ⟨g, k * 2 + 1, none⟩ (.string d)) B (.slice (some ⟨g, 0, none⟩) n cap) (xs.set k ⟨nm.data.toList, d.data.toList⟩) := by
  subst hn
  unfold OwnF
  rw [List.length_set, flCells_set _ _ _ hk]
  exact own_set (own_set h (k * 2) (.string nm)) (k * 2 + 1) (.string d)
theorem row_at (ys rest : List Mb.Fl) (x : Mb.Fl) {j : Nat} (hj : j ≤ ys.length) : (ys.take j ++ x :: (ys.drop j ++ rest))[j]? = some x := by
  rw [List.getElem?_append_right (by simp; omega)]
  simp [hj]
theorem row_ahead (ys rest : List Mb.Fl) (x : Mb.Fl) {j : Nat} (hj : j ≤ ys.length) (h0 : 0 < j) : (ys.take j ++ x :: (ys.drop j ++ rest))[j - 1]? = ys[j - 1]? := by
  rw [List.getElem?_append_left (by simp; omega), List.getElem?_take_of_lt (by omega)]
theorem row_swap (ys rest : List Mb.Fl) (x y : Mb.Fl) {j : Nat} (hj : j ≤ ys.length) (h0 : 0 < j) (hy : ys[j - 1]? = some y) : ((ys.take j ++ x :: (ys.drop j ++ rest)).set j y).set (j - 1) x = ys.take (j - 1) ++ x :: (ys.drop (j - 1) ++ rest) := by
  obtain ⟨m, rfl⟩ : ∃ m, j = m + 1 := ⟨j - 1, by omega⟩
  simp only [Nat.add_sub_cancel] at hy ⊢
  have hm : m < ys.length := by omega
  have e1 : ys.take (m + 1) = ys.take m ++ [y] := by
    rw [List.take_succ_eq_append_getElem hm]
    have : ys[m] = y := by rw [List.getElem?_eq_getElem hm] at hy; exact Option.some.inj hy
    rw [this]
  have e2 : ys.drop m = y :: ys.drop (m + 1) := by
    rw [List.drop_eq_getElem_cons hm]
    have : ys[m] = y := by rw [List.getElem?_eq_getElem hm] at hy; exact Option.some.inj hy
    rw [this]
  have hl : (ys.take m).length = m := by simp; omega
  rw [e1, e2, List.append_assoc]
  rw [List.set_append_right _ _ (by rw [hl]; omega), hl]
  simp only [Nat.add_sub_cancel_left]
  rw [List.set_append_right _ _ (by rw [hl]; omega), hl]
  simp

set_option maxRecDepth 100000 in
set_option maxHeartbeats 4000000 in
theorem insertion_any {w : World} {B g n cap : Nat} {xs : List Mb.Fl} (ho : OwnF w B (.slice (some ⟨g, 0, none⟩) n cap) xs) (hn : xs.length = n) (hn0 : 1 ≤ n) (hl : n ≤ 1000) :
    Calls Tryz.prog 88 #[.slice (some ⟨g, 0, none⟩) n cap, .int .i64 0, .int .i64 (n : Int), .func (.func 38) #[] #[]] w fun e w' => e = .returned (.tuple #[]) ∧ ∃ ys, Mb.Sorts xs ys ∧ OwnF w' B (.slice (some ⟨g, 0, none⟩) n cap) ys ∧ But g none w w' := by
  have Ho := Lib.hid ho
  have Hn := Lib.hid hn
  have hgW : g < w.heap.size := (ho.lt g rfl).2
  clear ho hn
  go_enter Tryz.func88, Tryz.ntmps88
  go_wp2_with fail
  go_loopw [8, 9] (fun i _ wr => ∃ (k : Nat) (ys : List Mb.Fl), 1 ≤ k ∧ k ≤ n ∧ i = .int .i64 k ∧ Hid (Mb.Sorts (xs.take k) ys) ∧ Hid (OwnF wr B (.slice (some ⟨g, 0, none⟩) n cap) (ys ++ xs.drop k)) ∧ Hid (But g none w wr)) (fun i _ _ => n - (RowKit.intOf i).toNat)
  case atStart =>
    refine ⟨1, xs.take 1, Nat.le_refl _, hn0, rfl, ?_, by unfold Hid; rw [List.take_append_drop]; exact Ho.out, But.of_below (Below.refl _ _)⟩
    have h0 : 0 < xs.length := by rw [Hn.out]; omega
    have e : xs.take 1 = [] ++ [xs[0]] := by
      cases xs with
      | nil => simp at h0
      | cons x r => rfl
    unfold Hid
    rw [e]
    exact Mb.Sorts.snoc (j := 0) Mb.Sorts.nil ⟨Nat.le_refl _, fun k y _ hy => by simp at hy, Or.inl rfl⟩
  case round =>
    obtain ⟨k, ys, hk1, hkn, rfl, hSo, hO, hbt⟩ := hrel
    by_cases hlt : k < n
    · have hyl : Hid (ys.length = k) := by unfold Hid; rw [hSo.out.length]; simp [Hn.out]; omega
      have hxk : k < xs.length := by rw [Hn.out]; exact hlt
      have hdrop : xs.drop k = xs[k] :: xs.drop (k + 1) := List.drop_eq_getElem_cons hxk
      go_wp2_with fail
      rename World => wo
      go_loopw [9] (fun j wr => ∃ (j' : Nat), j' ≤ k ∧ j = .int .i64 j' ∧ Hid (OwnF wr B (.slice (some ⟨g, 0, none⟩) n cap) (ys.take j' ++ xs[k] :: (ys.drop j' ++ xs.drop (k + 1)))) ∧ Hid (∀ m y, j' ≤ m → ys[m]? = some y → Op.bytesLess xs[k].name y.name = true) ∧ Hid (But g none w wr)) (fun j _ => (RowKit.intOf j).toNat)
      case atStart =>
        refine ⟨k, Nat.le_refl _, rfl, ?_, ?_, hbt⟩
        · unfold Hid
          have h1 := hO.out
          rw [hdrop] at h1
          rw [List.take_of_length_le (by rw [hyl.out]; omega), List.drop_eq_nil_of_le (by rw [hyl.out]; omega)]
          simpa using h1
        · intro m y hm hy
          have := (List.getElem?_eq_some_iff.1 hy).1
          rw [hyl.out] at this
          omega
      case round =>
      obtain ⟨j, hjk, rfl, hOr, hgt', hbr⟩ := hrel
      have Hdrop := Lib.hid hdrop
      clear hdrop
      have hjn : j < n := by omega
      have hlen : Hid ((ys.take j ++ xs[k] :: (ys.drop j ++ xs.drop (k + 1))).length = n) := by unfold Hid; simp [hyl.out, Hn.out]; omega
      have hgw : g < wr.heap.size := (hOr.out.lt g rfl).2
      obtain ⟨xn, Hxn, Hxn'⟩ := named_bytes xs[k].name
      obtain ⟨xd, Hxd, Hxd'⟩ := named_bytes xs[k].data
      rcases Nat.eq_zero_or_pos j with hj0 | hj0
      · have hgt : ∀ w, (do eqGuard .gtr 3 (.tmp 18) (.tmp 19) (.int .i64 (j : Int)) (.int .i64 0); binOp .gtr 3 (.int .i64 (j : Int)) (.int .i64 0) : Sem Value).run Tryz.prog w = .ok (.bool false) w := fun w => by
          have : ¬ (0 : Int) < (j : Int) := by omega
          go_simp
        have HJ0 := Lib.hid hj0
        clear hj0
        go_wp2_with fail
        refine region_late [] (fun w' : World => True) 17 rfl (by kernel_rfl) trivial (fun a' Q hA hQ hP hS => ?_)
        have z : a'.tmps.size = 53 := by rw [hA.out]; rfl
        have e0 : a'.eval (.tmp 0) = Value.slice (some ⟨g, 0, none⟩) n cap := by rw [hA.out]; rfl
        have e1 : a'.eval (.tmp 1) = Value.int .i64 0 := by rw [hA.out]; rfl
        have e3 : a'.eval (.tmp 3) = Value.func (.func 38) #[] #[] := by rw [hA.out]; rfl
        have e9 : a'.eval (.tmp 9) = Value.int .i64 (j : Int) := by rw [hA.out]; rfl
        refine tkp (i := 0) (d := (some 18)) rfl rfl (by kernel_rfl) hP (wanted_all rfl) (fun wx => run_move rfl e9) hS ?_
        refine tkp (i := 1) (d := (some 19)) rfl rfl (by kernel_rfl) hP (wanted_all rfl) (fun wx => run_move rfl (evq (by decide) e1)) hS ?_
        refine tkp (i := 2) (d := (some 20)) rfl rfl (by kernel_rfl) hP (wanted_all rfl) (fun wx => run_bin (v := .bool false) rfl (evq (by decide) (eve (Nat.lt_of_lt_of_eq (by decide : 18 < 53) z.symm))) (eve (Nat.lt_of_lt_of_eq (by decide : 19 < 53) (szq z).symm)) (hgt wx)) hS ?_
        refine tkp (i := 3) (d := (some 21)) rfl rfl (by kernel_rfl) hP (wanted_all rfl) (fun wx => run_move rfl (eve (Nat.lt_of_lt_of_eq (by decide : 20 < 53) (szq (szq z)).symm))) hS ?_
        refine tknv (i := 4) (d := (some 22)) rfl rfl (by kernel_rfl) hP (wanted_no (e := 21) (b := true) rfl rfl (eve (Nat.lt_of_lt_of_eq (by decide : 21 < 53) (szq (szq (szq z))).symm))) hS ?_
        refine tknv (i := 5) (d := (some 23)) rfl rfl (by kernel_rfl) hP (wanted_no (e := 21) (b := true) rfl rfl (evq (by decide) (eve (Nat.lt_of_lt_of_eq (by decide : 21 < 53) (szq (szq (szq z))).symm)))) hS ?_
        refine tknv (i := 6) (d := (some 24)) rfl rfl (by kernel_rfl) hP (wanted_no (e := 21) (b := true) rfl rfl (evq (by decide) (evq (by decide) (eve (Nat.lt_of_lt_of_eq (by decide : 21 < 53) (szq (szq (szq z))).symm))))) hS ?_
        refine tknv (i := 7) (d := (some 25)) rfl rfl (by kernel_rfl) hP (wanted_no (e := 21) (b := true) rfl rfl (evq (by decide) (evq (by decide) (evq (by decide) (eve (Nat.lt_of_lt_of_eq (by decide : 21 < 53) (szq (szq (szq z))).symm)))))) hS ?_
        refine tknv (i := 8) (d := (some 26)) rfl rfl (by kernel_rfl) hP (wanted_no (e := 21) (b := true) rfl rfl (evq (by decide) (evq (by decide) (evq (by decide) (evq (by decide) (eve (Nat.lt_of_lt_of_eq (by decide : 21 < 53) (szq (szq (szq z))).symm))))))) hS ?_
        refine tknv (i := 9) (d := (some 27)) rfl rfl (by kernel_rfl) hP (wanted_no (e := 21) (b := true) rfl rfl (evq (by decide) (evq (by decide) (evq (by decide) (evq (by decide) (evq (by decide) (eve (Nat.lt_of_lt_of_eq (by decide : 21 < 53) (szq (szq (szq z))).symm)))))))) hS ?_
        refine tknv (i := 10) (d := (some 28)) rfl rfl (by kernel_rfl) hP (wanted_no (e := 21) (b := true) rfl rfl (evq (by decide) (evq (by decide) (evq (by decide) (evq (by decide) (evq (by decide) (evq (by decide) (eve (Nat.lt_of_lt_of_eq (by decide : 21 < 53) (szq (szq (szq z))).symm))))))))) hS ?_
        refine tknv (i := 11) (d := (some 29)) rfl rfl (by kernel_rfl) hP (wanted_no (e := 21) (b := true) rfl rfl (evq (by decide) (evq (by decide) (evq (by decide) (evq (by decide) (evq (by decide) (evq (by decide) (evq (by decide) (eve (Nat.lt_of_lt_of_eq (by decide : 21 < 53) (szq (szq (szq z))).symm)))))))))) hS ?_
        refine tknv (i := 12) (d := (some 30)) rfl rfl (by kernel_rfl) hP (wanted_no (e := 21) (b := true) rfl rfl (evq (by decide) (evq (by decide) (evq (by decide) (evq (by decide) (evq (by decide) (evq (by decide) (evq (by decide) (evq (by decide) (eve (Nat.lt_of_lt_of_eq (by decide : 21 < 53) (szq (szq (szq z))).symm))))))))))) hS ?_
        refine tknv (i := 13) (d := (some 31)) rfl rfl (by kernel_rfl) hP (wanted_no (e := 21) (b := true) rfl rfl (evq (by decide) (evq (by decide) (evq (by decide) (evq (by decide) (evq (by decide) (evq (by decide) (evq (by decide) (evq (by decide) (evq (by decide) (eve (Nat.lt_of_lt_of_eq (by decide : 21 < 53) (szq (szq (szq z))).symm)))))))))))) hS ?_
        refine tknv (i := 14) (d := (some 32)) rfl rfl (by kernel_rfl) hP (wanted_no (e := 21) (b := true) rfl rfl (evq (by decide) (evq (by decide) (evq (by decide) (evq (by decide) (evq (by decide) (evq (by decide) (evq (by decide) (evq (by decide) (evq (by decide) (evq (by decide) (eve (Nat.lt_of_lt_of_eq (by decide : 21 < 53) (szq (szq (szq z))).symm))))))))))))) hS ?_
        refine tknv (i := 15) (d := (some 33)) rfl rfl (by kernel_rfl) hP (wanted_no (e := 21) (b := true) rfl rfl (evq (by decide) (evq (by decide) (evq (by decide) (evq (by decide) (evq (by decide) (evq (by decide) (evq (by decide) (evq (by decide) (evq (by decide) (evq (by decide) (evq (by decide) (eve (Nat.lt_of_lt_of_eq (by decide : 21 < 53) (szq (szq (szq z))).symm)))))))))))))) hS ?_
        refine tkp (i := 16) (d := (some 34)) rfl rfl (by kernel_rfl) hP (wanted_all rfl) (fun wx => run_pick (v := .bool false) rfl (evq (by decide) (evq (by decide) (evq (by decide) (evq (by decide) (evq (by decide) (evq (by decide) (evq (by decide) (evq (by decide) (evq (by decide) (evq (by decide) (evq (by decide) (evq (by decide) (eve (Nat.lt_of_lt_of_eq (by decide : 21 < 53) (szq (szq (szq z))).symm)))))))))))))) (eve (Nat.lt_of_lt_of_eq (by decide : 33 < 53) (szq (szq (szq (szq (szq (szq (szq (szq (szq (szq (szq (szq (szq (szq (szq z))))))))))))))).symm)) rfl rfl) hS ?_
        refine wpAnyV_done (by kernel_rfl) (hQ.out _ _ ?_) _
        rw [hA.out]
        simp only [Act.put, List.setIfInBounds_toArray]
        dsimp only [List.set]
        clear hQ hP hA z hS Q a' e0 e1 e3 e9 
        go_wp2_with fail
        have hins : Mb.Ins ys xs[k] j := ⟨by rw [hyl.out]; exact hjk, fun m y hm hy => hgt'.out m y hm hy, Or.inl HJ0.out⟩
        have hfin := Mb.Sorts.snoc hSo.out hins
        refine ⟨⟨k + 1, ys.take j ++ xs[k] :: ys.drop j, by omega, by omega, by simp, ?_, ?_, hbr.out.below ((Below.refl _ _).drew)⟩, by simp [RowKit.intOf]; omega⟩
        · have e : xs.take (k + 1) = xs.take k ++ [xs[k]] := List.take_succ_eq_append_getElem hxk
          rw [e]; exact hfin
        · have h1 := hOr.out.below ((Below.refl _ _).drew)
          unfold Hid
          simpa using h1
      · have hjm : j - 1 < n := by omega
        have hgt : ∀ w, (do eqGuard .gtr 3 (.tmp 18) (.tmp 19) (.int .i64 (j : Int)) (.int .i64 0); binOp .gtr 3 (.int .i64 (j : Int)) (.int .i64 0) : Sem Value).run Tryz.prog w = .ok (.bool true) w := fun w => by
          have : (0 : Int) < (j : Int) := by omega
          go_simp
        have hwr : IntKind.i64.wrap ((j : Int) - 1) = ((j - 1 : Nat) : Int) := by rw [IntWalk.i64_in _ (by omega)]; omega
        have hsub : ∀ w, (do eqGuard .sub 3 (.tmp 28) (.const (.int .i64 1)) (.int .i64 (j : Int)) (.int .i64 1); binOp .sub 3 (.int .i64 (j : Int)) (.int .i64 1) : Sem Value).run Tryz.prog w = .ok (.int .i64 ((j - 1 : Nat) : Int)) w := fun w => by go_simp
        have hsub2 : ∀ w, (do eqGuard .sub 3 (.tmp 40) (.const (.int .i64 1)) (.int .i64 (j : Int)) (.int .i64 1); binOp .sub 3 (.int .i64 (j : Int)) (.int .i64 1) : Sem Value).run Tryz.prog w = .ok (.int .i64 ((j - 1 : Nat) : Int)) w := fun w => by go_simp
        have hsub3 : ∀ w, (do eqGuard .sub 3 (.tmp 43) (.const (.int .i64 1)) (.int .i64 (j : Int)) (.int .i64 1); binOp .sub 3 (.int .i64 (j : Int)) (.int .i64 1) : Sem Value).run Tryz.prog w = .ok (.int .i64 ((j - 1 : Nat) : Int)) w := fun w => by go_simp
        have hym : j - 1 < ys.length := by rw [hyl.out]; omega
        obtain ⟨yy, hy⟩ : ∃ y, Hid (ys[j - 1]? = some y) := ⟨_, List.getElem?_eq_getElem hym⟩
        obtain ⟨yn, Hyn, Hyn'⟩ := named_bytes yy.name
        obtain ⟨yd, Hyd, Hyd'⟩ := named_bytes yy.data
        have hOw := hOr.out
        unfold OwnF at hOw
        rw [hlen.out] at hOw
        have gx := flCells_get _ _ _ (row_at ys (xs.drop (k + 1)) xs[k] (j := j) (by rw [hyl.out]; exact hjk))
        have gy := flCells_get _ _ _ ((row_ahead ys (xs.drop (k + 1)) xs[k] (j := j) (by rw [hyl.out]; exact hjk) hj0).trans hy.out)
        rw [← Hxn.out, ← Hxd.out] at gx
        rw [← Hyn.out, ← Hyd.out] at gy
        have x0 : wr.cell? ⟨g, j * 2, none⟩ = some (.string xn) := own_cell hOw gx.1
        have x1 : wr.cell? ⟨g, j * 2 + 1, none⟩ = some (.string xd) := own_cell hOw gx.2
        have y0 : wr.cell? ⟨g, (j - 1) * 2, none⟩ = some (.string yn) := own_cell hOw gy.1
        have y1 : wr.cell? ⟨g, (j - 1) * 2 + 1, none⟩ = some (.string yd) := own_cell hOw gy.2
        have hfz0 : ∀ o, wr.frozen? ⟨g, o, none⟩ = false := own_frozen hOw
        have HOw := Lib.hid hOw
        have HJ0 := Lib.hid hj0
        have HYM := Lib.hid hym
        clear hOw gx gy hwr hj0
        rcases Bool.eq_false_or_eq_true (Op.bytesLess xs[k].name yy.name) with hless | hless
        · have hcmp : ∀ w, (do eqGuard .lss 3 (.tmp 32) (.const (.int .i64 0)) (.int .i64 (Mb.cmp xn.data.toList yn.data.toList)) (.int .i64 0); binOp .lss 3 (.int .i64 (Mb.cmp xn.data.toList yn.data.toList)) (.int .i64 0) : Sem Value).run Tryz.prog w = .ok (.bool true) w := fun w => by
            have : Mb.cmp xn.data.toList yn.data.toList < 0 := by rw [Mb.cmp_neg, Hxn'.out, Hyn'.out]; exact hless
            go_simp
          have Hless := Lib.hid hless
          clear hless
          go_wp2_with fail
          refine region_late [] (fun w' : World => w'.cell? ⟨g, j * 2, none⟩ = some (.string xn) ∧ w'.cell? ⟨g, j * 2 + 1, none⟩ = some (.string xd) ∧ w'.cell? ⟨g, (j - 1) * 2, none⟩ = some (.string yn) ∧ w'.cell? ⟨g, (j - 1) * 2 + 1, none⟩ = some (.string yd)) 17 rfl (by kernel_rfl) ⟨x0, x1, y0, y1⟩ (fun a' Q hA hQ hP hS => ?_)
          have z : a'.tmps.size = 53 := by rw [hA.out]; rfl
          have e0 : a'.eval (.tmp 0) = Value.slice (some ⟨g, 0, none⟩) n cap := by rw [hA.out]; rfl
          have e1 : a'.eval (.tmp 1) = Value.int .i64 0 := by rw [hA.out]; rfl
          have e3 : a'.eval (.tmp 3) = Value.func (.func 38) #[] #[] := by rw [hA.out]; rfl
          have e9 : a'.eval (.tmp 9) = Value.int .i64 (j : Int) := by rw [hA.out]; rfl
          refine tkp (i := 0) (d := (some 18)) rfl rfl (by kernel_rfl) hP (wanted_all rfl) (fun wx => run_move rfl e9) hS ?_
          refine tkp (i := 1) (d := (some 19)) rfl rfl (by kernel_rfl) hP (wanted_all rfl) (fun wx => run_move rfl (evq (by decide) e1)) hS ?_
          refine tkp (i := 2) (d := (some 20)) rfl rfl (by kernel_rfl) hP (wanted_all rfl) (fun wx => run_bin (v := .bool true) rfl (evq (by decide) (eve (Nat.lt_of_lt_of_eq (by decide : 18 < 53) z.symm))) (eve (Nat.lt_of_lt_of_eq (by decide : 19 < 53) (szq z).symm)) (hgt wx)) hS ?_
          refine tkp (i := 3) (d := (some 21)) rfl rfl (by kernel_rfl) hP (wanted_all rfl) (fun wx => run_move rfl (eve (Nat.lt_of_lt_of_eq (by decide : 20 < 53) (szq (szq z)).symm))) hS ?_
          refine tkp (i := 4) (d := (some 22)) rfl rfl (by kernel_rfl) hP (wanted_yes (e := 21) (b := true) rfl rfl (eve (Nat.lt_of_lt_of_eq (by decide : 21 < 53) (szq (szq (szq z))).symm))) (fun wx => run_move rfl (evq (by decide) (evq (by decide) (evq (by decide) (evq (by decide) e3))))) hS ?_
          refine tkp (i := 5) (d := (some 23)) rfl rfl (by kernel_rfl) hP (wanted_yes (e := 21) (b := true) rfl rfl (evq (by decide) (eve (Nat.lt_of_lt_of_eq (by decide : 21 < 53) (szq (szq (szq z))).symm)))) (fun wx => run_move rfl (evq (by decide) (evq (by decide) (evq (by decide) (evq (by decide) (evq (by decide) e0)))))) hS ?_
          refine tkp (i := 6) (d := (some 24)) rfl rfl (by kernel_rfl) hP (wanted_yes (e := 21) (b := true) rfl rfl (evq (by decide) (evq (by decide) (eve (Nat.lt_of_lt_of_eq (by decide : 21 < 53) (szq (szq (szq z))).symm))))) (fun wx => run_move rfl (evq (by decide) (evq (by decide) (evq (by decide) (evq (by decide) (evq (by decide) (evq (by decide) e9))))))) hS ?_
          refine tkp (i := 7) (d := (some 25)) rfl rfl (by kernel_rfl) hP (wanted_yes (e := 21) (b := true) rfl rfl (evq (by decide) (evq (by decide) (evq (by decide) (eve (Nat.lt_of_lt_of_eq (by decide : 21 < 53) (szq (szq (szq z))).symm)))))) (fun wx => run_index (v := .pointer (some ⟨g, j * 2, none⟩)) rfl (evq (by decide) (eve (Nat.lt_of_lt_of_eq (by decide : 23 < 53) (szq (szq (szq (szq (szq z))))).symm))) (eve (Nat.lt_of_lt_of_eq (by decide : 24 < 53) (szq (szq (szq (szq (szq (szq z)))))).symm)) (file_index0 hjn)) hS ?_
          refine tkv (i := 8) (d := (some 26)) rfl rfl (by kernel_rfl) hP (wanted_yes (e := 21) (b := true) rfl rfl (evq (by decide) (evq (by decide) (evq (by decide) (evq (by decide) (eve (Nat.lt_of_lt_of_eq (by decide : 21 < 53) (szq (szq (szq z))).symm))))))) (fun wx hw => run_load rfl (eve (Nat.lt_of_lt_of_eq (by decide : 25 < 53) (szq (szq (szq (szq (szq (szq (szq z))))))).symm)) (file_load hw.1 hw.2.1)) hS ?_
          refine tkp (i := 9) (d := (some 27)) rfl rfl (by kernel_rfl) hP (wanted_yes (e := 21) (b := true) rfl rfl (evq (by decide) (evq (by decide) (evq (by decide) (evq (by decide) (evq (by decide) (eve (Nat.lt_of_lt_of_eq (by decide : 21 < 53) (szq (szq (szq z))).symm)))))))) (fun wx => run_move rfl (evq (by decide) (evq (by decide) (evq (by decide) (evq (by decide) (evq (by decide) (evq (by decide) (evq (by decide) (evq (by decide) (evq (by decide) e0)))))))))) hS ?_
          refine tkp (i := 10) (d := (some 28)) rfl rfl (by kernel_rfl) hP (wanted_yes (e := 21) (b := true) rfl rfl (evq (by decide) (evq (by decide) (evq (by decide) (evq (by decide) (evq (by decide) (evq (by decide) (eve (Nat.lt_of_lt_of_eq (by decide : 21 < 53) (szq (szq (szq z))).symm))))))))) (fun wx => run_move rfl (evq (by decide) (evq (by decide) (evq (by decide) (evq (by decide) (evq (by decide) (evq (by decide) (evq (by decide) (evq (by decide) (evq (by decide) (evq (by decide) e9))))))))))) hS ?_
          refine tkp (i := 11) (d := (some 29)) rfl rfl (by kernel_rfl) hP (wanted_yes (e := 21) (b := true) rfl rfl (evq (by decide) (evq (by decide) (evq (by decide) (evq (by decide) (evq (by decide) (evq (by decide) (evq (by decide) (eve (Nat.lt_of_lt_of_eq (by decide : 21 < 53) (szq (szq (szq z))).symm)))))))))) (fun wx => run_bin (v := .int .i64 ((j - 1 : Nat) : Int)) rfl (eve (Nat.lt_of_lt_of_eq (by decide : 28 < 53) (szq (szq (szq (szq (szq (szq (szq (szq (szq (szq z)))))))))).symm)) rfl (hsub wx)) hS ?_
          refine tkp (i := 12) (d := (some 30)) rfl rfl (by kernel_rfl) hP (wanted_yes (e := 21) (b := true) rfl rfl (evq (by decide) (evq (by decide) (evq (by decide) (evq (by decide) (evq (by decide) (evq (by decide) (evq (by decide) (evq (by decide) (eve (Nat.lt_of_lt_of_eq (by decide : 21 < 53) (szq (szq (szq z))).symm))))))))))) (fun wx => run_index (v := .pointer (some ⟨g, (j - 1) * 2, none⟩)) rfl (evq (by decide) (evq (by decide) (eve (Nat.lt_of_lt_of_eq (by decide : 27 < 53) (szq (szq (szq (szq (szq (szq (szq (szq (szq z))))))))).symm)))) (eve (Nat.lt_of_lt_of_eq (by decide : 29 < 53) (szq (szq (szq (szq (szq (szq (szq (szq (szq (szq (szq z))))))))))).symm)) (file_index0 hjm)) hS ?_
          refine tkv (i := 13) (d := (some 31)) rfl rfl (by kernel_rfl) hP (wanted_yes (e := 21) (b := true) rfl rfl (evq (by decide) (evq (by decide) (evq (by decide) (evq (by decide) (evq (by decide) (evq (by decide) (evq (by decide) (evq (by decide) (evq (by decide) (eve (Nat.lt_of_lt_of_eq (by decide : 21 < 53) (szq (szq (szq z))).symm)))))))))))) (fun wx hw => run_load rfl (eve (Nat.lt_of_lt_of_eq (by decide : 30 < 53) (szq (szq (szq (szq (szq (szq (szq (szq (szq (szq (szq (szq z)))))))))))).symm)) (file_load hw.2.2.1 hw.2.2.2)) hS ?_
          refine gov_callv (i := 14) (d := (some 32)) (by kernel_rfl) rfl rfl (wanted_yes (e := 21) (b := true) rfl rfl (evq (by decide) (evq (by decide) (evq (by decide) (evq (by decide) (evq (by decide) (evq (by decide) (evq (by decide) (evq (by decide) (evq (by decide) (evq (by decide) (eve (Nat.lt_of_lt_of_eq (by decide : 21 < 53) (szq (szq (szq z))).symm))))))))))))) rfl (evq (by decide) (evq (by decide) (evq (by decide) (evq (by decide) (evq (by decide) (evq (by decide) (evq (by decide) (evq (by decide) (evq (by decide) (eve (Nat.lt_of_lt_of_eq (by decide : 22 < 53) (szq (szq (szq (szq z)))).symm))))))))))) Tryz.func38 (by kernel_rfl) rfl (args2 (evq (by decide) (evq (by decide) (evq (by decide) (evq (by decide) (evq (by decide) (eve (Nat.lt_of_lt_of_eq (by decide : 26 < 53) (szq (szq (szq (szq (szq (szq (szq (szq z)))))))).symm))))))) (eve (Nat.lt_of_lt_of_eq (by decide : 31 < 53) (szq (szq (szq (szq (szq (szq (szq (szq (szq (szq (szq (szq (szq z))))))))))))).symm))) (byName_any xn xd yn yd _) ?_
          rintro e w3 ⟨rfl, hb3⟩
          have hS3 : w3.cell? ⟨g, j * 2, none⟩ = some (.string xn) ∧ w3.cell? ⟨g, j * 2 + 1, none⟩ = some (.string xd) ∧ w3.cell? ⟨g, (j - 1) * 2, none⟩ = some (.string yn) ∧ w3.cell? ⟨g, (j - 1) * 2 + 1, none⟩ = some (.string yd) := ⟨(hb3.cell (p := ⟨g, j * 2, none⟩) hgw).trans x0, (hb3.cell (p := ⟨g, j * 2 + 1, none⟩) hgw).trans x1, (hb3.cell (p := ⟨g, (j - 1) * 2, none⟩) hgw).trans y0, (hb3.cell (p := ⟨g, (j - 1) * 2 + 1, none⟩) hgw).trans y1⟩
          refine ⟨_, rfl, fun _ => hS3, ?_⟩
          clear hS
          have hS := hS3
          refine gov_val (i := 15) (d := (some 33)) (by kernel_rfl) rfl rfl (wanted_yes (e := 21) (b := true) rfl rfl (evq (by decide) (evq (by decide) (evq (by decide) (evq (by decide) (evq (by decide) (evq (by decide) (evq (by decide) (evq (by decide) (evq (by decide) (evq (by decide) (evq (by decide) (eve (Nat.lt_of_lt_of_eq (by decide : 21 < 53) (szq (szq (szq z))).symm)))))))))))))) (run_bin (v := .bool true) rfl (eve (Nat.lt_of_lt_of_eq (by decide : 32 < 53) (szq (szq (szq (szq (szq (szq (szq (szq (szq (szq (szq (szq (szq (szq z)))))))))))))).symm)) rfl (hcmp _)) (fun _ => hS) ?_
          refine gov_val (i := 16) (d := (some 34)) (by kernel_rfl) rfl rfl (wanted_all rfl) (run_pick (v := .bool true) rfl (evq (by decide) (evq (by decide) (evq (by decide) (evq (by decide) (evq (by decide) (evq (by decide) (evq (by decide) (evq (by decide) (evq (by decide) (evq (by decide) (evq (by decide) (evq (by decide) (eve (Nat.lt_of_lt_of_eq (by decide : 21 < 53) (szq (szq (szq z))).symm)))))))))))))) (eve (Nat.lt_of_lt_of_eq (by decide : 33 < 53) (szq (szq (szq (szq (szq (szq (szq (szq (szq (szq (szq (szq (szq (szq (szq z))))))))))))))).symm)) rfl rfl) (fun _ => hS) ?_
          refine wpAnyV_done (by kernel_rfl) (hQ.out _ _ ?_) _
          rw [hA.out]
          simp only [Act.put, List.setIfInBounds_toArray]
          dsimp only [List.set]
          clear hQ hP hA z hS Q a' e0 e1 e3 e9 
          have hgw3 : g < w3.heap.size := Nat.lt_of_lt_of_le hgw hb3.size
          have hOw3 : OwnF w3 B (.slice (some ⟨g, 0, none⟩) n cap) (ys.take j ++ xs[k] :: (ys.drop j ++ xs.drop (k + 1))) := (hOr.out.below ((Below.refl _ _).drew)).below hb3
          have hbt3 : But g none w w3 := (hbr.out.below ((Below.refl _ _).drew)).below hb3
          have hfz : ∀ o, w3.drew.frozen? ⟨g, o, none⟩ = false := fun o => (hb3.frozen (p := ⟨g, o, none⟩) hgw).trans (hfz0 o)
          have hfz2 : ∀ o, ((w3.drew.setCell ⟨g, j * 2, none⟩ (.string yn)).setCell ⟨g, j * 2 + 1, none⟩ (.string yd)).frozen? ⟨g, o, none⟩ = false := fun o => by simp [hfz o]
          have hj1 := HJ0.out
          have u0 : ((w3.drew.setCell ⟨g, j * 2, none⟩ (.string yn)).setCell ⟨g, j * 2 + 1, none⟩ (.string yd)).cell? ⟨g, (j - 1) * 2, none⟩ = some (.string yn) := (World.cell?_setCell_other _ _ _ _ (by simp <;> omega)).trans ((World.cell?_setCell_other _ _ _ _ (by simp <;> omega)).trans hS3.2.2.1)
          have u1 : ((w3.drew.setCell ⟨g, j * 2, none⟩ (.string yn)).setCell ⟨g, j * 2 + 1, none⟩ (.string yd)).cell? ⟨g, (j - 1) * 2 + 1, none⟩ = some (.string yd) := (World.cell?_setCell_other _ _ _ _ (by simp <;> omega)).trans ((World.cell?_setCell_other _ _ _ _ (by simp <;> omega)).trans hS3.2.2.2)
          clear hj1 x0 x1 y0 y1
          go_wp2_with fail
          refine region_late [15, 17] (fun w' : World => w'.cell? ⟨g, j * 2, none⟩ = some (.string xn) ∧ w'.cell? ⟨g, j * 2 + 1, none⟩ = some (.string xd) ∧ w'.cell? ⟨g, (j - 1) * 2, none⟩ = some (.string yn) ∧ w'.cell? ⟨g, (j - 1) * 2 + 1, none⟩ = some (.string yd)) 18 rfl (by kernel_rfl) ⟨hS3.1, hS3.2.1, hS3.2.2.1, hS3.2.2.2⟩ (fun a' Q hA hQ hP hS => ?_)
          have z : a'.tmps.size = 53 := by rw [hA.out]; rfl
          have e0 : a'.eval (.tmp 0) = Value.slice (some ⟨g, 0, none⟩) n cap := by rw [hA.out]; rfl
          have e9 : a'.eval (.tmp 9) = Value.int .i64 (j : Int) := by rw [hA.out]; rfl
          refine tkp (i := 0) (d := (some 37)) rfl rfl (by kernel_rfl) hP (wanted_all rfl) (fun wx => run_move rfl e0) hS ?_
          refine tkp (i := 1) (d := (some 38)) rfl rfl (by kernel_rfl) hP (wanted_all rfl) (fun wx => run_move rfl (evq (by decide) e9)) hS ?_
          refine tkp (i := 2) (d := (some 39)) rfl rfl (by kernel_rfl) hP (wanted_all rfl) (fun wx => run_move rfl (evq (by decide) (evq (by decide) e0))) hS ?_
          refine tkp (i := 3) (d := (some 40)) rfl rfl (by kernel_rfl) hP (wanted_all rfl) (fun wx => run_move rfl (evq (by decide) (evq (by decide) (evq (by decide) e9)))) hS ?_
          refine tkp (i := 4) (d := (some 41)) rfl rfl (by kernel_rfl) hP (wanted_all rfl) (fun wx => run_bin (v := .int .i64 ((j - 1 : Nat) : Int)) rfl (eve (Nat.lt_of_lt_of_eq (by decide : 40 < 53) (szq (szq (szq z))).symm)) rfl (hsub2 wx)) hS ?_
          refine tkp (i := 5) (d := (some 42)) rfl rfl (by kernel_rfl) hP (wanted_all rfl) (fun wx => run_move rfl (evq (by decide) (evq (by decide) (evq (by decide) (evq (by decide) (evq (by decide) e0)))))) hS ?_
          refine tkp (i := 6) (d := (some 43)) rfl rfl (by kernel_rfl) hP (wanted_all rfl) (fun wx => run_move rfl (evq (by decide) (evq (by decide) (evq (by decide) (evq (by decide) (evq (by decide) (evq (by decide) e9))))))) hS ?_
          refine tkp (i := 7) (d := (some 44)) rfl rfl (by kernel_rfl) hP (wanted_all rfl) (fun wx => run_bin (v := .int .i64 ((j - 1 : Nat) : Int)) rfl (eve (Nat.lt_of_lt_of_eq (by decide : 43 < 53) (szq (szq (szq (szq (szq (szq z)))))).symm)) rfl (hsub3 wx)) hS ?_
          refine tkp (i := 8) (d := (some 45)) rfl rfl (by kernel_rfl) hP (wanted_all rfl) (fun wx => run_index (v := .pointer (some ⟨g, (j - 1) * 2, none⟩)) rfl (evq (by decide) (evq (by decide) (eve (Nat.lt_of_lt_of_eq (by decide : 42 < 53) (szq (szq (szq (szq (szq z))))).symm)))) (eve (Nat.lt_of_lt_of_eq (by decide : 44 < 53) (szq (szq (szq (szq (szq (szq (szq z))))))).symm)) (file_index0 hjm)) hS ?_
          refine tkv (i := 9) (d := (some 46)) rfl rfl (by kernel_rfl) hP (wanted_all rfl) (fun wx hw => run_load rfl (eve (Nat.lt_of_lt_of_eq (by decide : 45 < 53) (szq (szq (szq (szq (szq (szq (szq (szq z)))))))).symm)) (file_load hw.2.2.1 hw.2.2.2)) hS ?_
          refine tkp (i := 10) (d := (some 47)) rfl rfl (by kernel_rfl) hP (wanted_all rfl) (fun wx => run_move rfl (evq (by decide) (evq (by decide) (evq (by decide) (evq (by decide) (evq (by decide) (evq (by decide) (evq (by decide) (evq (by decide) (evq (by decide) (evq (by decide) e0))))))))))) hS ?_
          refine tkp (i := 11) (d := (some 48)) rfl rfl (by kernel_rfl) hP (wanted_all rfl) (fun wx => run_move rfl (evq (by decide) (evq (by decide) (evq (by decide) (evq (by decide) (evq (by decide) (evq (by decide) (evq (by decide) (evq (by decide) (evq (by decide) (evq (by decide) (evq (by decide) e9)))))))))))) hS ?_
          refine tkp (i := 12) (d := (some 49)) rfl rfl (by kernel_rfl) hP (wanted_all rfl) (fun wx => run_index (v := .pointer (some ⟨g, j * 2, none⟩)) rfl (evq (by decide) (eve (Nat.lt_of_lt_of_eq (by decide : 47 < 53) (szq (szq (szq (szq (szq (szq (szq (szq (szq (szq z)))))))))).symm))) (eve (Nat.lt_of_lt_of_eq (by decide : 48 < 53) (szq (szq (szq (szq (szq (szq (szq (szq (szq (szq (szq z))))))))))).symm)) (file_index0 hjn)) hS ?_
          refine tkv (i := 13) (d := (some 50)) rfl rfl (by kernel_rfl) hP (wanted_all rfl) (fun wx hw => run_load rfl (eve (Nat.lt_of_lt_of_eq (by decide : 49 < 53) (szq (szq (szq (szq (szq (szq (szq (szq (szq (szq (szq (szq z)))))))))))).symm)) (file_load hw.1 hw.2.1)) hS ?_
          refine tkp (i := 14) (d := (some 51)) rfl rfl (by kernel_rfl) hP (wanted_all rfl) (fun wx => run_index (v := .pointer (some ⟨g, j * 2, none⟩)) rfl (evq (by decide) (evq (by decide) (evq (by decide) (evq (by decide) (evq (by decide) (evq (by decide) (evq (by decide) (evq (by decide) (evq (by decide) (evq (by decide) (evq (by decide) (evq (by decide) (evq (by decide) (eve (Nat.lt_of_lt_of_eq (by decide : 37 < 53) z.symm))))))))))))))) (evq (by decide) (evq (by decide) (evq (by decide) (evq (by decide) (evq (by decide) (evq (by decide) (evq (by decide) (evq (by decide) (evq (by decide) (evq (by decide) (evq (by decide) (evq (by decide) (eve (Nat.lt_of_lt_of_eq (by decide : 38 < 53) (szq z).symm)))))))))))))) (file_index0 hjn)) hS ?_
          refine gov_store (i := 15) (w' := (w3.drew.setCell ⟨g, j * 2, none⟩ (.string yn)).setCell ⟨g, j * 2 + 1, none⟩ (.string yd)) (by kernel_rfl) rfl rfl rfl rfl (eve (Nat.lt_of_lt_of_eq (by decide : 51 < 53) (szq (szq (szq (szq (szq (szq (szq (szq (szq (szq (szq (szq (szq (szq z)))))))))))))).symm)) (evq (by decide) (evq (by decide) (evq (by decide) (evq (by decide) (evq (by decide) (eve (Nat.lt_of_lt_of_eq (by decide : 46 < 53) (szq (szq (szq (szq (szq (szq (szq (szq (szq z))))))))).symm))))))) (file_put hS3.1 hS3.2.1 (hfz _) (hfz _)) (brk_no (by kernel_rfl)) ?_
          refine gov_val (i := 16) (d := (some 52)) (by kernel_rfl) rfl rfl (wanted_all rfl) (run_index (v := .pointer (some ⟨g, (j - 1) * 2, none⟩)) rfl (evq (by decide) (evq (by decide) (evq (by decide) (evq (by decide) (evq (by decide) (evq (by decide) (evq (by decide) (evq (by decide) (evq (by decide) (evq (by decide) (evq (by decide) (evq (by decide) (eve (Nat.lt_of_lt_of_eq (by decide : 39 < 53) (szq (szq z)).symm)))))))))))))) (evq (by decide) (evq (by decide) (evq (by decide) (evq (by decide) (evq (by decide) (evq (by decide) (evq (by decide) (evq (by decide) (evq (by decide) (evq (by decide) (eve (Nat.lt_of_lt_of_eq (by decide : 41 < 53) (szq (szq (szq (szq z)))).symm)))))))))))) (file_index0 hjm)) (brk_no (by kernel_rfl)) ?_
          refine gov_store (i := 17) (w' := (((w3.drew.setCell ⟨g, j * 2, none⟩ (.string yn)).setCell ⟨g, j * 2 + 1, none⟩ (.string yd)).setCell ⟨g, (j - 1) * 2, none⟩ (.string xn)).setCell ⟨g, (j - 1) * 2 + 1, none⟩ (.string xd)) (by kernel_rfl) rfl rfl rfl rfl (eve (Nat.lt_of_lt_of_eq (by decide : 52 < 53) (szq (szq (szq (szq (szq (szq (szq (szq (szq (szq (szq (szq (szq (szq (szq z))))))))))))))).symm)) (evq (by decide) (evq (by decide) (eve (Nat.lt_of_lt_of_eq (by decide : 50 < 53) (szq (szq (szq (szq (szq (szq (szq (szq (szq (szq (szq (szq (szq z))))))))))))).symm)))) (file_put u0 u1 (hfz2 _) (hfz2 _)) (brk_no (by kernel_rfl)) ?_
          refine wpAnyV_done (by kernel_rfl) (hQ.out _ _ ?_) _
          rw [hA.out]
          simp only [Act.put, List.setIfInBounds_toArray]
          dsimp only [List.set]
          clear hQ hP hA z hS Q a' e0 e9 
          have hlen3 : (ys.take j ++ xs[k] :: (ys.drop j ++ xs.drop (k + 1))).length = n := hlen.out
          have hO5 := ownF_put (ownF_put (hOw3.below ((Below.refl _ _).drew)) hlen3 hjn yn yd) (by simpa using hlen3) hjm xn xd
          have ex : (⟨xn.data.toList, xd.data.toList⟩ : Mb.Fl) = xs[k] := by rw [Hxn'.out, Hxd'.out]
          have ey : (⟨yn.data.toList, yd.data.toList⟩ : Mb.Fl) = yy := by rw [Hyn'.out, Hyd'.out]
          rw [ex, ey, row_swap ys (xs.drop (k + 1)) xs[k] yy (by rw [hyl.out]; exact hjk) HJ0.out hy.out] at hO5
          have HO5 := Lib.hid hO5
          have HB5 := Lib.hid (((((hbt3.below ((Below.refl _ _).drew)).setCell (p := ⟨g, j * 2, none⟩) (Or.inl rfl) (.string yn)).setCell (p := ⟨g, j * 2 + 1, none⟩) (Or.inl rfl) (.string yd)).setCell (p := ⟨g, (j - 1) * 2, none⟩) (Or.inl rfl) (.string xn)).setCell (p := ⟨g, (j - 1) * 2 + 1, none⟩) (Or.inl rfl) (.string xd))
          clear hO5 hOw3 hbt3 hS3 u0 u1 hfz hfz2 hsub2 hsub3
          go_wp2_with fail
          have hj1 := HJ0.out
          refine ⟨⟨j - 1, by omega, by simp; omega, HO5, ?_, HB5⟩, by simp [RowKit.intOf]; omega⟩
          intro m y hm hy'
          rcases Nat.lt_or_ge m j with hmj | hmj
          · have : m = j - 1 := by omega
            subst this
            rw [hy.out] at hy'
            injection hy' with hy'
            subst hy'
            exact Hless.out
          · exact hgt'.out m y hmj hy'
        · have hcmp : ∀ w, (do eqGuard .lss 3 (.tmp 32) (.const (.int .i64 0)) (.int .i64 (Mb.cmp xn.data.toList yn.data.toList)) (.int .i64 0); binOp .lss 3 (.int .i64 (Mb.cmp xn.data.toList yn.data.toList)) (.int .i64 0) : Sem Value).run Tryz.prog w = .ok (.bool false) w := fun w => by
            have : ¬ Mb.cmp xn.data.toList yn.data.toList < 0 := fun h => by rw [Mb.cmp_neg, Hxn'.out, Hyn'.out] at h; exact absurd (hless.symm.trans h) (by decide)
            go_simp
          have Hless := Lib.hid hless
          clear hless
          go_wp2_with fail
          refine region_late [] (fun w' : World => w'.cell? ⟨g, j * 2, none⟩ = some (.string xn) ∧ w'.cell? ⟨g, j * 2 + 1, none⟩ = some (.string xd) ∧ w'.cell? ⟨g, (j - 1) * 2, none⟩ = some (.string yn) ∧ w'.cell? ⟨g, (j - 1) * 2 + 1, none⟩ = some (.string yd)) 17 rfl (by kernel_rfl) ⟨x0, x1, y0, y1⟩ (fun a' Q hA hQ hP hS => ?_)
          have z : a'.tmps.size = 53 := by rw [hA.out]; rfl
          have e0 : a'.eval (.tmp 0) = Value.slice (some ⟨g, 0, none⟩) n cap := by rw [hA.out]; rfl
          have e1 : a'.eval (.tmp 1) = Value.int .i64 0 := by rw [hA.out]; rfl
          have e3 : a'.eval (.tmp 3) = Value.func (.func 38) #[] #[] := by rw [hA.out]; rfl
          have e9 : a'.eval (.tmp 9) = Value.int .i64 (j : Int) := by rw [hA.out]; rfl
          refine tkp (i := 0) (d := (some 18)) rfl rfl (by kernel_rfl) hP (wanted_all rfl) (fun wx => run_move rfl e9) hS ?_
          refine tkp (i := 1) (d := (some 19)) rfl rfl (by kernel_rfl) hP (wanted_all rfl) (fun wx => run_move rfl (evq (by decide) e1)) hS ?_
          refine tkp (i := 2) (d := (some 20)) rfl rfl (by kernel_rfl) hP (wanted_all rfl) (fun wx => run_bin (v := .bool true) rfl (evq (by decide) (eve (Nat.lt_of_lt_of_eq (by decide : 18 < 53) z.symm))) (eve (Nat.lt_of_lt_of_eq (by decide : 19 < 53) (szq z).symm)) (hgt wx)) hS ?_
          refine tkp (i := 3) (d := (some 21)) rfl rfl (by kernel_rfl) hP (wanted_all rfl) (fun wx => run_move rfl (eve (Nat.lt_of_lt_of_eq (by decide : 20 < 53) (szq (szq z)).symm))) hS ?_
          refine tkp (i := 4) (d := (some 22)) rfl rfl (by kernel_rfl) hP (wanted_yes (e := 21) (b := true) rfl rfl (eve (Nat.lt_of_lt_of_eq (by decide : 21 < 53) (szq (szq (szq z))).symm))) (fun wx => run_move rfl (evq (by decide) (evq (by decide) (evq (by decide) (evq (by decide) e3))))) hS ?_
          refine tkp (i := 5) (d := (some 23)) rfl rfl (by kernel_rfl) hP (wanted_yes (e := 21) (b := true) rfl rfl (evq (by decide) (eve (Nat.lt_of_lt_of_eq (by decide : 21 < 53) (szq (szq (szq z))).symm)))) (fun wx => run_move rfl (evq (by decide) (evq (by decide) (evq (by decide) (evq (by decide) (evq (by decide) e0)))))) hS ?_
          refine tkp (i := 6) (d := (some 24)) rfl rfl (by kernel_rfl) hP (wanted_yes (e := 21) (b := true) rfl rfl (evq (by decide) (evq (by decide) (eve (Nat.lt_of_lt_of_eq (by decide : 21 < 53) (szq (szq (szq z))).symm))))) (fun wx => run_move rfl (evq (by decide) (evq (by decide) (evq (by decide) (evq (by decide) (evq (by decide) (evq (by decide) e9))))))) hS ?_
          refine tkp (i := 7) (d := (some 25)) rfl rfl (by kernel_rfl) hP (wanted_yes (e := 21) (b := true) rfl rfl (evq (by decide) (evq (by decide) (evq (by decide) (eve (Nat.lt_of_lt_of_eq (by decide : 21 < 53) (szq (szq (szq z))).symm)))))) (fun wx => run_index (v := .pointer (some ⟨g, j * 2, none⟩)) rfl (evq (by decide) (eve (Nat.lt_of_lt_of_eq (by decide : 23 < 53) (szq (szq (szq (szq (szq z))))).symm))) (eve (Nat.lt_of_lt_of_eq (by decide : 24 < 53) (szq (szq (szq (szq (szq (szq z)))))).symm)) (file_index0 hjn)) hS ?_
          refine tkv (i := 8) (d := (some 26)) rfl rfl (by kernel_rfl) hP (wanted_yes (e := 21) (b := true) rfl rfl (evq (by decide) (evq (by decide) (evq (by decide) (evq (by decide) (eve (Nat.lt_of_lt_of_eq (by decide : 21 < 53) (szq (szq (szq z))).symm))))))) (fun wx hw => run_load rfl (eve (Nat.lt_of_lt_of_eq (by decide : 25 < 53) (szq (szq (szq (szq (szq (szq (szq z))))))).symm)) (file_load hw.1 hw.2.1)) hS ?_
          refine tkp (i := 9) (d := (some 27)) rfl rfl (by kernel_rfl) hP (wanted_yes (e := 21) (b := true) rfl rfl (evq (by decide) (evq (by decide) (evq (by decide) (evq (by decide) (evq (by decide) (eve (Nat.lt_of_lt_of_eq (by decide : 21 < 53) (szq (szq (szq z))).symm)))))))) (fun wx => run_move rfl (evq (by decide) (evq (by decide) (evq (by decide) (evq (by decide) (evq (by decide) (evq (by decide) (evq (by decide) (evq (by decide) (evq (by decide) e0)))))))))) hS ?_
          refine tkp (i := 10) (d := (some 28)) rfl rfl (by kernel_rfl) hP (wanted_yes (e := 21) (b := true) rfl rfl (evq (by decide) (evq (by decide) (evq (by decide) (evq (by decide) (evq (by decide) (evq (by decide) (eve (Nat.lt_of_lt_of_eq (by decide : 21 < 53) (szq (szq (szq z))).symm))))))))) (fun wx => run_move rfl (evq (by decide) (evq (by decide) (evq (by decide) (evq (by decide) (evq (by decide) (evq (by decide) (evq (by decide) (evq (by decide) (evq (by decide) (evq (by decide) e9))))))))))) hS ?_
          refine tkp (i := 11) (d := (some 29)) rfl rfl (by kernel_rfl) hP (wanted_yes (e := 21) (b := true) rfl rfl (evq (by decide) (evq (by decide) (evq (by decide) (evq (by decide) (evq (by decide) (evq (by decide) (evq (by decide) (eve (Nat.lt_of_lt_of_eq (by decide : 21 < 53) (szq (szq (szq z))).symm)))))))))) (fun wx => run_bin (v := .int .i64 ((j - 1 : Nat) : Int)) rfl (eve (Nat.lt_of_lt_of_eq (by decide : 28 < 53) (szq (szq (szq (szq (szq (szq (szq (szq (szq (szq z)))))))))).symm)) rfl (hsub wx)) hS ?_
          refine tkp (i := 12) (d := (some 30)) rfl rfl (by kernel_rfl) hP (wanted_yes (e := 21) (b := true) rfl rfl (evq (by decide) (evq (by decide) (evq (by decide) (evq (by decide) (evq (by decide) (evq (by decide) (evq (by decide) (evq (by decide) (eve (Nat.lt_of_lt_of_eq (by decide : 21 < 53) (szq (szq (szq z))).symm))))))))))) (fun wx => run_index (v := .pointer (some ⟨g, (j - 1) * 2, none⟩)) rfl (evq (by decide) (evq (by decide) (eve (Nat.lt_of_lt_of_eq (by decide : 27 < 53) (szq (szq (szq (szq (szq (szq (szq (szq (szq z))))))))).symm)))) (eve (Nat.lt_of_lt_of_eq (by decide : 29 < 53) (szq (szq (szq (szq (szq (szq (szq (szq (szq (szq (szq z))))))))))).symm)) (file_index0 hjm)) hS ?_
          refine tkv (i := 13) (d := (some 31)) rfl rfl (by kernel_rfl) hP (wanted_yes (e := 21) (b := true) rfl rfl (evq (by decide) (evq (by decide) (evq (by decide) (evq (by decide) (evq (by decide) (evq (by decide) (evq (by decide) (evq (by decide) (evq (by decide) (eve (Nat.lt_of_lt_of_eq (by decide : 21 < 53) (szq (szq (szq z))).symm)))))))))))) (fun wx hw => run_load rfl (eve (Nat.lt_of_lt_of_eq (by decide : 30 < 53) (szq (szq (szq (szq (szq (szq (szq (szq (szq (szq (szq (szq z)))))))))))).symm)) (file_load hw.2.2.1 hw.2.2.2)) hS ?_
          refine gov_callv (i := 14) (d := (some 32)) (by kernel_rfl) rfl rfl (wanted_yes (e := 21) (b := true) rfl rfl (evq (by decide) (evq (by decide) (evq (by decide) (evq (by decide) (evq (by decide) (evq (by decide) (evq (by decide) (evq (by decide) (evq (by decide) (evq (by decide) (eve (Nat.lt_of_lt_of_eq (by decide : 21 < 53) (szq (szq (szq z))).symm))))))))))))) rfl (evq (by decide) (evq (by decide) (evq (by decide) (evq (by decide) (evq (by decide) (evq (by decide) (evq (by decide) (evq (by decide) (evq (by decide) (eve (Nat.lt_of_lt_of_eq (by decide : 22 < 53) (szq (szq (szq (szq z)))).symm))))))))))) Tryz.func38 (by kernel_rfl) rfl (args2 (evq (by decide) (evq (by decide) (evq (by decide) (evq (by decide) (evq (by decide) (eve (Nat.lt_of_lt_of_eq (by decide : 26 < 53) (szq (szq (szq (szq (szq (szq (szq (szq z)))))))).symm))))))) (eve (Nat.lt_of_lt_of_eq (by decide : 31 < 53) (szq (szq (szq (szq (szq (szq (szq (szq (szq (szq (szq (szq (szq z))))))))))))).symm))) (byName_any xn xd yn yd _) ?_
          rintro e w3 ⟨rfl, hb3⟩
          have hS3 : w3.cell? ⟨g, j * 2, none⟩ = some (.string xn) ∧ w3.cell? ⟨g, j * 2 + 1, none⟩ = some (.string xd) ∧ w3.cell? ⟨g, (j - 1) * 2, none⟩ = some (.string yn) ∧ w3.cell? ⟨g, (j - 1) * 2 + 1, none⟩ = some (.string yd) := ⟨(hb3.cell (p := ⟨g, j * 2, none⟩) hgw).trans x0, (hb3.cell (p := ⟨g, j * 2 + 1, none⟩) hgw).trans x1, (hb3.cell (p := ⟨g, (j - 1) * 2, none⟩) hgw).trans y0, (hb3.cell (p := ⟨g, (j - 1) * 2 + 1, none⟩) hgw).trans y1⟩
          refine ⟨_, rfl, fun _ => hS3, ?_⟩
          clear hS
          have hS := hS3
          refine gov_val (i := 15) (d := (some 33)) (by kernel_rfl) rfl rfl (wanted_yes (e := 21) (b := true) rfl rfl (evq (by decide) (evq (by decide) (evq (by decide) (evq (by decide) (evq (by decide) (evq (by decide) (evq (by decide) (evq (by decide) (evq (by decide) (evq (by decide) (evq (by decide) (eve (Nat.lt_of_lt_of_eq (by decide : 21 < 53) (szq (szq (szq z))).symm)))))))))))))) (run_bin (v := .bool false) rfl (eve (Nat.lt_of_lt_of_eq (by decide : 32 < 53) (szq (szq (szq (szq (szq (szq (szq (szq (szq (szq (szq (szq (szq (szq z)))))))))))))).symm)) rfl (hcmp _)) (fun _ => hS) ?_
          refine gov_val (i := 16) (d := (some 34)) (by kernel_rfl) rfl rfl (wanted_all rfl) (run_pick (v := .bool false) rfl (evq (by decide) (evq (by decide) (evq (by decide) (evq (by decide) (evq (by decide) (evq (by decide) (evq (by decide) (evq (by decide) (evq (by decide) (evq (by decide) (evq (by decide) (evq (by decide) (eve (Nat.lt_of_lt_of_eq (by decide : 21 < 53) (szq (szq (szq z))).symm)))))))))))))) (eve (Nat.lt_of_lt_of_eq (by decide : 33 < 53) (szq (szq (szq (szq (szq (szq (szq (szq (szq (szq (szq (szq (szq (szq (szq z))))))))))))))).symm)) rfl rfl) (fun _ => hS) ?_
          refine wpAnyV_done (by kernel_rfl) (hQ.out _ _ ?_) _
          rw [hA.out]
          simp only [Act.put, List.setIfInBounds_toArray]
          dsimp only [List.set]
          clear hQ hP hA z hS Q a' e0 e1 e3 e9 x0 x1 y0 y1
          have hOw3 : OwnF w3 B (.slice (some ⟨g, 0, none⟩) n cap) (ys.take j ++ xs[k] :: (ys.drop j ++ xs.drop (k + 1))) := (hOr.out.below ((Below.refl _ _).drew)).below hb3
          have HO3 := Lib.hid hOw3
          have HB3 := Lib.hid ((hbr.out.below ((Below.refl _ _).drew)).below hb3)
          clear hOw3 hb3 hS3
          go_wp2_with fail
          have hins : Mb.Ins ys xs[k] j := ⟨by rw [hyl.out]; exact hjk, fun m y hm hy => hgt'.out m y hm hy, Or.inr ⟨_, hy.out, Hless.out⟩⟩
          have hfin := Mb.Sorts.snoc hSo.out hins
          refine ⟨⟨k + 1, ys.take j ++ xs[k] :: ys.drop j, by omega, by omega, by simp, ?_, ?_, HB3⟩, by simp [RowKit.intOf]; omega⟩
          · have e : xs.take (k + 1) = xs.take k ++ [xs[k]] := List.take_succ_eq_append_getElem hxk
            rw [e]; exact hfin
          · have h1 := HO3.out
            unfold Hid
            simpa using h1
    · go_wp2_with fail
      have hke : Hid (xs.take k = xs) := List.take_of_length_le (by rw [Hn.out]; omega)
      have hkd : Hid (xs.drop k = []) := List.drop_eq_nil_of_le (by rw [Hn.out]; omega)
      go_end0
      refine ⟨rfl, ys, by rw [← hke.out]; exact hSo.out, ?_, hbt.out⟩
      have h1 := hO.out
      rw [hkd.out] at h1
      simpa using h1
end Go.Proofs.YtamglanahpcedaaGreatDoor
namespace Go.Proofs.YtamglanahpcedaaGreatDoor
open Go.RowKit Go.Lib

set_option maxRecDepth 100000 in
set_option maxHeartbeats 2000000 in
theorem pdq_any {w : World} {B g n cap : Nat} {xs : List Mb.Fl} (ho : OwnF w B (.slice (some ⟨g, 0, none⟩) n cap) xs) (hn : xs.length = n) (hn0 : 1 ≤ n) (hl : n ≤ 12) (z : Int) :
    Calls Tryz.prog 59 #[.slice (some ⟨g, 0, none⟩) n cap, .int .i64 0, .int .i64 (n : Int), .int .i64 z, .func (.func 38) #[] #[]] w fun e w' => e = .returned (.tuple #[]) ∧ ∃ ys, Mb.Sorts xs ys ∧ OwnF w' B (.slice (some ⟨g, 0, none⟩) n cap) ys ∧ But g none w w' := by
  have gi := insertion_any ho hn hn0 (by omega)
  have h12 : (n : Int) ≤ 12 := by omega
  clear ho hn
  go_enter Tryz.func59, Tryz.ntmps59
  go_wp2_with fail
  go_loopw [1, 2] (fun a b wr => a = .int .i64 0 ∧ b = .int .i64 (n : Int) ∧ wr = w) (fun _ _ _ => 0)
  case atStart => exact ⟨rfl, rfl, rfl⟩
  case round =>
    obtain ⟨rfl, rfl, hwr⟩ := hrel
    subst wr
    have hw0 : IntKind.i64.wrap (n : Int) = (n : Int) := IntWalk.i64_in _ (by omega)
    go_wp2_with (go_at_call 88; refine gi.mono ?_; rintro e w1 ⟨rfl, hh⟩; have HH := Lib.hid hh; clear hh gi)
    exact bodyPost_ret (v := .tuple #[]) (results_none rfl _ _ _) rfl ⟨rfl, HH.out⟩

set_option maxRecDepth 100000 in
theorem len64_is (x : Int) (h0 : 0 ≤ x) (hx : x ≤ 12) (w : World) : Calls Tryz.prog 97 #[.int .u64 x] w fun e w' => (∃ z : Int, e = .returned (.int .i64 z)) ∧ w' = w := by
  have h1 : decide (x ≥ 4294967296) = false := by simp; omega
  have h2 : decide (x ≥ 65536) = false := by simp; omega
  have h3 : decide (x ≥ 256) = false := by simp; omega
  have h4 : IntKind.u8.wrap x = x := by rw [IntKind.wrap_u8]; omega
  have h5 : x < 256 := by omega
  go_enter Tryz.func97, Tryz.ntmps97
  go_wp2
  go_ret
  exact ⟨⟨_, rfl⟩, rfl⟩
theorem len64_any (n : Nat) (w : World) (h1 : n ≤ 12) : Calls Tryz.prog 60 #[.int .u64 (n : Int)] w fun e w' => (∃ z : Int, e = .returned (.int .i64 z)) ∧ Below w.heap.size w w' := by
  have g := len64_is (n : Int) (by omega) (by omega) w
  clear h1
  generalize (n : Int) = x at *
  go_enter Tryz.func60, Tryz.ntmps60
  go_wp2_with (go_at_call 97; refine g.mono ?_; rintro e w' ⟨⟨z, rfl⟩, rfl⟩)
  go_ret
  exact ⟨⟨z, rfl⟩, Below.refl _ _⟩
set_option maxRecDepth 100000 in
theorem sortFunc_any {w : World} {B g n cap : Nat} {xs : List Mb.Fl} (ho : OwnF w B (.slice (some ⟨g, 0, none⟩) n cap) xs) (hn : xs.length = n) (hn0 : 1 ≤ n) (hl : n ≤ 12) :
    Calls Tryz.prog 37 #[.slice (some ⟨g, 0, none⟩) n cap, .func (.func 38) #[] #[]] w fun e w' => e = .returned (.tuple #[]) ∧ ∃ ys, Mb.Sorts xs ys ∧ OwnF w' B (.slice (some ⟨g, 0, none⟩) n cap) ys ∧ But g none w w' := by
  have gL := len64_any n w hl
  have gP : ∀ (z : Int) w1, Below w.heap.size w w1 → Calls Tryz.prog 59 #[.slice (some ⟨g, 0, none⟩) n cap, .int .i64 0, .int .i64 (n : Int), .int .i64 z, .func (.func 38) #[] #[]] w1 fun e w' => e = .returned (.tuple #[]) ∧ ∃ ys, Mb.Sorts xs ys ∧ OwnF w' B (.slice (some ⟨g, 0, none⟩) n cap) ys ∧ But g none w w' := fun z w1 hb => by
    refine (pdq_any (ho.below hb) hn hn0 hl z).mono ?_
    rintro e w' ⟨rfl, ys, h1, h2, h3⟩
    exact ⟨rfl, ys, h1, h2, But.trans_below hb h3⟩
  have hc : IntKind.u64.wrap (n : Int) = (n : Int) := by rw [IntKind.wrap_u64]; omega
  clear ho hn
  go_enter Tryz.func37, Tryz.ntmps37
  go_wp2_with (go_at_call 60; refine gL.mono ?_; rintro e w1 ⟨⟨z, rfl⟩, hb1⟩; have gP1 := gP z w1 hb1; clear hb1 gP gL)
  refine gP1.mono ?_
  rintro e w2 ⟨rfl, hh⟩
  have HH := Lib.hid hh
  clear hh gP1
  go_wp2
  go_end0
  exact ⟨rfl, HH.out⟩
end Go.Proofs.YtamglanahpcedaaGreatDoor
