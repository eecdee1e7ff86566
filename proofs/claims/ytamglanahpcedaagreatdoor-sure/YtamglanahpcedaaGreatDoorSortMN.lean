/-
  OWN TEXT: slices.SortFunc of messages that are in order by their keys; of one folder as found.
  OWN TEXT: slices.SortFunc of messages in order, of one folder as found; disk.find.
-/
import Derived.Test.YtamglanahpcedaaGreatDoorSortBC
import Derived.Test.YtamglanahpcedaaGreatDoorOpenCE
import Derived.Test.YtamglanahpcedaaGreatDoorShelf2
import Derived.Test.YtamglanahpcedaaGreatDoorServeM
namespace Go.Proofs.YtamglanahpcedaaGreatDoor
open Go.RowKit Go.Lib

/-- the cells of a message -/
def MsCells (w : World) (b o : Nat) (k u : Int) (f c t : ByteArray) : Prop := w.cell? ⟨b, o, none⟩ = some (.int .i64 k) ∧ w.cell? ⟨b, o + 1, none⟩ = some (.int .i64 u) ∧ w.cell? ⟨b, o + 2, none⟩ = some (.string f) ∧ w.cell? ⟨b, o + 3, none⟩ = some (.string c) ∧ w.cell? ⟨b, o + 4, none⟩ = some (.string t)
theorem MsCells.below {w w' : World} {B b o : Nat} {k u : Int} {f c t : ByteArray} (h : MsCells w b o k u f c t) (hb : Below B w w') (hB : b < B) : MsCells w' b o k u f c t :=
  ⟨(hb.cell (p := ⟨b, o, none⟩) hB).trans h.1, (hb.cell (p := ⟨b, o + 1, none⟩) hB).trans h.2.1, (hb.cell (p := ⟨b, o + 2, none⟩) hB).trans h.2.2.1, (hb.cell (p := ⟨b, o + 3, none⟩) hB).trans h.2.2.2.1, (hb.cell (p := ⟨b, o + 4, none⟩) hB).trans h.2.2.2.2⟩
theorem msg_loadC {w : World} {b o : Nat} {k u : Int} {f c t : ByteArray} (h : MsCells w b o k u f c t) : (Instr.loadAt 130 (.pointer (some ⟨b, o, none⟩))).run Tryz.prog w = .ok (.agg #[.int .i64 k, .int .i64 u, .string f, .string c, .string t]) w := by
  obtain ⟨c0, c1, c2, c3, c4⟩ := h
  go_simp
theorem byKey_any (k1 u1 k2 u2 : Int) (f1 c1 t1 f2 c2 t2 : ByteArray) (w : World) : Calls Tryz.prog 109 #[.agg #[.int .i64 k1, .int .i64 u1, .string f1, .string c1, .string t1], .agg #[.int .i64 k2, .int .i64 u2, .string f2, .string c2, .string t2]] w fun e w' => e = .returned (.int .i64 (Lib.compareInt k1 k2)) ∧ Below w.heap.size w w' := by
  have g := fun w => Tryz.cmp_Compare_int k1 k2 w
  generalize Lib.compareInt k1 k2 = z at *
  go_enter Tryz.func109, Tryz.ntmps109
  go_wp2_with (go_at_call 144; refine (g _).mono ?_; rintro e w' ⟨rfl, rfl⟩)
  go_ret
  exact ⟨rfl, ((Below.refl _ _).alloc (Nat.le_refl _) _).alloc (by simp) _⟩

/-- keys rise -/
def Mb.Rising (xs : List Mb.Ms) : Prop := ∀ (i : Nat) x y, xs[i]? = some x → xs[i + 1]? = some y → x.key < y.key

set_option maxRecDepth 100000 in
set_option maxHeartbeats 4000000 in
theorem insertionM_any {w : World} {a : Option Addr} {cap : Nat} {xs : List Mb.Ms} (hm : MsAt w a xs) (hl : xs.length ≤ 1000) (hr : Mb.Rising xs) :
    Calls Tryz.prog 163 #[.slice a xs.length cap, .int .i64 0, .int .i64 (xs.length : Int), .func (.func 109) #[] #[]] w fun e w' => e = .returned (.tuple #[]) ∧ Below w.heap.size w w' := by
  have Hm := Lib.hid hm
  have Hr := Lib.hid hr
  clear hm hr
  go_enter Tryz.func163, Tryz.ntmps163
  go_wp2_with fail
  go_loopw [8, 9] (fun i _ wr => ∃ (k : Nat), 1 ≤ k ∧ k ≤ xs.length + 1 ∧ i = .int .i64 k ∧ Hid (Below w.heap.size w wr)) (fun i _ _ => xs.length + 1 - (RowKit.intOf i).toNat)
  case atStart => exact ⟨1, Nat.le_refl _, by omega, rfl, Below.refl _ _⟩
  case round =>
    obtain ⟨j, hk1, hkn, rfl, hbl⟩ := hrel
    by_cases hlt : j < xs.length
    · go_wp2_with fail
      rename World => wo
      go_loopw [9] (fun jj wr => jj = .int .i64 (j : Int) ∧ Hid (Below w.heap.size w wr)) (fun _ _ => 0)
      case atStart => exact ⟨rfl, hbl⟩
      case round =>
      obtain ⟨rfl, hbr⟩ := hrel
      obtain ⟨g, go, ha, hgw0, hc⟩ : ∃ b off, a = some ⟨b, off, none⟩ ∧ b < w.heap.size ∧ MssAt w b off xs := by
        rcases Hm.out with hz | hz
        · rw [hz] at hlt; simp at hlt
        · exact hz
      subst ha
      have hgw : g < wr.heap.size := Nat.lt_of_lt_of_le hgw0 hbr.out.size
      have hjn : j < xs.length := by omega
      have hjm : j - 1 < xs.length := by omega
      have hlessK := Hr.out (j - 1) xs[j - 1] xs[j] (by simp [hjm]) (by rw [show j - 1 + 1 = j by omega]; simp [hjn])
      have mx : MsCells wr g (go + j * 5) xs[j].key xs[j].uid ⟨xs[j].flags.toArray⟩ ⟨xs[j].came.toArray⟩ ⟨xs[j].text.toArray⟩ := MsCells.below (hc j xs[j] (by simp [hjn])) hbr.out hgw0
      have my : MsCells wr g (go + (j - 1) * 5) xs[j - 1].key xs[j - 1].uid ⟨xs[j - 1].flags.toArray⟩ ⟨xs[j - 1].came.toArray⟩ ⟨xs[j - 1].text.toArray⟩ := MsCells.below (hc (j - 1) xs[j - 1] (by simp [hjm])) hbr.out hgw0
      generalize xs[j].key = xk at *
      generalize xs[j].uid = xu at *
      generalize (⟨xs[j].flags.toArray⟩ : ByteArray) = x1 at *
      generalize (⟨xs[j].came.toArray⟩ : ByteArray) = x2 at *
      generalize (⟨xs[j].text.toArray⟩ : ByteArray) = x3 at *
      generalize xs[j - 1].key = yk at *
      generalize xs[j - 1].uid = yu at *
      generalize (⟨xs[j - 1].flags.toArray⟩ : ByteArray) = y1 at *
      generalize (⟨xs[j - 1].came.toArray⟩ : ByteArray) = y2 at *
      generalize (⟨xs[j - 1].text.toArray⟩ : ByteArray) = y3 at *
      have hgt : ∀ w, (do eqGuard .gtr 3 (.tmp 18) (.tmp 19) (.int .i64 (j : Int)) (.int .i64 0); binOp .gtr 3 (.int .i64 (j : Int)) (.int .i64 0) : Sem Value).run Tryz.prog w = .ok (.bool true) w := fun w => by
        have h0 : (0 : Int) < (j : Int) := by omega
        have h1 : 0 < j := by omega
        go_simp
      have hwr : IntKind.i64.wrap ((j : Int) - 1) = ((j - 1 : Nat) : Int) := by rw [IntWalk.i64_in _ (by omega)]; omega
      have hsub : ∀ w, (do eqGuard .sub 3 (.tmp 28) (.const (.int .i64 1)) (.int .i64 (j : Int)) (.int .i64 1); binOp .sub 3 (.int .i64 (j : Int)) (.int .i64 1) : Sem Value).run Tryz.prog w = .ok (.int .i64 ((j - 1 : Nat) : Int)) w := fun w => by go_simp
      have hcmp : ∀ w, (do eqGuard .lss 3 (.tmp 32) (.const (.int .i64 0)) (.int .i64 (Lib.compareInt xk yk)) (.int .i64 0); binOp .lss 3 (.int .i64 (Lib.compareInt xk yk)) (.int .i64 0) : Sem Value).run Tryz.prog w = .ok (.bool false) w := fun w => by
        have : ¬ Lib.compareInt xk yk < 0 := by unfold Lib.compareInt; split <;> (try split) <;> omega
        go_simp
      have Hless := Lib.hid hlessK
      clear hlessK hwr hc
      go_wp2_with fail
      refine region_late [] (fun w' : World => MsCells w' g (go + j * 5) xk xu x1 x2 x3 ∧ MsCells w' g (go + (j - 1) * 5) yk yu y1 y2 y3) 17 rfl (by kernel_rfl) ⟨mx, my⟩ (fun a' Q hA hQ hP hS => ?_)
      have z : a'.tmps.size = 53 := by rw [hA.out]; rfl
      have e0 : a'.eval (.tmp 0) = Value.slice (some ⟨g, go, none⟩) xs.length cap := by rw [hA.out]; rfl
      have e1 : a'.eval (.tmp 1) = Value.int .i64 0 := by rw [hA.out]; rfl
      have e3 : a'.eval (.tmp 3) = Value.func (.func 109) #[] #[] := by rw [hA.out]; rfl
      have e9 : a'.eval (.tmp 9) = Value.int .i64 (j : Int) := by rw [hA.out]; rfl
      refine tkp (i := 0) (d := (some 18)) rfl rfl (by kernel_rfl) hP (wanted_all rfl) (fun wx => run_move rfl e9) hS ?_
      refine tkp (i := 1) (d := (some 19)) rfl rfl (by kernel_rfl) hP (wanted_all rfl) (fun wx => run_move rfl (evq (by decide) e1)) hS ?_
      refine tkp (i := 2) (d := (some 20)) rfl rfl (by kernel_rfl) hP (wanted_all rfl) (fun wx => run_bin (v := .bool true) rfl (evq (by decide) (eve (Nat.lt_of_lt_of_eq (by decide : 18 < 53) z.symm))) (eve (Nat.lt_of_lt_of_eq (by decide : 19 < 53) (szq z).symm)) (hgt wx)) hS ?_
      refine tkp (i := 3) (d := (some 21)) rfl rfl (by kernel_rfl) hP (wanted_all rfl) (fun wx => run_move rfl (eve (Nat.lt_of_lt_of_eq (by decide : 20 < 53) (szq (szq z)).symm))) hS ?_
      refine tkp (i := 4) (d := (some 22)) rfl rfl (by kernel_rfl) hP (wanted_yes (e := 21) (b := true) rfl rfl (eve (Nat.lt_of_lt_of_eq (by decide : 21 < 53) (szq (szq (szq z))).symm))) (fun wx => run_move rfl (evq (by decide) (evq (by decide) (evq (by decide) (evq (by decide) e3))))) hS ?_
      refine tkp (i := 5) (d := (some 23)) rfl rfl (by kernel_rfl) hP (wanted_yes (e := 21) (b := true) rfl rfl (evq (by decide) (eve (Nat.lt_of_lt_of_eq (by decide : 21 < 53) (szq (szq (szq z))).symm)))) (fun wx => run_move rfl (evq (by decide) (evq (by decide) (evq (by decide) (evq (by decide) (evq (by decide) e0)))))) hS ?_
      refine tkp (i := 6) (d := (some 24)) rfl rfl (by kernel_rfl) hP (wanted_yes (e := 21) (b := true) rfl rfl (evq (by decide) (evq (by decide) (eve (Nat.lt_of_lt_of_eq (by decide : 21 < 53) (szq (szq (szq z))).symm))))) (fun wx => run_move rfl (evq (by decide) (evq (by decide) (evq (by decide) (evq (by decide) (evq (by decide) (evq (by decide) e9))))))) hS ?_
      refine tkp (i := 7) (d := (some 25)) rfl rfl (by kernel_rfl) hP (wanted_yes (e := 21) (b := true) rfl rfl (evq (by decide) (evq (by decide) (evq (by decide) (eve (Nat.lt_of_lt_of_eq (by decide : 21 < 53) (szq (szq (szq z))).symm)))))) (fun wx => run_index (v := .pointer (some ⟨g, go + j * 5, none⟩)) rfl (evq (by decide) (eve (Nat.lt_of_lt_of_eq (by decide : 23 < 53) (szq (szq (szq (szq (szq z))))).symm))) (eve (Nat.lt_of_lt_of_eq (by decide : 24 < 53) (szq (szq (szq (szq (szq (szq z)))))).symm)) (msg_index hjn)) hS ?_
      refine tkv (i := 8) (d := (some 26)) rfl rfl (by kernel_rfl) hP (wanted_yes (e := 21) (b := true) rfl rfl (evq (by decide) (evq (by decide) (evq (by decide) (evq (by decide) (eve (Nat.lt_of_lt_of_eq (by decide : 21 < 53) (szq (szq (szq z))).symm))))))) (fun wx hw => run_load rfl (eve (Nat.lt_of_lt_of_eq (by decide : 25 < 53) (szq (szq (szq (szq (szq (szq (szq z))))))).symm)) (msg_loadC hw.1)) hS ?_
      refine tkp (i := 9) (d := (some 27)) rfl rfl (by kernel_rfl) hP (wanted_yes (e := 21) (b := true) rfl rfl (evq (by decide) (evq (by decide) (evq (by decide) (evq (by decide) (evq (by decide) (eve (Nat.lt_of_lt_of_eq (by decide : 21 < 53) (szq (szq (szq z))).symm)))))))) (fun wx => run_move rfl (evq (by decide) (evq (by decide) (evq (by decide) (evq (by decide) (evq (by decide) (evq (by decide) (evq (by decide) (evq (by decide) (evq (by decide) e0)))))))))) hS ?_
      refine tkp (i := 10) (d := (some 28)) rfl rfl (by kernel_rfl) hP (wanted_yes (e := 21) (b := true) rfl rfl (evq (by decide) (evq (by decide) (evq (by decide) (evq (by decide) (evq (by decide) (evq (by decide) (eve (Nat.lt_of_lt_of_eq (by decide : 21 < 53) (szq (szq (szq z))).symm))))))))) (fun wx => run_move rfl (evq (by decide) (evq (by decide) (evq (by decide) (evq (by decide) (evq (by decide) (evq (by decide) (evq (by decide) (evq (by decide) (evq (by decide) (evq (by decide) e9))))))))))) hS ?_
      refine tkp (i := 11) (d := (some 29)) rfl rfl (by kernel_rfl) hP (wanted_yes (e := 21) (b := true) rfl rfl (evq (by decide) (evq (by decide) (evq (by decide) (evq (by decide) (evq (by decide) (evq (by decide) (evq (by decide) (eve (Nat.lt_of_lt_of_eq (by decide : 21 < 53) (szq (szq (szq z))).symm)))))))))) (fun wx => run_bin (v := .int .i64 ((j - 1 : Nat) : Int)) rfl (eve (Nat.lt_of_lt_of_eq (by decide : 28 < 53) (szq (szq (szq (szq (szq (szq (szq (szq (szq (szq z)))))))))).symm)) rfl (hsub wx)) hS ?_
      refine tkp (i := 12) (d := (some 30)) rfl rfl (by kernel_rfl) hP (wanted_yes (e := 21) (b := true) rfl rfl (evq (by decide) (evq (by decide) (evq (by decide) (evq (by decide) (evq (by decide) (evq (by decide) (evq (by decide) (evq (by decide) (eve (Nat.lt_of_lt_of_eq (by decide : 21 < 53) (szq (szq (szq z))).symm))))))))))) (fun wx => run_index (v := .pointer (some ⟨g, go + (j - 1) * 5, none⟩)) rfl (evq (by decide) (evq (by decide) (eve (Nat.lt_of_lt_of_eq (by decide : 27 < 53) (szq (szq (szq (szq (szq (szq (szq (szq (szq z))))))))).symm)))) (eve (Nat.lt_of_lt_of_eq (by decide : 29 < 53) (szq (szq (szq (szq (szq (szq (szq (szq (szq (szq (szq z))))))))))).symm)) (msg_index hjm)) hS ?_
      refine tkv (i := 13) (d := (some 31)) rfl rfl (by kernel_rfl) hP (wanted_yes (e := 21) (b := true) rfl rfl (evq (by decide) (evq (by decide) (evq (by decide) (evq (by decide) (evq (by decide) (evq (by decide) (evq (by decide) (evq (by decide) (evq (by decide) (eve (Nat.lt_of_lt_of_eq (by decide : 21 < 53) (szq (szq (szq z))).symm)))))))))))) (fun wx hw => run_load rfl (eve (Nat.lt_of_lt_of_eq (by decide : 30 < 53) (szq (szq (szq (szq (szq (szq (szq (szq (szq (szq (szq (szq z)))))))))))).symm)) (msg_loadC hw.2)) hS ?_
      refine gov_callv (i := 14) (d := (some 32)) (by kernel_rfl) rfl rfl (wanted_yes (e := 21) (b := true) rfl rfl (evq (by decide) (evq (by decide) (evq (by decide) (evq (by decide) (evq (by decide) (evq (by decide) (evq (by decide) (evq (by decide) (evq (by decide) (evq (by decide) (eve (Nat.lt_of_lt_of_eq (by decide : 21 < 53) (szq (szq (szq z))).symm))))))))))))) rfl (evq (by decide) (evq (by decide) (evq (by decide) (evq (by decide) (evq (by decide) (evq (by decide) (evq (by decide) (evq (by decide) (evq (by decide) (eve (Nat.lt_of_lt_of_eq (by decide : 22 < 53) (szq (szq (szq (szq z)))).symm))))))))))) Tryz.func109 (by kernel_rfl) rfl (args2 (evq (by decide) (evq (by decide) (evq (by decide) (evq (by decide) (evq (by decide) (eve (Nat.lt_of_lt_of_eq (by decide : 26 < 53) (szq (szq (szq (szq (szq (szq (szq (szq z)))))))).symm))))))) (eve (Nat.lt_of_lt_of_eq (by decide : 31 < 53) (szq (szq (szq (szq (szq (szq (szq (szq (szq (szq (szq (szq (szq z))))))))))))).symm))) (byKey_any xk xu yk yu x1 x2 x3 y1 y2 y3 _) ?_
      rintro e w3 ⟨rfl, hb3⟩
      have hS3 : MsCells w3 g (go + j * 5) xk xu x1 x2 x3 ∧ MsCells w3 g (go + (j - 1) * 5) yk yu y1 y2 y3 := ⟨hS.1.below hb3 hgw, hS.2.below hb3 hgw⟩
      refine ⟨_, rfl, fun _ => hS3, ?_⟩
      clear hS
      have hS := hS3
      refine gov_val (i := 15) (d := (some 33)) (by kernel_rfl) rfl rfl (wanted_yes (e := 21) (b := true) rfl rfl (evq (by decide) (evq (by decide) (evq (by decide) (evq (by decide) (evq (by decide) (evq (by decide) (evq (by decide) (evq (by decide) (evq (by decide) (evq (by decide) (evq (by decide) (eve (Nat.lt_of_lt_of_eq (by decide : 21 < 53) (szq (szq (szq z))).symm)))))))))))))) (run_bin (v := .bool false) rfl (eve (Nat.lt_of_lt_of_eq (by decide : 32 < 53) (szq (szq (szq (szq (szq (szq (szq (szq (szq (szq (szq (szq (szq (szq z)))))))))))))).symm)) rfl (hcmp _)) (fun _ => hS) ?_
      refine gov_val (i := 16) (d := (some 34)) (by kernel_rfl) rfl rfl (wanted_all rfl) (run_pick (v := .bool false) rfl (evq (by decide) (evq (by decide) (evq (by decide) (evq (by decide) (evq (by decide) (evq (by decide) (evq (by decide) (evq (by decide) (evq (by decide) (evq (by decide) (evq (by decide) (evq (by decide) (eve (Nat.lt_of_lt_of_eq (by decide : 21 < 53) (szq (szq (szq z))).symm)))))))))))))) (eve (Nat.lt_of_lt_of_eq (by decide : 33 < 53) (szq (szq (szq (szq (szq (szq (szq (szq (szq (szq (szq (szq (szq (szq (szq z))))))))))))))).symm)) rfl rfl) (fun _ => hS) ?_
      refine wpAnyV_done (by kernel_rfl) (hQ.out _ _ ?_) _
      rw [hA.out]
      simp only [Act.put, List.setIfInBounds_toArray]
      dsimp only [List.set]
      clear hQ hP hA z hS Q a' e0 e1 e3 e9 
      have HB3 := Lib.hid (hbr.out.trans ((((Below.refl _ _).drew).trans hb3).mono hbr.out.size))
      clear hb3 hS3
      go_wp2_with fail
      exact ⟨⟨j + 1, by omega, by omega, by simp, HB3⟩, by simp [RowKit.intOf]; omega⟩
    · go_wp2_with fail
      go_end0
      exact ⟨rfl, hbl.out⟩
end Go.Proofs.YtamglanahpcedaaGreatDoor
namespace Go.Proofs.YtamglanahpcedaaGreatDoor
open Go.RowKit Go.Lib

set_option maxRecDepth 100000 in
set_option maxHeartbeats 2000000 in
theorem pdqM_any {w : World} {a : Option Addr} {cap : Nat} {xs : List Mb.Ms} (hm : MsAt w a xs) (hl : xs.length ≤ 12) (hr : Mb.Rising xs) (z : Int) :
    Calls Tryz.prog 143 #[.slice a xs.length cap, .int .i64 0, .int .i64 (xs.length : Int), .int .i64 z, .func (.func 109) #[] #[]] w fun e w' => e = .returned (.tuple #[]) ∧ Below w.heap.size w w' := by
  have gi := insertionM_any (cap := cap) hm (by omega) hr
  have h12 : (xs.length : Int) ≤ 12 := by omega
  clear hm hr
  generalize xs.length = n at *
  go_enter Tryz.func143, Tryz.ntmps143
  go_wp2_with fail
  go_loopw [1, 2] (fun a b wr => a = .int .i64 0 ∧ b = .int .i64 (n : Int) ∧ wr = w) (fun _ _ _ => 0)
  case atStart => exact ⟨rfl, rfl, rfl⟩
  case round =>
    obtain ⟨rfl, rfl, hwr⟩ := hrel
    subst wr
    have hw0 : IntKind.i64.wrap (n : Int) = (n : Int) := IntWalk.i64_in _ (by omega)
    go_wp2_with (go_at_call 163; refine gi.mono ?_; rintro e w1 ⟨rfl, hh⟩; have HH := Lib.hid hh; clear hh gi)
    exact bodyPost_ret (v := .tuple #[]) (results_none rfl _ _ _) rfl ⟨rfl, HH.out⟩
set_option maxRecDepth 100000 in
theorem sortM_any {w : World} {a : Option Addr} {cap : Nat} {xs : List Mb.Ms} (hm : MsAt w a xs) (hl : xs.length ≤ 12) (hr : Mb.Rising xs) :
    Calls Tryz.prog 108 #[.slice a xs.length cap, .func (.func 109) #[] #[]] w fun e w' => e = .returned (.tuple #[]) ∧ Below w.heap.size w w' := by
  have gL := len64_any xs.length w hl
  have gP : ∀ (z : Int) w1, Below w.heap.size w w1 → Calls Tryz.prog 143 #[.slice a xs.length cap, .int .i64 0, .int .i64 (xs.length : Int), .int .i64 z, .func (.func 109) #[] #[]] w1 fun e w' => e = .returned (.tuple #[]) ∧ Below w.heap.size w w' := fun z w1 hb => by
    refine (pdqM_any (hm.below hb) hl hr z).mono ?_
    rintro e w' ⟨rfl, h1⟩
    exact ⟨rfl, hb.trans (h1.mono hb.size)⟩
  clear hm hr
  generalize xs.length = n at *
  have hc : IntKind.u64.wrap (n : Int) = (n : Int) := by rw [IntKind.wrap_u64]; omega
  go_enter Tryz.func108, Tryz.ntmps108
  go_wp2_with (go_at_call 60; refine gL.mono ?_; rintro e w1 ⟨⟨z, rfl⟩, hb1⟩; have gP1 := gP z w1 hb1; clear hb1 gP gL)
  refine gP1.mono ?_
  rintro e w2 ⟨rfl, hh⟩
  have HH := Lib.hid hh
  clear hh gP1
  go_wp2
  go_end0
  exact ⟨rfl, HH.out⟩
/-! one folder -/
set_option maxRecDepth 100000 in
theorem insertion1 (w : World) (a : Option Addr) (cap : Nat) (f : Value) :
    Calls Tryz.prog 133 #[.slice a 1 cap, .int .i64 0, .int .i64 1, f] w fun e w' => e = .returned (.tuple #[]) ∧ Below w.heap.size w w' := by
  go_enter Tryz.func133, Tryz.ntmps133
  go_wp2_with fail
  go_loop [8] (fun i => i = .int .i64 1) (fun _ => 0)
  case atStart => rfl
  case round =>
    subst hrel
    go_wp2_with fail
    go_end0
    exact ⟨rfl, Below.refl _ _⟩
set_option maxRecDepth 100000 in
set_option maxHeartbeats 2000000 in
theorem pdq1 (w : World) (a : Option Addr) (cap : Nat) (z : Int) (f : Value) :
    Calls Tryz.prog 105 #[.slice a 1 cap, .int .i64 0, .int .i64 1, .int .i64 z, f] w fun e w' => e = .returned (.tuple #[]) ∧ Below w.heap.size w w' := by
  have gi := insertion1 w a cap f
  go_enter Tryz.func105, Tryz.ntmps105
  go_wp2_with fail
  go_loopw [1, 2] (fun a b wr => a = .int .i64 0 ∧ b = .int .i64 1 ∧ wr = w) (fun _ _ _ => 0)
  case atStart => exact ⟨rfl, rfl, rfl⟩
  case round =>
    obtain ⟨rfl, rfl, hwr⟩ := hrel
    subst wr
    go_wp2_with (go_at_call 133; refine gi.mono ?_; rintro e w1 ⟨rfl, hh⟩; have HH := Lib.hid hh; clear hh gi)
    exact bodyPost_ret (v := .tuple #[]) (results_none rfl _ _ _) rfl ⟨rfl, HH.out⟩
set_option maxRecDepth 100000 in
theorem sort1 (w : World) (a : Option Addr) (cap : Nat) (f : Value) :
    Calls Tryz.prog 65 #[.slice a 1 cap, f] w fun e w' => e = .returned (.tuple #[]) ∧ Below w.heap.size w w' := by
  have gL := len64_any 1 w (by decide)
  have gP : ∀ (z : Int) w1, Below w.heap.size w w1 → Calls Tryz.prog 105 #[.slice a 1 cap, .int .i64 0, .int .i64 1, .int .i64 z, f] w1 fun e w' => e = .returned (.tuple #[]) ∧ Below w.heap.size w w' := fun z w1 hb => by
    refine (pdq1 w1 a cap z f).mono ?_
    rintro e w' ⟨rfl, h1⟩
    exact ⟨rfl, hb.trans (h1.mono hb.size)⟩
  go_enter Tryz.func65, Tryz.ntmps65
  go_wp2_with (go_at_call 60; refine gL.mono ?_; rintro e w1 ⟨⟨z, rfl⟩, hb1⟩; have gP1 := gP z w1 hb1; clear hb1 gP gL)
  refine gP1.mono ?_
  rintro e w2 ⟨rfl, hh⟩
  have HH := Lib.hid hh
  clear hh gP1
  go_wp2
  go_end0
  exact ⟨rfl, HH.out⟩

/-- a disk as found: one folder, nothing else -/
def DsBlk (w : World) (D fr fc : Nat) : Prop := w.heap[D]? = some (.cells #[.slice (some ⟨fr, 0, none⟩) 1 fc, .int .i64 0, .string ⟨#[]⟩, .slice none 0 0, .slice none 0 0] 144 (0, 0))
theorem DsBlk.cells {w : World} {D fr fc : Nat} (h : DsBlk w D fr fc) : w.cell? ⟨D, 0, none⟩ = some (.slice (some ⟨fr, 0, none⟩) 1 fc) ∧ w.cell? ⟨D, 1, none⟩ = some (.int .i64 0) ∧ w.cell? ⟨D, 2, none⟩ = some (.string ⟨#[]⟩) ∧ w.cell? ⟨D, 3, none⟩ = some (.slice none 0 0) ∧ w.cell? ⟨D, 4, none⟩ = some (.slice none 0 0) ∧ D < w.heap.size := by
  unfold DsBlk at h
  exact ⟨by simp [World.cell?, h], by simp [World.cell?, h], by simp [World.cell?, h], by simp [World.cell?, h], by simp [World.cell?, h], (Array.getElem?_eq_some_iff.1 h).1⟩
theorem fptr_index {g n cap : Nat} {w : World} (hn : 0 < n) : (Instr.indexAt 141 (.slice (some ⟨g, 0, none⟩) n cap) (.int .i64 0)).run Tryz.prog w = .ok (.pointer (some ⟨g, 0, none⟩)) w := by
  go_simp
set_option maxRecDepth 100000 in
theorem findF_one {w : World} {D fr fc F : Nat} {code text : ByteArray} {v : Value} {ep nx : Int} {ev : Value} {br : Bool} (h : DsBlk w D fr fc) (hf : FrBlk w fr F) (hk : FdBlk w F code text v ep nx ev br) :
    Calls Tryz.prog 106 #[.pointer (some ⟨D, 0, none⟩), .string code] w fun e w' => e = .returned (.pointer (some ⟨F, 0, none⟩)) ∧ w' = w := by
  obtain ⟨c0, _⟩ := h.cells
  obtain ⟨d0, _⟩ := hk.cells
  have r0 := hf.1
  clear h hf hk
  go_enter Tryz.func106, Tryz.ntmps106
  go_wp2_with fail
  go_loop [12] (fun i => i = .int .i64 0) (fun _ => 0)
  case atStart => rfl
  case round =>
    subst hrel
    go_wp2_with fail
    go_ret
    exact ⟨rfl, rfl⟩
end Go.Proofs.YtamglanahpcedaaGreatDoor
