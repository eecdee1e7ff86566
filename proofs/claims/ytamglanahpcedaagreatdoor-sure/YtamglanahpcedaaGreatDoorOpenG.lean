/-
  OWN TEXT: store.sortOut of the files in/1. .. in/n. and in/list.
-/
import Derived.Test.YtamglanahpcedaaGreatDoorOpenF
import Derived.Test.YtamglanahpcedaaGreatDoorOpenAB
namespace Go.Proofs.YtamglanahpcedaaGreatDoor
open Go.RowKit Go.Lib

def Mb.listN : List UInt8 := [105, 110, 47, 108, 105, 115, 116]
def Mb.mfiles : Nat → List (List UInt8) → List Mb.Fl
  | _, [] => []
  | k, t :: r => ⟨Mb.msgName k, t⟩ :: Mb.mfiles (k + 1) r
theorem Mb.mfiles_len : ∀ (k : Nat) (ts : List (List UInt8)), (Mb.mfiles k ts).length = ts.length
  | _, [] => rfl
  | k, _ :: r => by simp [Mb.mfiles, Mb.mfiles_len (k + 1) r]
theorem Mb.mfiles_get : ∀ (k : Nat) (ts : List (List UInt8)) (i : Nat) (h : i < ts.length), (Mb.mfiles k ts)[i]? = some ⟨Mb.msgName (k + i), ts[i]⟩
  | _, [], i, h => by simp at h
  | k, t :: r, 0, h => by simp [Mb.mfiles]
  | k, t :: r, i + 1, h => by
    have := Mb.mfiles_get (k + 1) r i (by simpa using h)
    rw [show k + 1 + i = k + (i + 1) by omega] at this
    simpa [Mb.mfiles] using this
/-- the files of a disk of these messages: their names rise -/
def Mb.fsOf (ts : List (List UInt8)) (L : List UInt8) : List Mb.Fl := Mb.mfiles 1 ts ++ [⟨Mb.listN, L⟩]
theorem Mb.fsOf_len (ts : List (List UInt8)) (L : List UInt8) : (Mb.fsOf ts L).length = ts.length + 1 := by simp [Mb.fsOf, Mb.mfiles_len]
theorem Mb.fsOf_msg (ts : List (List UInt8)) (L : List UInt8) (i : Nat) (h : i < ts.length) : (Mb.fsOf ts L)[i]? = some ⟨Mb.msgName (i + 1), ts[i]⟩ := by
  unfold Mb.fsOf
  rw [List.getElem?_append_left (by rw [Mb.mfiles_len]; exact h), Mb.mfiles_get 1 ts i h, Nat.add_comm 1]
theorem Mb.fsOf_list (ts : List (List UInt8)) (L : List UInt8) : (Mb.fsOf ts L)[ts.length]? = some ⟨Mb.listN, L⟩ := by
  unfold Mb.fsOf
  rw [List.getElem?_append_right (by rw [Mb.mfiles_len]; exact Nat.le_refl _), Mb.mfiles_len]
  simp
def Mb.losFrom : Nat → List (List UInt8) → List Mb.Lo
  | _, [] => []
  | k, t :: r => ⟨Mb.msgName k, (k : Int), t⟩ :: Mb.losFrom (k + 1) r
theorem Mb.losFrom_len : ∀ (k : Nat) (ts : List (List UInt8)), (Mb.losFrom k ts).length = ts.length
  | _, [] => rfl
  | k, _ :: r => by simp [Mb.losFrom, Mb.losFrom_len (k + 1) r]
theorem Mb.losFrom_get : ∀ (k : Nat) (ts : List (List UInt8)) (i : Nat) (h : i < ts.length), (Mb.losFrom k ts)[i]? = some ⟨Mb.msgName (k + i), ((k + i : Nat) : Int), ts[i]⟩
  | _, [], i, h => by simp at h
  | k, t :: r, 0, h => by simp [Mb.losFrom]
  | k, t :: r, i + 1, h => by
    have := Mb.losFrom_get (k + 1) r i (by simpa using h)
    rw [show k + 1 + i = k + (i + 1) by omega] at this
    simpa [Mb.losFrom] using this
theorem Mb.los_take (ts : List (List UInt8)) (i : Nat) (h : i < ts.length) : (Mb.losFrom 1 ts).take (i + 1) = (Mb.losFrom 1 ts).take i ++ [⟨Mb.msgName (i + 1), ((i + 1 : Nat) : Int), ts[i]⟩] := by
  have h1 : i < (Mb.losFrom 1 ts).length := by rw [Mb.losFrom_len]; exact h
  rw [List.take_succ_eq_append_getElem h1]
  have := Mb.losFrom_get 1 ts i h
  rw [List.getElem?_eq_getElem h1, Nat.add_comm 1] at this
  rw [Option.some.inj this]
theorem Mb.name_next : ∀ k : Nat, k ≤ 8 → (Mb.msgName (k + 1) == Mb.msgName k) = false ∧ (Mb.listN == Mb.msgName k) = false := by
  have h : ∀ k : Fin 9, (Mb.msgName (k.val + 1) == Mb.msgName k.val) = false ∧ (Mb.listN == Mb.msgName k.val) = false := by decide +kernel
  intro k hk
  exact h ⟨k, by omega⟩
theorem Tryz.info_lo : (Tryz.prog.info? 157).map (fun i => (i.zero, i.size, i.bytes)) = some (some (.agg #[.string ByteArray.empty, .int .i64 0, .string ByteArray.empty, .int .i64 0, .string ByteArray.empty, .int .i64 0, .string ByteArray.empty]), 7, 88) := by kernel_rfl
theorem elem_lo : ElemOf Tryz.prog 145 157 7 88 := by
  obtain ⟨i, h1, h2, h3, h4⟩ := info_parts Tryz.info_lo
  exact ⟨i, _, Tryz.underlying145, h1, h2, h3, h4, rfl⟩
def OwnL (w : World) (B : Nat) (v : Value) (xs : List Mb.Lo) : Prop := w.ownsRow B 157 7 v xs.length (loCells xs)
theorem OwnL.form {w : World} {B : Nat} {v : Value} {xs : List Mb.Lo} (h : OwnL w B v xs) : ∃ a cap, v = .slice a xs.length cap ∧ xs.length ≤ cap ∧ LoAt w a xs ∧ ∀ b off, a = some ⟨b, off, none⟩ → B ≤ b ∧ off = 0 := by
  rcases h.2 with ⟨h1, h2⟩ | ⟨g, c, cur, h1, h2, h3, h4, _⟩
  · have hx : xs = [] := List.eq_nil_of_length_eq_zero (by omega)
    subst hx
    exact ⟨none, 0, h1, Nat.le_refl _, Or.inl rfl, fun b off hb => by cases hb⟩
  · subst h1
    refine ⟨some ⟨g, 0, none⟩, c, rfl, by omega, Or.inr ⟨g, 0, rfl, (Array.getElem?_eq_some_iff.1 h3).1, ?_⟩, fun b off hb => by injection hb with hb; injection hb with hb hb2; exact ⟨by omega, hb2.symm⟩⟩
    intro i x hx j u hu
    rw [Nat.zero_add]
    exact own_cell h (loCells_get _ _ _ hx j u hu)
theorem run_box {P : Program} {a : Act} {w w' : World} {oi : Oper} {v u : Value} {t : TypeId} {x : Operand} (ho : oi.op = .box t x) (hx : a.eval x = u) (hf : (Instr.box t u).run P w = .ok v w') : (execOp a.eval oi).run P w = .ok (.value v) w' := by
  unfold execOp
  simp only [ho, hx]
  simp only [Sem.run_bind, hf, Result.andThen, Sem.run_pure]
theorem found_make {c t : ByteArray} {w : World} : (Instr.build 155 #[(0, .string c), (1, .string t)]).run Tryz.prog w = .ok (.agg #[.string c, .string t, .slice none 0 0, .int .i64 0, .int .i64 0, .slice none 0 0, .bool false]) w := by
  go_simp
theorem found_box {c t : ByteArray} {w : World} : (Instr.box 155 (.agg #[.string c, .string t, .slice none 0 0, .int .i64 0, .int .i64 0, .slice none 0 0, .bool false])).run Tryz.prog w = .ok (.pointer (some ⟨w.heap.size, 0, none⟩)) (w.alloc (.cells #[.string c, .string t, .slice none 0 0, .int .i64 0, .int .i64 0, .slice none 0 0, .bool false] 155)) := by
  go_simp
theorem fptr_build {F : Nat} {w : World} : (Instr.buildSlice 141 1 #[(0, .pointer (some ⟨F, 0, none⟩))]).run Tryz.prog w = .ok (.slice (some ⟨w.heap.size, 0, none⟩) 1 1) (w.alloc (.cells #[.pointer (some ⟨F, 0, none⟩)] 150)) := by
  go_simp
theorem Tryz.info_fptr : (Tryz.prog.info? 150).map (fun i => (i.zero, i.size, i.bytes)) = some (some (.pointer none), 1, 8) := by kernel_rfl
theorem elem_fptr : ElemOf Tryz.prog 141 150 1 8 := by
  obtain ⟨i, h1, h2, h3, h4⟩ := info_parts Tryz.info_fptr
  exact ⟨i, _, Tryz.underlying141, h1, h2, h3, h4, rfl⟩
/-- a disk of which nothing is known yet -/
def DzBlk (w : World) (D : Nat) : Prop := w.heap[D]? = some (.cells #[.slice none 0 0, .int .i64 0, .string ⟨#[]⟩, .slice none 0 0, .slice none 0 0] 144 (0, 0))

set_option maxRecDepth 100000 in
set_option maxHeartbeats 4000000 in
theorem sortOut_any {w : World} {a : Option Addr} {cap : Nat} {ts : List (List UInt8)} {L : List UInt8} (hm : FlAt w a (Mb.fsOf ts L)) (hn : ts.length ≤ 8) (ht : ∀ t ∈ ts, t.length ≤ 40) (hE : EnvN w) :
    Calls Tryz.prog 41 #[.slice a (ts.length + 1) cap] w fun e w' => (∃ D fr fc F v, e = .returned (.tuple #[.pointer (some ⟨D, 0, none⟩), .bool true]) ∧ DsBlk w' D fr fc ∧ FrBlk w' fr F ∧ FdBlk w' F Mb.inN ⟨L.toArray⟩ v 0 0 (.slice none 0 0) false ∧ OwnM w' w.heap.size v ((Mb.losFrom 1 ts).map Mb.Lo.ms) ∧ (w.heap.size ≤ D ∧ w.heap.size ≤ fr ∧ w.heap.size ≤ F) ∧ (D ≠ fr ∧ D ≠ F ∧ fr ≠ F) ∧ (v.ownBlock ≠ some D ∧ v.ownBlock ≠ some fr ∧ v.ownBlock ≠ some F)) ∧ Below w.heap.size w w' := by
  have Hm := Lib.hid hm
  have Ht := Lib.hid ht
  have HE := Lib.hid hE
  obtain ⟨l0, hl0, hl1, hl2, hl3⟩ := info_parts Tryz.info_lo
  clear hm ht hE
  go_enter Tryz.func41, Tryz.ntmps41
  go_wp2_with fail
  go_loopw [5, 13] (fun m i wr => (∃ (k : Nat), k ≤ ts.length ∧ i = .int .i64 k ∧ Hid (DzBlk wr w.heap.size) ∧ Hid (OwnL wr (w.heap.size + 1) m ((Mb.losFrom 1 ts).take k)) ∧ Hid (Below w.heap.size w wr)) ∨ (∃ fr fc F, i = .int .i64 ((ts.length + 1 : Nat) : Int) ∧ Hid (DsBlk wr w.heap.size fr fc ∧ FrBlk wr fr F ∧ FdBlk wr F Mb.inN ⟨L.toArray⟩ (.slice none 0 0) 0 0 (.slice none 0 0) false ∧ w.heap.size < fr ∧ w.heap.size < F ∧ fr ≠ F ∧ m.ownBlock ≠ some F) ∧ Hid (OwnL wr (w.heap.size + 1) m (Mb.losFrom 1 ts)) ∧ Hid (Below w.heap.size w wr))) (fun _ i _ => ts.length + 1 - (RowKit.intOf i).toNat)
  case atStart => exact Or.inl ⟨0, Nat.zero_le _, rfl, heap_alloc_new w _, World.ownsRow_nil _ _ _ _, (Below.refl _ _).alloc (Nat.le_refl _) _⟩
  case round =>
    rcases hrel with ⟨k, hk, rfl, hD, hO, hbl⟩ | ⟨fr, fc, F, rfl, hDF, hO, hbl⟩
    · obtain ⟨b, off, ha, hb, hc⟩ : ∃ b off, a = some ⟨b, off, none⟩ ∧ b < w.heap.size ∧ FlsAt w b off (Mb.fsOf ts L) := by
        rcases Hm.out with hz | hz
        · have := Mb.fsOf_len ts L; rw [hz] at this; simp at this
        · exact hz
      subst ha
      have hk9 : k < ts.length + 1 := by omega
      have hI : ∀ w, (Instr.indexAt 25 (.slice (some ⟨b, off, none⟩) (ts.length + 1) cap) (.int .i64 (k : Int))).run Tryz.prog w = .ok (.pointer (some ⟨b, off + k * 2, none⟩)) w := fun w => file_index hk9
      have hsz := hbl.out.size
      have hDw : w.heap.size < wr.heap.size := (Array.getElem?_eq_some_iff.1 hD.out).1
      obtain ⟨oa, oc, hvv, _, _, _⟩ := OwnL.form hO.out
      have HLT : Hid (((Mb.losFrom 1 ts).take k).length = k) := by unfold Hid; simp [Mb.losFrom_len]; omega
      rw [HLT.out] at hvv
      subst hvv
      have hraw : wr.ownsRow (w.heap.size + 1) 157 7 (.slice oa k oc) k (loCells ((Mb.losFrom 1 ts).take k)) := by
        have := hO.out; unfold OwnL at this; rwa [HLT.out] at this
      obtain ⟨nm, Hnm⟩ : ∃ nm, Hid (nm = Mb.inN) := ⟨_, rfl⟩
      have HRaw := Lib.hid hraw
      have HC := Lib.hid hc
      clear hraw hc
      have hprev : 0 < k → ∃ pn : ByteArray, Hid (pn.data.toList = Mb.msgName k) ∧ wr.cell? ⟨b, off + (k - 1) * 2, none⟩ = some (.string pn) := fun h0 => by
        obtain ⟨pn, Hpn, Hpn'⟩ := named_bytes (Mb.msgName k)
        have h1 := (HC.out (k - 1) _ (Mb.fsOf_msg ts L (k - 1) (by omega))).1
        refine ⟨pn, Hpn', ((hbl.out.cell (p := ⟨b, off + (k - 1) * 2, none⟩) hb).trans h1).trans ?_⟩
        rw [Hpn.out, show k - 1 + 1 = k by omega]
      have hw1 : IntKind.i64.wrap ((k : Int) + 1) = ((k + 1 : Nat) : Int) := by rw [IntWalk.i64_in _ (by omega)]; omega
      have Hw1 := Lib.hid hw1
      clear hw1
      by_cases hlt : k < ts.length
      · have hx := Mb.fsOf_msg ts L k hlt
        obtain ⟨c0, c1⟩ := HC.out k _ hx
        have d0 := (hbl.out.cell (p := ⟨b, off + k * 2, none⟩) hb).trans c0
        have d1 := (hbl.out.cell (p := ⟨b, off + k * 2 + 1, none⟩) hb).trans c1
        obtain ⟨bn, Hbn, Hbn'⟩ := named_bytes (Mb.msgName (k + 1))
        obtain ⟨bd, Hbd, Hbd'⟩ := named_bytes ts[k]
        rw [← Hbn.out] at d0
        rw [← Hbd.out] at d1
        have HTK := Lib.hid (Mb.los_take ts k hlt)
        have hnx := (Mb.name_next k (by omega)).1
        have HX := Lib.hid hnx
        clear c0 c1 hx hnx
        rcases Nat.eq_zero_or_pos k with hk0 | hk0
        · have hgt : ∀ w, (do eqGuard .gtr 3 (.tmp 18) (.const (.int .i64 0)) (.int .i64 (k : Int)) (.int .i64 0); binOp .gtr 3 (.int .i64 (k : Int)) (.int .i64 0) : Sem Value).run Tryz.prog w = .ok (.bool false) w := fun w => by
            have h0 : ¬ (0 : Int) < (k : Int) := by omega
            go_simp
          have HK0 := Lib.hid hk0
          clear hk0 hprev
          go_wp2_with fail
          have hv : (wr.alloc (.cells #[.string bn, .string bd] 48)).heap[wr.heap.size]? = some (.cells #[.string bn, .string bd] 48 (0, 0)) := heap_alloc_new wr _
          have hB2 : Below wr.heap.size wr (wr.alloc (.cells #[.string bn, .string bd] 48)) := (Below.refl _ _).alloc (Nat.le_refl _) _
          have hs2 : (wr.alloc (.cells #[.string bn, .string bd] 48)).heap.size = wr.heap.size + 1 := by simp
          generalize (wr.alloc (.cells #[.string bn, .string bd] 48)) = w2 at *
          refine region_late [] (fun w' : World => True) 13 rfl (by kernel_rfl) trivial (fun a' Q hA hQ hP hS => ?_)
          have z : a'.tmps.size = 119 := by rw [hA.out]; rfl
          have e0 : a'.eval (.tmp 0) = Value.slice (some ⟨b, off, none⟩) (ts.length + 1) cap := by rw [hA.out]; rfl
          have e6 : a'.eval (.tmp 6) = Value.int .i64 (k : Int) := by rw [hA.out]; rfl
          have e7 : a'.eval (.tmp 7) = Value.pointer (some ⟨wr.heap.size, 0, none⟩) := by rw [hA.out]; rfl
          refine tkp (i := 0) (d := (some 18)) rfl rfl (by kernel_rfl) hP (wanted_all rfl) (fun wx => run_move rfl e6) hS ?_
          refine tkp (i := 1) (d := (some 19)) rfl rfl (by kernel_rfl) hP (wanted_all rfl) (fun wx => run_bin (v := .bool false) rfl (eve (Nat.lt_of_lt_of_eq (by decide : 18 < 119) z.symm)) rfl (hgt wx)) hS ?_
          refine tkp (i := 2) (d := (some 20)) rfl rfl (by kernel_rfl) hP (wanted_all rfl) (fun wx => run_move rfl (eve (Nat.lt_of_lt_of_eq (by decide : 19 < 119) (szq z).symm))) hS ?_
          refine tknv (i := 3) (d := (some 21)) rfl rfl (by kernel_rfl) hP (wanted_no (e := 20) (b := true) rfl rfl (eve (Nat.lt_of_lt_of_eq (by decide : 20 < 119) (szq (szq z)).symm))) hS ?_
          refine tknv (i := 4) (d := (some 22)) rfl rfl (by kernel_rfl) hP (wanted_no (e := 20) (b := true) rfl rfl (evq (by decide) (eve (Nat.lt_of_lt_of_eq (by decide : 20 < 119) (szq (szq z)).symm)))) hS ?_
          refine tknv (i := 5) (d := (some 23)) rfl rfl (by kernel_rfl) hP (wanted_no (e := 20) (b := true) rfl rfl (evq (by decide) (evq (by decide) (eve (Nat.lt_of_lt_of_eq (by decide : 20 < 119) (szq (szq z)).symm))))) hS ?_
          refine tknv (i := 6) (d := (some 24)) rfl rfl (by kernel_rfl) hP (wanted_no (e := 20) (b := true) rfl rfl (evq (by decide) (evq (by decide) (evq (by decide) (eve (Nat.lt_of_lt_of_eq (by decide : 20 < 119) (szq (szq z)).symm)))))) hS ?_
          refine tknv (i := 7) (d := (some 25)) rfl rfl (by kernel_rfl) hP (wanted_no (e := 20) (b := true) rfl rfl (evq (by decide) (evq (by decide) (evq (by decide) (evq (by decide) (eve (Nat.lt_of_lt_of_eq (by decide : 20 < 119) (szq (szq z)).symm))))))) hS ?_
          refine tknv (i := 8) (d := (some 26)) rfl rfl (by kernel_rfl) hP (wanted_no (e := 20) (b := true) rfl rfl (evq (by decide) (evq (by decide) (evq (by decide) (evq (by decide) (evq (by decide) (eve (Nat.lt_of_lt_of_eq (by decide : 20 < 119) (szq (szq z)).symm)))))))) hS ?_
          refine tknv (i := 9) (d := (some 27)) rfl rfl (by kernel_rfl) hP (wanted_no (e := 20) (b := true) rfl rfl (evq (by decide) (evq (by decide) (evq (by decide) (evq (by decide) (evq (by decide) (evq (by decide) (eve (Nat.lt_of_lt_of_eq (by decide : 20 < 119) (szq (szq z)).symm))))))))) hS ?_
          refine tknv (i := 10) (d := (some 28)) rfl rfl (by kernel_rfl) hP (wanted_no (e := 20) (b := true) rfl rfl (evq (by decide) (evq (by decide) (evq (by decide) (evq (by decide) (evq (by decide) (evq (by decide) (evq (by decide) (eve (Nat.lt_of_lt_of_eq (by decide : 20 < 119) (szq (szq z)).symm)))))))))) hS ?_
          refine tknv (i := 11) (d := (some 29)) rfl rfl (by kernel_rfl) hP (wanted_no (e := 20) (b := true) rfl rfl (evq (by decide) (evq (by decide) (evq (by decide) (evq (by decide) (evq (by decide) (evq (by decide) (evq (by decide) (evq (by decide) (eve (Nat.lt_of_lt_of_eq (by decide : 20 < 119) (szq (szq z)).symm))))))))))) hS ?_
          refine tkp (i := 12) (d := (some 30)) rfl rfl (by kernel_rfl) hP (wanted_all rfl) (fun wx => run_pick (v := .bool false) rfl (evq (by decide) (evq (by decide) (evq (by decide) (evq (by decide) (evq (by decide) (evq (by decide) (evq (by decide) (evq (by decide) (evq (by decide) (eve (Nat.lt_of_lt_of_eq (by decide : 20 < 119) (szq (szq z)).symm))))))))))) (eve (Nat.lt_of_lt_of_eq (by decide : 29 < 119) (szq (szq (szq (szq (szq (szq (szq (szq (szq (szq (szq z))))))))))).symm)) rfl rfl) hS ?_
          refine wpAnyV_done (by kernel_rfl) (hQ.out _ _ ?_) _
          rw [hA.out]
          simp only [Act.put, List.setIfInBounds_toArray]
          dsimp only [List.set]
          clear hQ hP hA z hS Q a' e0 e6 e7 
          have hB2' := Lib.hid hB2
          have hS2' := Lib.hid hs2
          have gR := read_msg (k + 1) (by omega) (by omega) bn Hbn'.out w2.drew (HE.out.below (hbl.out.trans ((hB2.mono hsz).trans (Below.refl _ _).drew)) (Nat.le_refl _))
          rw [show (⟨#[105, 110]⟩ : ByteArray) = nm from Hnm.out.symm] at gR
          obtain ⟨key, HKey⟩ : ∃ key : Int, Hid (key = ((k + 1 : Nat) : Int)) := ⟨_, rfl⟩
          rw [← HKey.out] at gR
          have x0 : w2.drew.cell? ⟨wr.heap.size, 0, none⟩ = some (.string bn) := show w2.cell? _ = _ by simp [World.cell?, hv]
          go_wp2_with fail
          refine gR.mono ?_
          rintro e w3 ⟨rfl, hb3⟩
          have hs3 : wr.heap.size + 1 ≤ w3.heap.size := Nat.le_trans (Nat.le_of_eq hs2.symm) hb3.size
          have hv3 : w3.heap[wr.heap.size]? = some (.cells #[.string bn, .string bd] 48 (0, 0)) := (hb3.block wr.heap.size (by show _ < w2.heap.size; omega)).trans hv
          have y0 : (w3.alloc (.cells #[.int .i64 3, .string nm, .int .i64 key, .string ⟨#[]⟩, .int .i64 0] 148)).cell? ⟨wr.heap.size, 0, none⟩ = some (.string bn) := (World.cell?_of_block (a := ⟨wr.heap.size, 0, none⟩) (Go.heap_alloc_old w3 _ hs3)).trans (by simp [World.cell?, hv3])
          have y1 : (w3.alloc (.cells #[.int .i64 3, .string nm, .int .i64 key, .string ⟨#[]⟩, .int .i64 0] 148)).cell? ⟨wr.heap.size, 1, none⟩ = some (.string bd) := (World.cell?_of_block (a := ⟨wr.heap.size, 1, none⟩) (Go.heap_alloc_old w3 _ hs3)).trans (by simp [World.cell?, hv3])
          have hB3 : Below wr.heap.size wr w3 := hB2.trans (((Below.refl _ _).drew).trans (hb3.mono (show wr.heap.size ≤ w2.heap.size by omega)))
          have hB3w := Lib.hid (hbl.out.trans (hB3.mono hsz))
          have hownA := ((owns_block (fun b' hb' => hB3.block b' (HRaw.out.lt b' hb').2) HRaw.out).alloc (.cells #[.int .i64 3, .string nm, .int .i64 key, .string ⟨#[]⟩, .int .i64 0] 148)).alloc (.cells #[.string bn, .int .i64 3, .string nm, .int .i64 key, .string ⟨#[]⟩, .int .i64 0, .string bd] 157)
          have HB3 := Lib.hid hB3
          clear hB3 hb3 hv3 hv hB2 hs2 gR x0 hI d0 d1
          go_wp2_with (at_builtin; refine wpList_append_lies _ rfl (.tmp 78) (.tmp 85) 145 rfl (w.heap.size + 1) 157 l0 _ 7 88 Tryz.underlying145 hl0 hl1 hl2 hl3 rfl (by decide) (.slice oa k oc) k (loCells ((Mb.losFrom 1 ts).take k)) rfl hownA ⟨w3.heap.size + 1, 0, none⟩ 1 1 [.string bn, .int .i64 3, .string nm, .int .i64 key, .string ⟨#[]⟩, .int .i64 0, .string bd] rfl rfl (World.news_of_block (cs := #[.string bn, .int .i64 3, .string nm, .int .i64 key, .string ⟨#[]⟩, .int .i64 0, .string bd]) (t := 157) (fr := (0, 0)) (by have := heap_alloc_new (w3.alloc (.cells #[.int .i64 3, .string nm, .int .i64 key, .string ⟨#[]⟩, .int .i64 0] 148)) (.cells #[.string bn, .int .i64 3, .string nm, .int .i64 key, .string ⟨#[]⟩, .int .i64 0, .string bd] 157); simpa using this)) (by simp [Value.oneCell']) (by decide) (by unfold maxLen; omega) (by omega) (by simp; omega) _ rfl ?_)
          intro g gc w5 hown5 hgrow5 hat5 hlt5
          have hnD : some w.heap.size ≠ (Value.slice oa k oc).ownBlock := fun e => by have := (HRaw.out.lt _ e.symm).1; omega
          have hB5 : Hid (Below w.heap.size w w5) := ((hB3w.out.alloc (by omega) _).alloc (by simp; omega) _).grown hgrow5 (by simp; omega) (fun b' hb' => by have := (HRaw.out.lt b' hb').1; omega)
          have hD5 : Hid (DzBlk w5 w.heap.size) := (hgrow5.block w.heap.size (by simp; omega) hnD).trans ((Go.heap_alloc_old _ _ (by simp; omega)).trans ((Go.heap_alloc_old w3 _ (by omega)).trans ((HB3.out.block _ hDw).trans hD.out)))
          have hO5 : Hid (OwnL w5 (w.heap.size + 1) (.slice (some ⟨g, 0, none⟩) (k + 1) gc) ((Mb.losFrom 1 ts).take (k + 1))) := by
            unfold Hid OwnL
            rw [HTK.out, loCells_snoc, List.length_append, HLT.out]
            unfold loRow
            rw [← Hbn.out, ← Hbd.out, ← Hnm.out, ← HKey.out]
            exact hown5
          clear hown5 hgrow5 hat5 hownA y0 y1 hnD
          go_wp2_with fail
          exact ⟨Or.inl ⟨k + 1, by omega, by simp, hD5, hO5, hB5⟩, by simp [RowKit.intOf]; omega⟩
        · have hgt : ∀ w, (do eqGuard .gtr 3 (.tmp 18) (.const (.int .i64 0)) (.int .i64 (k : Int)) (.int .i64 0); binOp .gtr 3 (.int .i64 (k : Int)) (.int .i64 0) : Sem Value).run Tryz.prog w = .ok (.bool true) w := fun w => by
            have h0 : (0 : Int) < (k : Int) := by omega
            go_simp
          obtain ⟨pn, Hpn, pc⟩ := hprev hk0
          have hkm : k - 1 < ts.length + 1 := by omega
          have hwr : IntKind.i64.wrap ((k : Int) - 1) = ((k - 1 : Nat) : Int) := by rw [IntWalk.i64_in _ (by omega)]; omega
          have hsub : ∀ w, (do eqGuard .sub 3 (.tmp 24) (.const (.int .i64 1)) (.int .i64 (k : Int)) (.int .i64 1); binOp .sub 3 (.int .i64 (k : Int)) (.int .i64 1) : Sem Value).run Tryz.prog w = .ok (.int .i64 ((k - 1 : Nat) : Int)) w := fun w => by go_simp
          have hne : (bn.toList == pn.toList) = false := by rw [ByteArray.toList_eq, ByteArray.toList_eq, Hbn'.out, Hpn.out]; exact HX.out
          have heq : ∀ w, (do eqGuard .eql 9 (.tmp 22) (.tmp 28) (.string bn) (.string pn); binOp .eql 9 (.string bn) (.string pn) : Sem Value).run Tryz.prog w = .ok (.bool false) w := fun w => by go_simp
          have HK0 := Lib.hid hk0
          have hkk := Lib.hid hkm
          have hp2 : (wr.alloc (.cells #[.string bn, .string bd] 48)).cell? ⟨b, off + (k - 1) * 2, none⟩ = some (.string pn) := (World.cell?_of_block (a := ⟨b, off + (k - 1) * 2, none⟩) (Go.heap_alloc_old wr _ (show b < wr.heap.size by omega))).trans pc
          have Hp2 := Lib.hid hp2
          have hkm' := Lib.hid hkm
          clear hk0 hprev hwr hne hp2 pc hkm
          go_wp2_with fail
          have hv : (wr.alloc (.cells #[.string bn, .string bd] 48)).heap[wr.heap.size]? = some (.cells #[.string bn, .string bd] 48 (0, 0)) := heap_alloc_new wr _
          have hB2 : Below wr.heap.size wr (wr.alloc (.cells #[.string bn, .string bd] 48)) := (Below.refl _ _).alloc (Nat.le_refl _) _
          have hs2 : (wr.alloc (.cells #[.string bn, .string bd] 48)).heap.size = wr.heap.size + 1 := by simp
          generalize (wr.alloc (.cells #[.string bn, .string bd] 48)) = w2 at *
          have hkm := hkm'.out
          have p0 := Hp2.out
          have v0 : w2.cell? ⟨wr.heap.size, 0, none⟩ = some (.string bn) := by simp [World.cell?, hv]
          refine region_late [] (fun w' : World => w'.cell? ⟨wr.heap.size, 0, none⟩ = some (.string bn) ∧ w'.cell? ⟨b, off + (k - 1) * 2, none⟩ = some (.string pn)) 13 rfl (by kernel_rfl) ⟨v0, p0⟩ (fun a' Q hA hQ hP hS => ?_)
          have z : a'.tmps.size = 119 := by rw [hA.out]; rfl
          have e0 : a'.eval (.tmp 0) = Value.slice (some ⟨b, off, none⟩) (ts.length + 1) cap := by rw [hA.out]; rfl
          have e6 : a'.eval (.tmp 6) = Value.int .i64 (k : Int) := by rw [hA.out]; rfl
          have e7 : a'.eval (.tmp 7) = Value.pointer (some ⟨wr.heap.size, 0, none⟩) := by rw [hA.out]; rfl
          refine tkp (i := 0) (d := (some 18)) rfl rfl (by kernel_rfl) hP (wanted_all rfl) (fun wx => run_move rfl e6) hS ?_
          refine tkp (i := 1) (d := (some 19)) rfl rfl (by kernel_rfl) hP (wanted_all rfl) (fun wx => run_bin (v := .bool true) rfl (eve (Nat.lt_of_lt_of_eq (by decide : 18 < 119) z.symm)) rfl (hgt wx)) hS ?_
          refine tkp (i := 2) (d := (some 20)) rfl rfl (by kernel_rfl) hP (wanted_all rfl) (fun wx => run_move rfl (eve (Nat.lt_of_lt_of_eq (by decide : 19 < 119) (szq z).symm))) hS ?_
          refine tkp (i := 3) (d := (some 21)) rfl rfl (by kernel_rfl) hP (wanted_yes (e := 20) (b := true) rfl rfl (eve (Nat.lt_of_lt_of_eq (by decide : 20 < 119) (szq (szq z)).symm))) (fun wx => run_field (p' := ⟨wr.heap.size, 0, none⟩) rfl (evq (by decide) (evq (by decide) (evq (by decide) e7))) (fun w => by kernel_rfl)) hS ?_
          refine tkv (i := 4) (d := (some 22)) rfl rfl (by kernel_rfl) hP (wanted_yes (e := 20) (b := true) rfl rfl (evq (by decide) (eve (Nat.lt_of_lt_of_eq (by decide : 20 < 119) (szq (szq z)).symm)))) (fun wx hw => run_load rfl (eve (Nat.lt_of_lt_of_eq (by decide : 21 < 119) (szq (szq (szq z))).symm)) (loadAt_one (fun w => by kernel_rfl) hw.1)) hS ?_
          refine tkp (i := 5) (d := (some 23)) rfl rfl (by kernel_rfl) hP (wanted_yes (e := 20) (b := true) rfl rfl (evq (by decide) (evq (by decide) (eve (Nat.lt_of_lt_of_eq (by decide : 20 < 119) (szq (szq z)).symm))))) (fun wx => run_move rfl (evq (by decide) (evq (by decide) (evq (by decide) (evq (by decide) (evq (by decide) e0)))))) hS ?_
          refine tkp (i := 6) (d := (some 24)) rfl rfl (by kernel_rfl) hP (wanted_yes (e := 20) (b := true) rfl rfl (evq (by decide) (evq (by decide) (evq (by decide) (eve (Nat.lt_of_lt_of_eq (by decide : 20 < 119) (szq (szq z)).symm)))))) (fun wx => run_move rfl (evq (by decide) (evq (by decide) (evq (by decide) (evq (by decide) (evq (by decide) (evq (by decide) e6))))))) hS ?_
          refine tkp (i := 7) (d := (some 25)) rfl rfl (by kernel_rfl) hP (wanted_yes (e := 20) (b := true) rfl rfl (evq (by decide) (evq (by decide) (evq (by decide) (evq (by decide) (eve (Nat.lt_of_lt_of_eq (by decide : 20 < 119) (szq (szq z)).symm))))))) (fun wx => run_bin (v := .int .i64 ((k - 1 : Nat) : Int)) rfl (eve (Nat.lt_of_lt_of_eq (by decide : 24 < 119) (szq (szq (szq (szq (szq (szq z)))))).symm)) rfl (hsub wx)) hS ?_
          refine tkp (i := 8) (d := (some 26)) rfl rfl (by kernel_rfl) hP (wanted_yes (e := 20) (b := true) rfl rfl (evq (by decide) (evq (by decide) (evq (by decide) (evq (by decide) (evq (by decide) (eve (Nat.lt_of_lt_of_eq (by decide : 20 < 119) (szq (szq z)).symm)))))))) (fun wx => run_index (v := .pointer (some ⟨b, off + (k - 1) * 2, none⟩)) rfl (evq (by decide) (evq (by decide) (eve (Nat.lt_of_lt_of_eq (by decide : 23 < 119) (szq (szq (szq (szq (szq z))))).symm)))) (eve (Nat.lt_of_lt_of_eq (by decide : 25 < 119) (szq (szq (szq (szq (szq (szq (szq z))))))).symm)) (file_index hkm)) hS ?_
          refine tkp (i := 9) (d := (some 27)) rfl rfl (by kernel_rfl) hP (wanted_yes (e := 20) (b := true) rfl rfl (evq (by decide) (evq (by decide) (evq (by decide) (evq (by decide) (evq (by decide) (evq (by decide) (eve (Nat.lt_of_lt_of_eq (by decide : 20 < 119) (szq (szq z)).symm))))))))) (fun wx => run_field (p' := ⟨b, off + (k - 1) * 2, none⟩) rfl (eve (Nat.lt_of_lt_of_eq (by decide : 26 < 119) (szq (szq (szq (szq (szq (szq (szq (szq z)))))))).symm)) (fun w => by kernel_rfl)) hS ?_
          refine tkv (i := 10) (d := (some 28)) rfl rfl (by kernel_rfl) hP (wanted_yes (e := 20) (b := true) rfl rfl (evq (by decide) (evq (by decide) (evq (by decide) (evq (by decide) (evq (by decide) (evq (by decide) (evq (by decide) (eve (Nat.lt_of_lt_of_eq (by decide : 20 < 119) (szq (szq z)).symm)))))))))) (fun wx hw => run_load rfl (eve (Nat.lt_of_lt_of_eq (by decide : 27 < 119) (szq (szq (szq (szq (szq (szq (szq (szq (szq z))))))))).symm)) (loadAt_one (fun w => by kernel_rfl) hw.2)) hS ?_
          refine tkp (i := 11) (d := (some 29)) rfl rfl (by kernel_rfl) hP (wanted_yes (e := 20) (b := true) rfl rfl (evq (by decide) (evq (by decide) (evq (by decide) (evq (by decide) (evq (by decide) (evq (by decide) (evq (by decide) (evq (by decide) (eve (Nat.lt_of_lt_of_eq (by decide : 20 < 119) (szq (szq z)).symm))))))))))) (fun wx => run_bin (v := .bool false) rfl (evq (by decide) (evq (by decide) (evq (by decide) (evq (by decide) (evq (by decide) (evq (by decide) (eve (Nat.lt_of_lt_of_eq (by decide : 22 < 119) (szq (szq (szq (szq z)))).symm)))))))) (eve (Nat.lt_of_lt_of_eq (by decide : 28 < 119) (szq (szq (szq (szq (szq (szq (szq (szq (szq (szq z)))))))))).symm)) (heq wx)) hS ?_
          refine tkp (i := 12) (d := (some 30)) rfl rfl (by kernel_rfl) hP (wanted_all rfl) (fun wx => run_pick (v := .bool false) rfl (evq (by decide) (evq (by decide) (evq (by decide) (evq (by decide) (evq (by decide) (evq (by decide) (evq (by decide) (evq (by decide) (evq (by decide) (eve (Nat.lt_of_lt_of_eq (by decide : 20 < 119) (szq (szq z)).symm))))))))))) (eve (Nat.lt_of_lt_of_eq (by decide : 29 < 119) (szq (szq (szq (szq (szq (szq (szq (szq (szq (szq (szq z))))))))))).symm)) rfl rfl) hS ?_
          refine wpAnyV_done (by kernel_rfl) (hQ.out _ _ ?_) _
          rw [hA.out]
          simp only [Act.put, List.setIfInBounds_toArray]
          dsimp only [List.set]
          clear hQ hP hA z hS Q a' e0 e6 e7 
          have hB2' := Lib.hid hB2
          have hS2' := Lib.hid hs2
          have gR := read_msg (k + 1) (by omega) (by omega) bn Hbn'.out w2.drew (HE.out.below (hbl.out.trans ((hB2.mono hsz).trans (Below.refl _ _).drew)) (Nat.le_refl _))
          rw [show (⟨#[105, 110]⟩ : ByteArray) = nm from Hnm.out.symm] at gR
          obtain ⟨key, HKey⟩ : ∃ key : Int, Hid (key = ((k + 1 : Nat) : Int)) := ⟨_, rfl⟩
          rw [← HKey.out] at gR
          have x0 : w2.drew.cell? ⟨wr.heap.size, 0, none⟩ = some (.string bn) := show w2.cell? _ = _ by simp [World.cell?, hv]
          go_wp2_with fail
          refine gR.mono ?_
          rintro e w3 ⟨rfl, hb3⟩
          have hs3 : wr.heap.size + 1 ≤ w3.heap.size := Nat.le_trans (Nat.le_of_eq hs2.symm) hb3.size
          have hv3 : w3.heap[wr.heap.size]? = some (.cells #[.string bn, .string bd] 48 (0, 0)) := (hb3.block wr.heap.size (by show _ < w2.heap.size; omega)).trans hv
          have y0 : (w3.alloc (.cells #[.int .i64 3, .string nm, .int .i64 key, .string ⟨#[]⟩, .int .i64 0] 148)).cell? ⟨wr.heap.size, 0, none⟩ = some (.string bn) := (World.cell?_of_block (a := ⟨wr.heap.size, 0, none⟩) (Go.heap_alloc_old w3 _ hs3)).trans (by simp [World.cell?, hv3])
          have y1 : (w3.alloc (.cells #[.int .i64 3, .string nm, .int .i64 key, .string ⟨#[]⟩, .int .i64 0] 148)).cell? ⟨wr.heap.size, 1, none⟩ = some (.string bd) := (World.cell?_of_block (a := ⟨wr.heap.size, 1, none⟩) (Go.heap_alloc_old w3 _ hs3)).trans (by simp [World.cell?, hv3])
          have hB3 : Below wr.heap.size wr w3 := hB2.trans (((Below.refl _ _).drew).trans (hb3.mono (show wr.heap.size ≤ w2.heap.size by omega)))
          have hB3w := Lib.hid (hbl.out.trans (hB3.mono hsz))
          have hownA := ((owns_block (fun b' hb' => hB3.block b' (HRaw.out.lt b' hb').2) HRaw.out).alloc (.cells #[.int .i64 3, .string nm, .int .i64 key, .string ⟨#[]⟩, .int .i64 0] 148)).alloc (.cells #[.string bn, .int .i64 3, .string nm, .int .i64 key, .string ⟨#[]⟩, .int .i64 0, .string bd] 157)
          have HB3 := Lib.hid hB3
          clear hB3 hb3 hv3 hv hB2 hs2 gR x0 hI d0 d1
          go_wp2_with (at_builtin; refine wpList_append_lies _ rfl (.tmp 78) (.tmp 85) 145 rfl (w.heap.size + 1) 157 l0 _ 7 88 Tryz.underlying145 hl0 hl1 hl2 hl3 rfl (by decide) (.slice oa k oc) k (loCells ((Mb.losFrom 1 ts).take k)) rfl hownA ⟨w3.heap.size + 1, 0, none⟩ 1 1 [.string bn, .int .i64 3, .string nm, .int .i64 key, .string ⟨#[]⟩, .int .i64 0, .string bd] rfl rfl (World.news_of_block (cs := #[.string bn, .int .i64 3, .string nm, .int .i64 key, .string ⟨#[]⟩, .int .i64 0, .string bd]) (t := 157) (fr := (0, 0)) (by have := heap_alloc_new (w3.alloc (.cells #[.int .i64 3, .string nm, .int .i64 key, .string ⟨#[]⟩, .int .i64 0] 148)) (.cells #[.string bn, .int .i64 3, .string nm, .int .i64 key, .string ⟨#[]⟩, .int .i64 0, .string bd] 157); simpa using this)) (by simp [Value.oneCell']) (by decide) (by unfold maxLen; omega) (by omega) (by simp; omega) _ rfl ?_)
          intro g gc w5 hown5 hgrow5 hat5 hlt5
          have hnD : some w.heap.size ≠ (Value.slice oa k oc).ownBlock := fun e => by have := (HRaw.out.lt _ e.symm).1; omega
          have hB5 : Hid (Below w.heap.size w w5) := ((hB3w.out.alloc (by omega) _).alloc (by simp; omega) _).grown hgrow5 (by simp; omega) (fun b' hb' => by have := (HRaw.out.lt b' hb').1; omega)
          have hD5 : Hid (DzBlk w5 w.heap.size) := (hgrow5.block w.heap.size (by simp; omega) hnD).trans ((Go.heap_alloc_old _ _ (by simp; omega)).trans ((Go.heap_alloc_old w3 _ (by omega)).trans ((HB3.out.block _ hDw).trans hD.out)))
          have hO5 : Hid (OwnL w5 (w.heap.size + 1) (.slice (some ⟨g, 0, none⟩) (k + 1) gc) ((Mb.losFrom 1 ts).take (k + 1))) := by
            unfold Hid OwnL
            rw [HTK.out, loCells_snoc, List.length_append, HLT.out]
            unfold loRow
            rw [← Hbn.out, ← Hbd.out, ← Hnm.out, ← HKey.out]
            exact hown5
          clear hown5 hgrow5 hat5 hownA y0 y1 hnD
          go_wp2_with fail
          exact ⟨Or.inl ⟨k + 1, by omega, by simp, hD5, hO5, hB5⟩, by simp [RowKit.intOf]; omega⟩
      · have hke : k = ts.length := by omega
        have hx := Mb.fsOf_list ts L
        rw [← hke] at hx
        obtain ⟨c0, c1⟩ := HC.out k _ hx
        have d0 := (hbl.out.cell (p := ⟨b, off + k * 2, none⟩) hb).trans c0
        have d1 := (hbl.out.cell (p := ⟨b, off + k * 2 + 1, none⟩) hb).trans c1
        obtain ⟨bn, Hbn, Hbn'⟩ := named_bytes Mb.listN
        obtain ⟨bd, Hbd, Hbd'⟩ := named_bytes L
        rw [← Hbn.out] at d0
        rw [← Hbd.out] at d1
        have hnx := (Mb.name_next k (by omega)).2
        have HX := Lib.hid hnx
        have hk9' : (k : Int) < (ts.length : Int) + 1 := by omega
        clear c0 c1 hx hnx hke
        rcases Nat.eq_zero_or_pos k with hk0 | hk0
        · have hgt : ∀ w, (do eqGuard .gtr 3 (.tmp 18) (.const (.int .i64 0)) (.int .i64 (k : Int)) (.int .i64 0); binOp .gtr 3 (.int .i64 (k : Int)) (.int .i64 0) : Sem Value).run Tryz.prog w = .ok (.bool false) w := fun w => by
            have h0 : ¬ (0 : Int) < (k : Int) := by omega
            go_simp
          have HK0 := Lib.hid hk0
          clear hk0 hprev
          go_wp2_with fail
          have hv : (wr.alloc (.cells #[.string bn, .string bd] 48)).heap[wr.heap.size]? = some (.cells #[.string bn, .string bd] 48 (0, 0)) := heap_alloc_new wr _
          have hB2 : Below wr.heap.size wr (wr.alloc (.cells #[.string bn, .string bd] 48)) := (Below.refl _ _).alloc (Nat.le_refl _) _
          have hs2 : (wr.alloc (.cells #[.string bn, .string bd] 48)).heap.size = wr.heap.size + 1 := by simp
          generalize (wr.alloc (.cells #[.string bn, .string bd] 48)) = w2 at *
          refine region_late [] (fun w' : World => True) 13 rfl (by kernel_rfl) trivial (fun a' Q hA hQ hP hS => ?_)
          have z : a'.tmps.size = 119 := by rw [hA.out]; rfl
          have e0 : a'.eval (.tmp 0) = Value.slice (some ⟨b, off, none⟩) (ts.length + 1) cap := by rw [hA.out]; rfl
          have e6 : a'.eval (.tmp 6) = Value.int .i64 (k : Int) := by rw [hA.out]; rfl
          have e7 : a'.eval (.tmp 7) = Value.pointer (some ⟨wr.heap.size, 0, none⟩) := by rw [hA.out]; rfl
          refine tkp (i := 0) (d := (some 18)) rfl rfl (by kernel_rfl) hP (wanted_all rfl) (fun wx => run_move rfl e6) hS ?_
          refine tkp (i := 1) (d := (some 19)) rfl rfl (by kernel_rfl) hP (wanted_all rfl) (fun wx => run_bin (v := .bool false) rfl (eve (Nat.lt_of_lt_of_eq (by decide : 18 < 119) z.symm)) rfl (hgt wx)) hS ?_
          refine tkp (i := 2) (d := (some 20)) rfl rfl (by kernel_rfl) hP (wanted_all rfl) (fun wx => run_move rfl (eve (Nat.lt_of_lt_of_eq (by decide : 19 < 119) (szq z).symm))) hS ?_
          refine tknv (i := 3) (d := (some 21)) rfl rfl (by kernel_rfl) hP (wanted_no (e := 20) (b := true) rfl rfl (eve (Nat.lt_of_lt_of_eq (by decide : 20 < 119) (szq (szq z)).symm))) hS ?_
          refine tknv (i := 4) (d := (some 22)) rfl rfl (by kernel_rfl) hP (wanted_no (e := 20) (b := true) rfl rfl (evq (by decide) (eve (Nat.lt_of_lt_of_eq (by decide : 20 < 119) (szq (szq z)).symm)))) hS ?_
          refine tknv (i := 5) (d := (some 23)) rfl rfl (by kernel_rfl) hP (wanted_no (e := 20) (b := true) rfl rfl (evq (by decide) (evq (by decide) (eve (Nat.lt_of_lt_of_eq (by decide : 20 < 119) (szq (szq z)).symm))))) hS ?_
          refine tknv (i := 6) (d := (some 24)) rfl rfl (by kernel_rfl) hP (wanted_no (e := 20) (b := true) rfl rfl (evq (by decide) (evq (by decide) (evq (by decide) (eve (Nat.lt_of_lt_of_eq (by decide : 20 < 119) (szq (szq z)).symm)))))) hS ?_
          refine tknv (i := 7) (d := (some 25)) rfl rfl (by kernel_rfl) hP (wanted_no (e := 20) (b := true) rfl rfl (evq (by decide) (evq (by decide) (evq (by decide) (evq (by decide) (eve (Nat.lt_of_lt_of_eq (by decide : 20 < 119) (szq (szq z)).symm))))))) hS ?_
          refine tknv (i := 8) (d := (some 26)) rfl rfl (by kernel_rfl) hP (wanted_no (e := 20) (b := true) rfl rfl (evq (by decide) (evq (by decide) (evq (by decide) (evq (by decide) (evq (by decide) (eve (Nat.lt_of_lt_of_eq (by decide : 20 < 119) (szq (szq z)).symm)))))))) hS ?_
          refine tknv (i := 9) (d := (some 27)) rfl rfl (by kernel_rfl) hP (wanted_no (e := 20) (b := true) rfl rfl (evq (by decide) (evq (by decide) (evq (by decide) (evq (by decide) (evq (by decide) (evq (by decide) (eve (Nat.lt_of_lt_of_eq (by decide : 20 < 119) (szq (szq z)).symm))))))))) hS ?_
          refine tknv (i := 10) (d := (some 28)) rfl rfl (by kernel_rfl) hP (wanted_no (e := 20) (b := true) rfl rfl (evq (by decide) (evq (by decide) (evq (by decide) (evq (by decide) (evq (by decide) (evq (by decide) (evq (by decide) (eve (Nat.lt_of_lt_of_eq (by decide : 20 < 119) (szq (szq z)).symm)))))))))) hS ?_
          refine tknv (i := 11) (d := (some 29)) rfl rfl (by kernel_rfl) hP (wanted_no (e := 20) (b := true) rfl rfl (evq (by decide) (evq (by decide) (evq (by decide) (evq (by decide) (evq (by decide) (evq (by decide) (evq (by decide) (evq (by decide) (eve (Nat.lt_of_lt_of_eq (by decide : 20 < 119) (szq (szq z)).symm))))))))))) hS ?_
          refine tkp (i := 12) (d := (some 30)) rfl rfl (by kernel_rfl) hP (wanted_all rfl) (fun wx => run_pick (v := .bool false) rfl (evq (by decide) (evq (by decide) (evq (by decide) (evq (by decide) (evq (by decide) (evq (by decide) (evq (by decide) (evq (by decide) (evq (by decide) (eve (Nat.lt_of_lt_of_eq (by decide : 20 < 119) (szq (szq z)).symm))))))))))) (eve (Nat.lt_of_lt_of_eq (by decide : 29 < 119) (szq (szq (szq (szq (szq (szq (szq (szq (szq (szq (szq z))))))))))).symm)) rfl rfl) hS ?_
          refine wpAnyV_done (by kernel_rfl) (hQ.out _ _ ?_) _
          rw [hA.out]
          simp only [Act.put, List.setIfInBounds_toArray]
          dsimp only [List.set]
          clear hQ hP hA z hS Q a' e0 e6 e7 
          have hS2' := Lib.hid hs2
          have gR := read_list w2.drew (HE.out.below (hbl.out.trans ((hB2.mono hsz).trans (Below.refl _ _).drew)) (Nat.le_refl _))
          rw [show (⟨#[105, 110, 47, 108, 105, 115, 116]⟩ : ByteArray) = bn from Hbn.out.symm, show (⟨#[105, 110]⟩ : ByteArray) = nm from Hnm.out.symm] at gR
          have x0 : w2.drew.cell? ⟨wr.heap.size, 0, none⟩ = some (.string bn) := show w2.cell? _ = _ by simp [World.cell?, hv]
          go_wp2_with fail
          refine gR.mono ?_
          rintro e w3 ⟨rfl, hb3⟩
          have hs3 : wr.heap.size + 1 ≤ w3.heap.size := Nat.le_trans (Nat.le_of_eq hs2.symm) hb3.size
          have hv3 : w3.heap[wr.heap.size]? = some (.cells #[.string bn, .string bd] 48 (0, 0)) := (hb3.block wr.heap.size (by show _ < w2.heap.size; omega)).trans hv
          have hB3 : Below wr.heap.size wr w3 := hB2.trans (((Below.refl _ _).drew).trans (hb3.mono (show wr.heap.size ≤ w2.heap.size by omega)))
          have hD3 : DzBlk w3 w.heap.size := (hB3.block _ hDw).trans hD.out
          have y1 : (w3.alloc (.cells #[.int .i64 2, .string nm, .int .i64 0, .string ⟨#[]⟩, .int .i64 0] 148)).cell? ⟨wr.heap.size, 1, none⟩ = some (.string bd) := (World.cell?_of_block (a := ⟨wr.heap.size, 1, none⟩) (Go.heap_alloc_old w3 _ hs3)).trans (by simp [World.cell?, hv3])
          have hN4 : (w3.alloc (.cells #[.int .i64 2, .string nm, .int .i64 0, .string ⟨#[]⟩, .int .i64 0] 148)).heap[w3.heap.size]? = some (.cells #[.int .i64 2, .string nm, .int .i64 0, .string ⟨#[]⟩, .int .i64 0] 148 (0, 0)) := heap_alloc_new w3 _
          have hD4 : DzBlk (w3.alloc (.cells #[.int .i64 2, .string nm, .int .i64 0, .string ⟨#[]⟩, .int .i64 0] 148)) w.heap.size := (Go.heap_alloc_old w3 _ (by omega)).trans hD3
          have hB4 : Below wr.heap.size wr (w3.alloc (.cells #[.int .i64 2, .string nm, .int .i64 0, .string ⟨#[]⟩, .int .i64 0] 148)) := hB3.alloc (by omega) _
          have hs4 : (w3.alloc (.cells #[.int .i64 2, .string nm, .int .i64 0, .string ⟨#[]⟩, .int .i64 0] 148)).heap.size = w3.heap.size + 1 := by simp
          have HB4 := Lib.hid hB4
          have HD4 := Lib.hid hD4
          have HN4 := Lib.hid hN4
          have HS4 := Lib.hid hs4
          clear hB3 hb3 hv3 hv hB2 hs2 gR x0 hI d0 d1 hD3 hD4 hN4 hB4 hs4
          go_wp2_with fail
          generalize (w3.alloc (.cells #[.int .i64 2, .string nm, .int .i64 0, .string ⟨#[]⟩, .int .i64 0] 148)) = w4 at *
          generalize w3.heap.size = N at *
          have hs4 := HS4.out
          have hd4 := HD4.out
          unfold DzBlk at hd4
          have z0 : w4.cell? ⟨w.heap.size, 0, none⟩ = some (.slice none 0 0) := by simp [World.cell?, hd4]
          have hzf : w4.frozen? ⟨w.heap.size, 0, none⟩ = false := by simp [World.frozen?, hd4]
          have z1 : w4.cell? ⟨N, 1, none⟩ = some (.string nm) := by simp [World.cell?, HN4.out]
          have z2 := y1
          refine region_until 15 (fun w' : World => w'.cell? ⟨w.heap.size, 0, none⟩ = some (.slice none 0 0) ∧ w'.cell? ⟨N, 1, none⟩ = some (.string nm) ∧ w'.cell? ⟨wr.heap.size, 1, none⟩ = some (.string bd)) 16 rfl (by kernel_rfl) ⟨z0, z1, z2⟩ (fun a' Q hA hQ hP hS => ?_)
          have z : a'.tmps.size = 119 := by rw [hA.out]; rfl
          have e4 : a'.eval (.tmp 4) = Value.pointer (some ⟨w.heap.size, 0, none⟩) := by rw [hA.out]; rfl
          have e7 : a'.eval (.tmp 7) = Value.pointer (some ⟨wr.heap.size, 0, none⟩) := by rw [hA.out]; rfl
          have e8 : a'.eval (.tmp 8) = Value.pointer (some ⟨N, 0, none⟩) := by rw [hA.out]; rfl
          refine tk (i := 0) (d := (some 61)) rfl rfl (by kernel_rfl) hP (fun wx hw => run_move rfl e4) hS ?_
          refine tk (i := 1) (d := (some 62)) rfl rfl (by kernel_rfl) hP (fun wx hw => run_move rfl (evq (by decide) e4)) hS ?_
          refine tk (i := 2) (d := (some 63)) rfl rfl (by kernel_rfl) hP (fun wx hw => run_nil rfl (eve (Nat.lt_of_lt_of_eq (by decide : 62 < 119) (szq z).symm))) hS ?_
          refine tk (i := 3) (d := (some 64)) rfl rfl (by kernel_rfl) hP (fun wx hw => run_field (p' := ⟨w.heap.size, 0, none⟩) rfl (eve (Nat.lt_of_lt_of_eq (by decide : 63 < 119) (szq (szq z)).symm)) (fun w => by kernel_rfl)) hS ?_
          refine tk (i := 4) (d := (some 65)) rfl rfl (by kernel_rfl) hP (fun wx hw => run_load rfl (eve (Nat.lt_of_lt_of_eq (by decide : 64 < 119) (szq (szq (szq z))).symm)) (loadAt_one (fun w => by kernel_rfl) hw.1)) hS ?_
          refine tk (i := 5) (d := (some 66)) rfl rfl (by kernel_rfl) hP (fun wx hw => run_field (p' := ⟨N, 1, none⟩) rfl (evq (by decide) (evq (by decide) (evq (by decide) (evq (by decide) (evq (by decide) e8))))) (fun w => by kernel_rfl)) hS ?_
          refine tk (i := 6) (d := (some 67)) rfl rfl (by kernel_rfl) hP (fun wx hw => run_load rfl (eve (Nat.lt_of_lt_of_eq (by decide : 66 < 119) (szq (szq (szq (szq (szq z))))).symm)) (loadAt_one (fun w => by kernel_rfl) hw.2.1)) hS ?_
          refine tk (i := 7) (d := (some 68)) rfl rfl (by kernel_rfl) hP (fun wx hw => run_field (p' := ⟨wr.heap.size, 1, none⟩) rfl (evq (by decide) (evq (by decide) (evq (by decide) (evq (by decide) (evq (by decide) (evq (by decide) (evq (by decide) e7))))))) (fun w => by kernel_rfl)) hS ?_
          refine tk (i := 8) (d := (some 69)) rfl rfl (by kernel_rfl) hP (fun wx hw => run_load rfl (eve (Nat.lt_of_lt_of_eq (by decide : 68 < 119) (szq (szq (szq (szq (szq (szq (szq z))))))).symm)) (loadAt_one (fun w => by kernel_rfl) hw.2.2)) hS ?_
          refine tk (i := 9) (d := (some 70)) rfl rfl (by kernel_rfl) hP (fun wx hw => run_build2 (v := .agg #[.string nm, .string bd, .slice none 0 0, .int .i64 0, .int .i64 0, .slice none 0 0, .bool false]) rfl (evq (by decide) (evq (by decide) (eve (Nat.lt_of_lt_of_eq (by decide : 67 < 119) (szq (szq (szq (szq (szq (szq z)))))).symm)))) (eve (Nat.lt_of_lt_of_eq (by decide : 69 < 119) (szq (szq (szq (szq (szq (szq (szq (szq z)))))))).symm)) found_make) hS ?_
          have hS1 : (w4.drew.alloc (.cells #[.string nm, .string bd, .slice none 0 0, .int .i64 0, .int .i64 0, .slice none 0 0, .bool false] 155)).cell? ⟨w.heap.size, 0, none⟩ = some (.slice none 0 0) ∧ (w4.drew.alloc (.cells #[.string nm, .string bd, .slice none 0 0, .int .i64 0, .int .i64 0, .slice none 0 0, .bool false] 155)).cell? ⟨N, 1, none⟩ = some (.string nm) ∧ (w4.drew.alloc (.cells #[.string nm, .string bd, .slice none 0 0, .int .i64 0, .int .i64 0, .slice none 0 0, .bool false] 155)).cell? ⟨wr.heap.size, 1, none⟩ = some (.string bd) := ⟨(World.cell?_of_block (a := ⟨w.heap.size, 0, none⟩) (Go.heap_alloc_old w4.drew _ (show w.heap.size < w4.heap.size by omega))).trans z0, (World.cell?_of_block (a := ⟨N, 1, none⟩) (Go.heap_alloc_old w4.drew _ (show N < w4.heap.size by omega))).trans z1, (World.cell?_of_block (a := ⟨wr.heap.size, 1, none⟩) (Go.heap_alloc_old w4.drew _ (show wr.heap.size < w4.heap.size by omega))).trans z2⟩
          refine go_val (i := 10) (d := some 71) (v := .pointer (some ⟨w4.heap.size, 0, none⟩)) (w' := w4.drew.alloc (.cells #[.string nm, .string bd, .slice none 0 0, .int .i64 0, .int .i64 0, .slice none 0 0, .bool false] 155)) (by kernel_rfl) rfl rfl rfl (run_box rfl (eve (Nat.lt_of_lt_of_eq (by decide : 70 < 119) (szq (szq (szq (szq (szq (szq (szq (szq (szq z))))))))).symm)) found_box) (fun _ => hS1) ?_
          clear hS
          have hS := hS1
          have hS2 : ((w4.drew.alloc (.cells #[.string nm, .string bd, .slice none 0 0, .int .i64 0, .int .i64 0, .slice none 0 0, .bool false] 155)).alloc (.cells #[.pointer (some ⟨w4.heap.size, 0, none⟩)] 150)).cell? ⟨w.heap.size, 0, none⟩ = some (.slice none 0 0) ∧ ((w4.drew.alloc (.cells #[.string nm, .string bd, .slice none 0 0, .int .i64 0, .int .i64 0, .slice none 0 0, .bool false] 155)).alloc (.cells #[.pointer (some ⟨w4.heap.size, 0, none⟩)] 150)).cell? ⟨N, 1, none⟩ = some (.string nm) ∧ ((w4.drew.alloc (.cells #[.string nm, .string bd, .slice none 0 0, .int .i64 0, .int .i64 0, .slice none 0 0, .bool false] 155)).alloc (.cells #[.pointer (some ⟨w4.heap.size, 0, none⟩)] 150)).cell? ⟨wr.heap.size, 1, none⟩ = some (.string bd) := ⟨(World.cell?_of_block (a := ⟨w.heap.size, 0, none⟩) (Go.heap_alloc_old _ _ (by simp; omega))).trans hS1.1, (World.cell?_of_block (a := ⟨N, 1, none⟩) (Go.heap_alloc_old _ _ (by simp; omega))).trans hS1.2.1, (World.cell?_of_block (a := ⟨wr.heap.size, 1, none⟩) (Go.heap_alloc_old _ _ (by simp; omega))).trans hS1.2.2⟩
          refine go_build1 (i := 11) (d := (some 72)) (v := .slice (some ⟨(w4.drew.alloc (.cells #[.string nm, .string bd, .slice none 0 0, .int .i64 0, .int .i64 0, .slice none 0 0, .bool false] 155)).heap.size, 0, none⟩) 1 1) (w' := (w4.drew.alloc (.cells #[.string nm, .string bd, .slice none 0 0, .int .i64 0, .int .i64 0, .slice none 0 0, .bool false] 155)).alloc (.cells #[.pointer (some ⟨w4.heap.size, 0, none⟩)] 150)) (by kernel_rfl) rfl rfl rfl rfl (eve (Nat.lt_of_lt_of_eq (by decide : 71 < 119) (szq (szq (szq (szq (szq (szq (szq (szq (szq (szq z)))))))))).symm)) fptr_build (fun _ => hS2) ?_
          refine go_append (i := 12) (d := (some 73)) [.pointer (some ⟨w4.heap.size, 0, none⟩)] (by kernel_rfl) rfl rfl rfl rfl elem_fptr (by decide) (evq (by decide) (evq (by decide) (evq (by decide) (evq (by decide) (evq (by decide) (evq (by decide) (evq (by decide) (eve (Nat.lt_of_lt_of_eq (by decide : 65 < 119) (szq (szq (szq (szq z)))).symm))))))))) (World.ownsRow_nil _ _ _ _) (eve (Nat.lt_of_lt_of_eq (by decide : 72 < 119) (szq (szq (szq (szq (szq (szq (szq (szq (szq (szq (szq z))))))))))).symm)) rfl (World.news_of_block (cs := #[.pointer (some ⟨w4.heap.size, 0, none⟩)]) (t := 150) (fr := (0, 0)) (heap_alloc_new _ _)) (by simp [Value.oneCell']) (by decide) (by unfold maxLen; omega) (by omega) (Nat.zero_le _) ?_
          intro g gc w5 hown5 hgrow5 hat5 hlt5
          have hg5 : g = w4.heap.size + 2 := by
            rcases hat5 with h | h
            · cases h
            · simpa using h
          have far5 : ∀ b', b' < w4.heap.size → w5.heap[b']? = w4.heap[b']? := fun b' hb' => (hgrow5.block b' (by simp; omega) (by simp [Value.ownBlock])).trans ((Go.heap_alloc_old _ _ (by simp; omega)).trans (Go.heap_alloc_old w4.drew _ hb'))
          have r0 : w5.cell? ⟨w.heap.size, 0, none⟩ = some (.slice none 0 0) := (World.cell?_of_block (a := ⟨w.heap.size, 0, none⟩) (far5 w.heap.size (by omega))).trans z0
          have r1 : w5.cell? ⟨N, 1, none⟩ = some (.string nm) := (World.cell?_of_block (a := ⟨N, 1, none⟩) (far5 N (by omega))).trans z1
          have r2 : w5.cell? ⟨wr.heap.size, 1, none⟩ = some (.string bd) := (World.cell?_of_block (a := ⟨wr.heap.size, 1, none⟩) (far5 wr.heap.size (by omega))).trans z2
          have rf : w5.frozen? ⟨w.heap.size, 0, none⟩ = false := (World.frozen?_of_block (a := ⟨w.heap.size, 0, none⟩) (far5 w.heap.size (by omega))).trans hzf
          refine ⟨fun _ => ⟨r0, r1, r2⟩, ?_⟩
          clear hS
          have hS := And.intro r0 (And.intro r1 r2)
          refine go_val (i := 13) (d := (some 74)) (by kernel_rfl) rfl rfl rfl (run_nil rfl (evq (by decide) (evq (by decide) (evq (by decide) (evq (by decide) (evq (by decide) (evq (by decide) (evq (by decide) (evq (by decide) (evq (by decide) (evq (by decide) (evq (by decide) (evq (by decide) (eve (Nat.lt_of_lt_of_eq (by decide : 61 < 119) z.symm))))))))))))))) (fun _ => hS) ?_
          refine go_val (i := 14) (d := (some 75)) (by kernel_rfl) rfl rfl rfl (run_field (p' := ⟨w.heap.size, 0, none⟩) rfl (eve (Nat.lt_of_lt_of_eq (by decide : 74 < 119) (szq (szq (szq (szq (szq (szq (szq (szq (szq (szq (szq (szq (szq z))))))))))))).symm)) (fun w => by kernel_rfl)) (fun _ => hS) ?_
          refine go_put (i := 15) (by kernel_rfl) rfl rfl rfl rfl (eve (Nat.lt_of_lt_of_eq (by decide : 75 < 119) (szq (szq (szq (szq (szq (szq (szq (szq (szq (szq (szq (szq (szq (szq z)))))))))))))).symm)) (evq (by decide) (evq (by decide) (eve (Nat.lt_of_lt_of_eq (by decide : 73 < 119) (szq (szq (szq (szq (szq (szq (szq (szq (szq (szq (szq (szq z)))))))))))).symm)))) (fun w h1 h2 => by simp [Instr.storeAt, go_sem, h1, h2]) r0 rf (fun h => absurd rfl h) ?_
          refine wpAnyU_done (by kernel_rfl) (hQ.out _ _ ?_) _
          rw [hA.out]
          simp only [Act.put, List.setIfInBounds_toArray]
          dsimp only [List.set]
          clear hQ hP hA z hS Q a' e4 e7 e8 hS1 hS2 z0 z1 z2
          simp only [Nat.zero_add] at hown5 ⊢
          have hF5 : w5.heap[w4.heap.size]? = some (.cells #[.string nm, .string bd, .slice none 0 0, .int .i64 0, .int .i64 0, .slice none 0 0, .bool false] 155 (0, 0)) := (hgrow5.block w4.heap.size (by simp; omega) (by simp [Value.ownBlock])).trans ((Go.heap_alloc_old _ _ (by simp)).trans (heap_alloc_new w4.drew _))
          have hg0 : w5.cell? ⟨g, 0, none⟩ = some (.pointer (some ⟨w4.heap.size, 0, none⟩)) := own_cell hown5 (by rfl)
          have hs5 := hgrow5.size
          simp at hs5
          have hR6 : Hid (DsBlk (w5.setCell ⟨w.heap.size, 0, none⟩ (.slice (some ⟨g, 0, none⟩) 1 gc)) w.heap.size g gc ∧ FrBlk (w5.setCell ⟨w.heap.size, 0, none⟩ (.slice (some ⟨g, 0, none⟩) 1 gc)) g w4.heap.size ∧ FdBlk (w5.setCell ⟨w.heap.size, 0, none⟩ (.slice (some ⟨g, 0, none⟩) 1 gc)) w4.heap.size Mb.inN ⟨L.toArray⟩ (.slice none 0 0) 0 0 (.slice none 0 0) false ∧ w.heap.size < g ∧ w.heap.size < w4.heap.size ∧ g ≠ w4.heap.size ∧ (Value.slice oa k oc).ownBlock ≠ some w4.heap.size) := by
            refine ⟨?_, ⟨(World.cell?_of_block (a := ⟨g, 0, none⟩) (Below.heap_setCell _ _ _ _ (by show g ≠ w.heap.size; omega))).trans hg0, by simpa using hlt5⟩, ?_, by omega, by omega, by omega, fun e => by have := (HRaw.out.lt _ e).2; omega⟩
            · have h2 := heap_set_in (o := 0) (.slice (some ⟨g, 0, none⟩) 1 gc) ((far5 w.heap.size (by omega)).trans hd4)
              unfold DsBlk
              simpa using h2
            · unfold FdBlk
              rw [← Hnm.out, ← Hbd.out]
              exact (Below.heap_setCell _ _ _ _ (by show w4.heap.size ≠ w.heap.size; omega)).trans hF5
          have hB6 : Hid (Below w.heap.size w (w5.setCell ⟨w.heap.size, 0, none⟩ (.slice (some ⟨g, 0, none⟩) 1 gc))) := by
            have h1 : Below wr.heap.size wr w5 := (((HB4.out.trans ((Below.refl _ _).drew)).alloc (by show wr.heap.size ≤ w4.heap.size; omega) _).alloc (by simp; omega) _).grown hgrow5 (by simp; omega) (fun b' hb' => by cases hb')
            exact (hbl.out.trans (h1.mono hsz)).setCell (Nat.le_refl _) _
          have hO6 : Hid (OwnL (w5.setCell ⟨w.heap.size, 0, none⟩ (.slice (some ⟨g, 0, none⟩) 1 gc)) (w.heap.size + 1) (.slice oa k oc) (Mb.losFrom 1 ts)) := by
            have e : (Mb.losFrom 1 ts).take k = Mb.losFrom 1 ts := List.take_of_length_le (by rw [Mb.losFrom_len]; omega)
            unfold Hid
            rw [← e]
            refine owns_block (w := wr) (fun b' hb' => ?_) hO.out
            have h1 := HRaw.out.lt b' hb'
            exact (Below.heap_setCell _ _ _ _ (by show b' ≠ w.heap.size; omega)).trans ((far5 b' (by omega)).trans (HB4.out.block b' h1.2))
          have HG5 := Lib.hid hg5
          have HS5 := Lib.hid hs5
          clear hown5 hgrow5 hat5 far5 hF5 hg0 r0 r1 r2 rf hd4 hzf y1 hg5 hs5 hs4 hlt5
          go_wp2_with fail
          refine ⟨Or.inr ⟨g, gc, w4.heap.size, ?_, hR6, hO6, hB6⟩, by simp [RowKit.intOf]; omega⟩
          have : k = ts.length := by omega
          subst this
          simp
        · have hgt : ∀ w, (do eqGuard .gtr 3 (.tmp 18) (.const (.int .i64 0)) (.int .i64 (k : Int)) (.int .i64 0); binOp .gtr 3 (.int .i64 (k : Int)) (.int .i64 0) : Sem Value).run Tryz.prog w = .ok (.bool true) w := fun w => by
            have h0 : (0 : Int) < (k : Int) := by omega
            go_simp
          obtain ⟨pn, Hpn, pc⟩ := hprev hk0
          have hkm : k - 1 < ts.length + 1 := by omega
          have hwr : IntKind.i64.wrap ((k : Int) - 1) = ((k - 1 : Nat) : Int) := by rw [IntWalk.i64_in _ (by omega)]; omega
          have hsub : ∀ w, (do eqGuard .sub 3 (.tmp 24) (.const (.int .i64 1)) (.int .i64 (k : Int)) (.int .i64 1); binOp .sub 3 (.int .i64 (k : Int)) (.int .i64 1) : Sem Value).run Tryz.prog w = .ok (.int .i64 ((k - 1 : Nat) : Int)) w := fun w => by go_simp
          have hne : (bn.toList == pn.toList) = false := by rw [ByteArray.toList_eq, ByteArray.toList_eq, Hbn'.out, Hpn.out]; exact HX.out
          have heq : ∀ w, (do eqGuard .eql 9 (.tmp 22) (.tmp 28) (.string bn) (.string pn); binOp .eql 9 (.string bn) (.string pn) : Sem Value).run Tryz.prog w = .ok (.bool false) w := fun w => by go_simp
          have HK0 := Lib.hid hk0
          have hkk := Lib.hid hkm
          have hp2 : (wr.alloc (.cells #[.string bn, .string bd] 48)).cell? ⟨b, off + (k - 1) * 2, none⟩ = some (.string pn) := (World.cell?_of_block (a := ⟨b, off + (k - 1) * 2, none⟩) (Go.heap_alloc_old wr _ (show b < wr.heap.size by omega))).trans pc
          have Hp2 := Lib.hid hp2
          have hkm' := Lib.hid hkm
          clear hk0 hprev hwr hne hp2 pc hkm
          go_wp2_with fail
          have hv : (wr.alloc (.cells #[.string bn, .string bd] 48)).heap[wr.heap.size]? = some (.cells #[.string bn, .string bd] 48 (0, 0)) := heap_alloc_new wr _
          have hB2 : Below wr.heap.size wr (wr.alloc (.cells #[.string bn, .string bd] 48)) := (Below.refl _ _).alloc (Nat.le_refl _) _
          have hs2 : (wr.alloc (.cells #[.string bn, .string bd] 48)).heap.size = wr.heap.size + 1 := by simp
          generalize (wr.alloc (.cells #[.string bn, .string bd] 48)) = w2 at *
          have hkm := hkm'.out
          have p0 := Hp2.out
          have v0 : w2.cell? ⟨wr.heap.size, 0, none⟩ = some (.string bn) := by simp [World.cell?, hv]
          refine region_late [] (fun w' : World => w'.cell? ⟨wr.heap.size, 0, none⟩ = some (.string bn) ∧ w'.cell? ⟨b, off + (k - 1) * 2, none⟩ = some (.string pn)) 13 rfl (by kernel_rfl) ⟨v0, p0⟩ (fun a' Q hA hQ hP hS => ?_)
          have z : a'.tmps.size = 119 := by rw [hA.out]; rfl
          have e0 : a'.eval (.tmp 0) = Value.slice (some ⟨b, off, none⟩) (ts.length + 1) cap := by rw [hA.out]; rfl
          have e6 : a'.eval (.tmp 6) = Value.int .i64 (k : Int) := by rw [hA.out]; rfl
          have e7 : a'.eval (.tmp 7) = Value.pointer (some ⟨wr.heap.size, 0, none⟩) := by rw [hA.out]; rfl
          refine tkp (i := 0) (d := (some 18)) rfl rfl (by kernel_rfl) hP (wanted_all rfl) (fun wx => run_move rfl e6) hS ?_
          refine tkp (i := 1) (d := (some 19)) rfl rfl (by kernel_rfl) hP (wanted_all rfl) (fun wx => run_bin (v := .bool true) rfl (eve (Nat.lt_of_lt_of_eq (by decide : 18 < 119) z.symm)) rfl (hgt wx)) hS ?_
          refine tkp (i := 2) (d := (some 20)) rfl rfl (by kernel_rfl) hP (wanted_all rfl) (fun wx => run_move rfl (eve (Nat.lt_of_lt_of_eq (by decide : 19 < 119) (szq z).symm))) hS ?_
          refine tkp (i := 3) (d := (some 21)) rfl rfl (by kernel_rfl) hP (wanted_yes (e := 20) (b := true) rfl rfl (eve (Nat.lt_of_lt_of_eq (by decide : 20 < 119) (szq (szq z)).symm))) (fun wx => run_field (p' := ⟨wr.heap.size, 0, none⟩) rfl (evq (by decide) (evq (by decide) (evq (by decide) e7))) (fun w => by kernel_rfl)) hS ?_
          refine tkv (i := 4) (d := (some 22)) rfl rfl (by kernel_rfl) hP (wanted_yes (e := 20) (b := true) rfl rfl (evq (by decide) (eve (Nat.lt_of_lt_of_eq (by decide : 20 < 119) (szq (szq z)).symm)))) (fun wx hw => run_load rfl (eve (Nat.lt_of_lt_of_eq (by decide : 21 < 119) (szq (szq (szq z))).symm)) (loadAt_one (fun w => by kernel_rfl) hw.1)) hS ?_
          refine tkp (i := 5) (d := (some 23)) rfl rfl (by kernel_rfl) hP (wanted_yes (e := 20) (b := true) rfl rfl (evq (by decide) (evq (by decide) (eve (Nat.lt_of_lt_of_eq (by decide : 20 < 119) (szq (szq z)).symm))))) (fun wx => run_move rfl (evq (by decide) (evq (by decide) (evq (by decide) (evq (by decide) (evq (by decide) e0)))))) hS ?_
          refine tkp (i := 6) (d := (some 24)) rfl rfl (by kernel_rfl) hP (wanted_yes (e := 20) (b := true) rfl rfl (evq (by decide) (evq (by decide) (evq (by decide) (eve (Nat.lt_of_lt_of_eq (by decide : 20 < 119) (szq (szq z)).symm)))))) (fun wx => run_move rfl (evq (by decide) (evq (by decide) (evq (by decide) (evq (by decide) (evq (by decide) (evq (by decide) e6))))))) hS ?_
          refine tkp (i := 7) (d := (some 25)) rfl rfl (by kernel_rfl) hP (wanted_yes (e := 20) (b := true) rfl rfl (evq (by decide) (evq (by decide) (evq (by decide) (evq (by decide) (eve (Nat.lt_of_lt_of_eq (by decide : 20 < 119) (szq (szq z)).symm))))))) (fun wx => run_bin (v := .int .i64 ((k - 1 : Nat) : Int)) rfl (eve (Nat.lt_of_lt_of_eq (by decide : 24 < 119) (szq (szq (szq (szq (szq (szq z)))))).symm)) rfl (hsub wx)) hS ?_
          refine tkp (i := 8) (d := (some 26)) rfl rfl (by kernel_rfl) hP (wanted_yes (e := 20) (b := true) rfl rfl (evq (by decide) (evq (by decide) (evq (by decide) (evq (by decide) (evq (by decide) (eve (Nat.lt_of_lt_of_eq (by decide : 20 < 119) (szq (szq z)).symm)))))))) (fun wx => run_index (v := .pointer (some ⟨b, off + (k - 1) * 2, none⟩)) rfl (evq (by decide) (evq (by decide) (eve (Nat.lt_of_lt_of_eq (by decide : 23 < 119) (szq (szq (szq (szq (szq z))))).symm)))) (eve (Nat.lt_of_lt_of_eq (by decide : 25 < 119) (szq (szq (szq (szq (szq (szq (szq z))))))).symm)) (file_index hkm)) hS ?_
          refine tkp (i := 9) (d := (some 27)) rfl rfl (by kernel_rfl) hP (wanted_yes (e := 20) (b := true) rfl rfl (evq (by decide) (evq (by decide) (evq (by decide) (evq (by decide) (evq (by decide) (evq (by decide) (eve (Nat.lt_of_lt_of_eq (by decide : 20 < 119) (szq (szq z)).symm))))))))) (fun wx => run_field (p' := ⟨b, off + (k - 1) * 2, none⟩) rfl (eve (Nat.lt_of_lt_of_eq (by decide : 26 < 119) (szq (szq (szq (szq (szq (szq (szq (szq z)))))))).symm)) (fun w => by kernel_rfl)) hS ?_
          refine tkv (i := 10) (d := (some 28)) rfl rfl (by kernel_rfl) hP (wanted_yes (e := 20) (b := true) rfl rfl (evq (by decide) (evq (by decide) (evq (by decide) (evq (by decide) (evq (by decide) (evq (by decide) (evq (by decide) (eve (Nat.lt_of_lt_of_eq (by decide : 20 < 119) (szq (szq z)).symm)))))))))) (fun wx hw => run_load rfl (eve (Nat.lt_of_lt_of_eq (by decide : 27 < 119) (szq (szq (szq (szq (szq (szq (szq (szq (szq z))))))))).symm)) (loadAt_one (fun w => by kernel_rfl) hw.2)) hS ?_
          refine tkp (i := 11) (d := (some 29)) rfl rfl (by kernel_rfl) hP (wanted_yes (e := 20) (b := true) rfl rfl (evq (by decide) (evq (by decide) (evq (by decide) (evq (by decide) (evq (by decide) (evq (by decide) (evq (by decide) (evq (by decide) (eve (Nat.lt_of_lt_of_eq (by decide : 20 < 119) (szq (szq z)).symm))))))))))) (fun wx => run_bin (v := .bool false) rfl (evq (by decide) (evq (by decide) (evq (by decide) (evq (by decide) (evq (by decide) (evq (by decide) (eve (Nat.lt_of_lt_of_eq (by decide : 22 < 119) (szq (szq (szq (szq z)))).symm)))))))) (eve (Nat.lt_of_lt_of_eq (by decide : 28 < 119) (szq (szq (szq (szq (szq (szq (szq (szq (szq (szq z)))))))))).symm)) (heq wx)) hS ?_
          refine tkp (i := 12) (d := (some 30)) rfl rfl (by kernel_rfl) hP (wanted_all rfl) (fun wx => run_pick (v := .bool false) rfl (evq (by decide) (evq (by decide) (evq (by decide) (evq (by decide) (evq (by decide) (evq (by decide) (evq (by decide) (evq (by decide) (evq (by decide) (eve (Nat.lt_of_lt_of_eq (by decide : 20 < 119) (szq (szq z)).symm))))))))))) (eve (Nat.lt_of_lt_of_eq (by decide : 29 < 119) (szq (szq (szq (szq (szq (szq (szq (szq (szq (szq (szq z))))))))))).symm)) rfl rfl) hS ?_
          refine wpAnyV_done (by kernel_rfl) (hQ.out _ _ ?_) _
          rw [hA.out]
          simp only [Act.put, List.setIfInBounds_toArray]
          dsimp only [List.set]
          clear hQ hP hA z hS Q a' e0 e6 e7 
          have hS2' := Lib.hid hs2
          have gR := read_list w2.drew (HE.out.below (hbl.out.trans ((hB2.mono hsz).trans (Below.refl _ _).drew)) (Nat.le_refl _))
          rw [show (⟨#[105, 110, 47, 108, 105, 115, 116]⟩ : ByteArray) = bn from Hbn.out.symm, show (⟨#[105, 110]⟩ : ByteArray) = nm from Hnm.out.symm] at gR
          have x0 : w2.drew.cell? ⟨wr.heap.size, 0, none⟩ = some (.string bn) := show w2.cell? _ = _ by simp [World.cell?, hv]
          go_wp2_with fail
          refine gR.mono ?_
          rintro e w3 ⟨rfl, hb3⟩
          have hs3 : wr.heap.size + 1 ≤ w3.heap.size := Nat.le_trans (Nat.le_of_eq hs2.symm) hb3.size
          have hv3 : w3.heap[wr.heap.size]? = some (.cells #[.string bn, .string bd] 48 (0, 0)) := (hb3.block wr.heap.size (by show _ < w2.heap.size; omega)).trans hv
          have hB3 : Below wr.heap.size wr w3 := hB2.trans (((Below.refl _ _).drew).trans (hb3.mono (show wr.heap.size ≤ w2.heap.size by omega)))
          have hD3 : DzBlk w3 w.heap.size := (hB3.block _ hDw).trans hD.out
          have y1 : (w3.alloc (.cells #[.int .i64 2, .string nm, .int .i64 0, .string ⟨#[]⟩, .int .i64 0] 148)).cell? ⟨wr.heap.size, 1, none⟩ = some (.string bd) := (World.cell?_of_block (a := ⟨wr.heap.size, 1, none⟩) (Go.heap_alloc_old w3 _ hs3)).trans (by simp [World.cell?, hv3])
          have hN4 : (w3.alloc (.cells #[.int .i64 2, .string nm, .int .i64 0, .string ⟨#[]⟩, .int .i64 0] 148)).heap[w3.heap.size]? = some (.cells #[.int .i64 2, .string nm, .int .i64 0, .string ⟨#[]⟩, .int .i64 0] 148 (0, 0)) := heap_alloc_new w3 _
          have hD4 : DzBlk (w3.alloc (.cells #[.int .i64 2, .string nm, .int .i64 0, .string ⟨#[]⟩, .int .i64 0] 148)) w.heap.size := (Go.heap_alloc_old w3 _ (by omega)).trans hD3
          have hB4 : Below wr.heap.size wr (w3.alloc (.cells #[.int .i64 2, .string nm, .int .i64 0, .string ⟨#[]⟩, .int .i64 0] 148)) := hB3.alloc (by omega) _
          have hs4 : (w3.alloc (.cells #[.int .i64 2, .string nm, .int .i64 0, .string ⟨#[]⟩, .int .i64 0] 148)).heap.size = w3.heap.size + 1 := by simp
          have HB4 := Lib.hid hB4
          have HD4 := Lib.hid hD4
          have HN4 := Lib.hid hN4
          have HS4 := Lib.hid hs4
          clear hB3 hb3 hv3 hv hB2 hs2 gR x0 hI d0 d1 hD3 hD4 hN4 hB4 hs4
          go_wp2_with fail
          generalize (w3.alloc (.cells #[.int .i64 2, .string nm, .int .i64 0, .string ⟨#[]⟩, .int .i64 0] 148)) = w4 at *
          generalize w3.heap.size = N at *
          have hs4 := HS4.out
          have hd4 := HD4.out
          unfold DzBlk at hd4
          have z0 : w4.cell? ⟨w.heap.size, 0, none⟩ = some (.slice none 0 0) := by simp [World.cell?, hd4]
          have hzf : w4.frozen? ⟨w.heap.size, 0, none⟩ = false := by simp [World.frozen?, hd4]
          have z1 : w4.cell? ⟨N, 1, none⟩ = some (.string nm) := by simp [World.cell?, HN4.out]
          have z2 := y1
          refine region_until 15 (fun w' : World => w'.cell? ⟨w.heap.size, 0, none⟩ = some (.slice none 0 0) ∧ w'.cell? ⟨N, 1, none⟩ = some (.string nm) ∧ w'.cell? ⟨wr.heap.size, 1, none⟩ = some (.string bd)) 16 rfl (by kernel_rfl) ⟨z0, z1, z2⟩ (fun a' Q hA hQ hP hS => ?_)
          have z : a'.tmps.size = 119 := by rw [hA.out]; rfl
          have e4 : a'.eval (.tmp 4) = Value.pointer (some ⟨w.heap.size, 0, none⟩) := by rw [hA.out]; rfl
          have e7 : a'.eval (.tmp 7) = Value.pointer (some ⟨wr.heap.size, 0, none⟩) := by rw [hA.out]; rfl
          have e8 : a'.eval (.tmp 8) = Value.pointer (some ⟨N, 0, none⟩) := by rw [hA.out]; rfl
          refine tk (i := 0) (d := (some 61)) rfl rfl (by kernel_rfl) hP (fun wx hw => run_move rfl e4) hS ?_
          refine tk (i := 1) (d := (some 62)) rfl rfl (by kernel_rfl) hP (fun wx hw => run_move rfl (evq (by decide) e4)) hS ?_
          refine tk (i := 2) (d := (some 63)) rfl rfl (by kernel_rfl) hP (fun wx hw => run_nil rfl (eve (Nat.lt_of_lt_of_eq (by decide : 62 < 119) (szq z).symm))) hS ?_
          refine tk (i := 3) (d := (some 64)) rfl rfl (by kernel_rfl) hP (fun wx hw => run_field (p' := ⟨w.heap.size, 0, none⟩) rfl (eve (Nat.lt_of_lt_of_eq (by decide : 63 < 119) (szq (szq z)).symm)) (fun w => by kernel_rfl)) hS ?_
          refine tk (i := 4) (d := (some 65)) rfl rfl (by kernel_rfl) hP (fun wx hw => run_load rfl (eve (Nat.lt_of_lt_of_eq (by decide : 64 < 119) (szq (szq (szq z))).symm)) (loadAt_one (fun w => by kernel_rfl) hw.1)) hS ?_
          refine tk (i := 5) (d := (some 66)) rfl rfl (by kernel_rfl) hP (fun wx hw => run_field (p' := ⟨N, 1, none⟩) rfl (evq (by decide) (evq (by decide) (evq (by decide) (evq (by decide) (evq (by decide) e8))))) (fun w => by kernel_rfl)) hS ?_
          refine tk (i := 6) (d := (some 67)) rfl rfl (by kernel_rfl) hP (fun wx hw => run_load rfl (eve (Nat.lt_of_lt_of_eq (by decide : 66 < 119) (szq (szq (szq (szq (szq z))))).symm)) (loadAt_one (fun w => by kernel_rfl) hw.2.1)) hS ?_
          refine tk (i := 7) (d := (some 68)) rfl rfl (by kernel_rfl) hP (fun wx hw => run_field (p' := ⟨wr.heap.size, 1, none⟩) rfl (evq (by decide) (evq (by decide) (evq (by decide) (evq (by decide) (evq (by decide) (evq (by decide) (evq (by decide) e7))))))) (fun w => by kernel_rfl)) hS ?_
          refine tk (i := 8) (d := (some 69)) rfl rfl (by kernel_rfl) hP (fun wx hw => run_load rfl (eve (Nat.lt_of_lt_of_eq (by decide : 68 < 119) (szq (szq (szq (szq (szq (szq (szq z))))))).symm)) (loadAt_one (fun w => by kernel_rfl) hw.2.2)) hS ?_
          refine tk (i := 9) (d := (some 70)) rfl rfl (by kernel_rfl) hP (fun wx hw => run_build2 (v := .agg #[.string nm, .string bd, .slice none 0 0, .int .i64 0, .int .i64 0, .slice none 0 0, .bool false]) rfl (evq (by decide) (evq (by decide) (eve (Nat.lt_of_lt_of_eq (by decide : 67 < 119) (szq (szq (szq (szq (szq (szq z)))))).symm)))) (eve (Nat.lt_of_lt_of_eq (by decide : 69 < 119) (szq (szq (szq (szq (szq (szq (szq (szq z)))))))).symm)) found_make) hS ?_
          have hS1 : (w4.drew.alloc (.cells #[.string nm, .string bd, .slice none 0 0, .int .i64 0, .int .i64 0, .slice none 0 0, .bool false] 155)).cell? ⟨w.heap.size, 0, none⟩ = some (.slice none 0 0) ∧ (w4.drew.alloc (.cells #[.string nm, .string bd, .slice none 0 0, .int .i64 0, .int .i64 0, .slice none 0 0, .bool false] 155)).cell? ⟨N, 1, none⟩ = some (.string nm) ∧ (w4.drew.alloc (.cells #[.string nm, .string bd, .slice none 0 0, .int .i64 0, .int .i64 0, .slice none 0 0, .bool false] 155)).cell? ⟨wr.heap.size, 1, none⟩ = some (.string bd) := ⟨(World.cell?_of_block (a := ⟨w.heap.size, 0, none⟩) (Go.heap_alloc_old w4.drew _ (show w.heap.size < w4.heap.size by omega))).trans z0, (World.cell?_of_block (a := ⟨N, 1, none⟩) (Go.heap_alloc_old w4.drew _ (show N < w4.heap.size by omega))).trans z1, (World.cell?_of_block (a := ⟨wr.heap.size, 1, none⟩) (Go.heap_alloc_old w4.drew _ (show wr.heap.size < w4.heap.size by omega))).trans z2⟩
          refine go_val (i := 10) (d := some 71) (v := .pointer (some ⟨w4.heap.size, 0, none⟩)) (w' := w4.drew.alloc (.cells #[.string nm, .string bd, .slice none 0 0, .int .i64 0, .int .i64 0, .slice none 0 0, .bool false] 155)) (by kernel_rfl) rfl rfl rfl (run_box rfl (eve (Nat.lt_of_lt_of_eq (by decide : 70 < 119) (szq (szq (szq (szq (szq (szq (szq (szq (szq z))))))))).symm)) found_box) (fun _ => hS1) ?_
          clear hS
          have hS := hS1
          have hS2 : ((w4.drew.alloc (.cells #[.string nm, .string bd, .slice none 0 0, .int .i64 0, .int .i64 0, .slice none 0 0, .bool false] 155)).alloc (.cells #[.pointer (some ⟨w4.heap.size, 0, none⟩)] 150)).cell? ⟨w.heap.size, 0, none⟩ = some (.slice none 0 0) ∧ ((w4.drew.alloc (.cells #[.string nm, .string bd, .slice none 0 0, .int .i64 0, .int .i64 0, .slice none 0 0, .bool false] 155)).alloc (.cells #[.pointer (some ⟨w4.heap.size, 0, none⟩)] 150)).cell? ⟨N, 1, none⟩ = some (.string nm) ∧ ((w4.drew.alloc (.cells #[.string nm, .string bd, .slice none 0 0, .int .i64 0, .int .i64 0, .slice none 0 0, .bool false] 155)).alloc (.cells #[.pointer (some ⟨w4.heap.size, 0, none⟩)] 150)).cell? ⟨wr.heap.size, 1, none⟩ = some (.string bd) := ⟨(World.cell?_of_block (a := ⟨w.heap.size, 0, none⟩) (Go.heap_alloc_old _ _ (by simp; omega))).trans hS1.1, (World.cell?_of_block (a := ⟨N, 1, none⟩) (Go.heap_alloc_old _ _ (by simp; omega))).trans hS1.2.1, (World.cell?_of_block (a := ⟨wr.heap.size, 1, none⟩) (Go.heap_alloc_old _ _ (by simp; omega))).trans hS1.2.2⟩
          refine go_build1 (i := 11) (d := (some 72)) (v := .slice (some ⟨(w4.drew.alloc (.cells #[.string nm, .string bd, .slice none 0 0, .int .i64 0, .int .i64 0, .slice none 0 0, .bool false] 155)).heap.size, 0, none⟩) 1 1) (w' := (w4.drew.alloc (.cells #[.string nm, .string bd, .slice none 0 0, .int .i64 0, .int .i64 0, .slice none 0 0, .bool false] 155)).alloc (.cells #[.pointer (some ⟨w4.heap.size, 0, none⟩)] 150)) (by kernel_rfl) rfl rfl rfl rfl (eve (Nat.lt_of_lt_of_eq (by decide : 71 < 119) (szq (szq (szq (szq (szq (szq (szq (szq (szq (szq z)))))))))).symm)) fptr_build (fun _ => hS2) ?_
          refine go_append (i := 12) (d := (some 73)) [.pointer (some ⟨w4.heap.size, 0, none⟩)] (by kernel_rfl) rfl rfl rfl rfl elem_fptr (by decide) (evq (by decide) (evq (by decide) (evq (by decide) (evq (by decide) (evq (by decide) (evq (by decide) (evq (by decide) (eve (Nat.lt_of_lt_of_eq (by decide : 65 < 119) (szq (szq (szq (szq z)))).symm))))))))) (World.ownsRow_nil _ _ _ _) (eve (Nat.lt_of_lt_of_eq (by decide : 72 < 119) (szq (szq (szq (szq (szq (szq (szq (szq (szq (szq (szq z))))))))))).symm)) rfl (World.news_of_block (cs := #[.pointer (some ⟨w4.heap.size, 0, none⟩)]) (t := 150) (fr := (0, 0)) (heap_alloc_new _ _)) (by simp [Value.oneCell']) (by decide) (by unfold maxLen; omega) (by omega) (Nat.zero_le _) ?_
          intro g gc w5 hown5 hgrow5 hat5 hlt5
          have hg5 : g = w4.heap.size + 2 := by
            rcases hat5 with h | h
            · cases h
            · simpa using h
          have far5 : ∀ b', b' < w4.heap.size → w5.heap[b']? = w4.heap[b']? := fun b' hb' => (hgrow5.block b' (by simp; omega) (by simp [Value.ownBlock])).trans ((Go.heap_alloc_old _ _ (by simp; omega)).trans (Go.heap_alloc_old w4.drew _ hb'))
          have r0 : w5.cell? ⟨w.heap.size, 0, none⟩ = some (.slice none 0 0) := (World.cell?_of_block (a := ⟨w.heap.size, 0, none⟩) (far5 w.heap.size (by omega))).trans z0
          have r1 : w5.cell? ⟨N, 1, none⟩ = some (.string nm) := (World.cell?_of_block (a := ⟨N, 1, none⟩) (far5 N (by omega))).trans z1
          have r2 : w5.cell? ⟨wr.heap.size, 1, none⟩ = some (.string bd) := (World.cell?_of_block (a := ⟨wr.heap.size, 1, none⟩) (far5 wr.heap.size (by omega))).trans z2
          have rf : w5.frozen? ⟨w.heap.size, 0, none⟩ = false := (World.frozen?_of_block (a := ⟨w.heap.size, 0, none⟩) (far5 w.heap.size (by omega))).trans hzf
          refine ⟨fun _ => ⟨r0, r1, r2⟩, ?_⟩
          clear hS
          have hS := And.intro r0 (And.intro r1 r2)
          refine go_val (i := 13) (d := (some 74)) (by kernel_rfl) rfl rfl rfl (run_nil rfl (evq (by decide) (evq (by decide) (evq (by decide) (evq (by decide) (evq (by decide) (evq (by decide) (evq (by decide) (evq (by decide) (evq (by decide) (evq (by decide) (evq (by decide) (evq (by decide) (eve (Nat.lt_of_lt_of_eq (by decide : 61 < 119) z.symm))))))))))))))) (fun _ => hS) ?_
          refine go_val (i := 14) (d := (some 75)) (by kernel_rfl) rfl rfl rfl (run_field (p' := ⟨w.heap.size, 0, none⟩) rfl (eve (Nat.lt_of_lt_of_eq (by decide : 74 < 119) (szq (szq (szq (szq (szq (szq (szq (szq (szq (szq (szq (szq (szq z))))))))))))).symm)) (fun w => by kernel_rfl)) (fun _ => hS) ?_
          refine go_put (i := 15) (by kernel_rfl) rfl rfl rfl rfl (eve (Nat.lt_of_lt_of_eq (by decide : 75 < 119) (szq (szq (szq (szq (szq (szq (szq (szq (szq (szq (szq (szq (szq (szq z)))))))))))))).symm)) (evq (by decide) (evq (by decide) (eve (Nat.lt_of_lt_of_eq (by decide : 73 < 119) (szq (szq (szq (szq (szq (szq (szq (szq (szq (szq (szq (szq z)))))))))))).symm)))) (fun w h1 h2 => by simp [Instr.storeAt, go_sem, h1, h2]) r0 rf (fun h => absurd rfl h) ?_
          refine wpAnyU_done (by kernel_rfl) (hQ.out _ _ ?_) _
          rw [hA.out]
          simp only [Act.put, List.setIfInBounds_toArray]
          dsimp only [List.set]
          clear hQ hP hA z hS Q a' e4 e7 e8 hS1 hS2 z0 z1 z2
          simp only [Nat.zero_add] at hown5 ⊢
          have hF5 : w5.heap[w4.heap.size]? = some (.cells #[.string nm, .string bd, .slice none 0 0, .int .i64 0, .int .i64 0, .slice none 0 0, .bool false] 155 (0, 0)) := (hgrow5.block w4.heap.size (by simp; omega) (by simp [Value.ownBlock])).trans ((Go.heap_alloc_old _ _ (by simp)).trans (heap_alloc_new w4.drew _))
          have hg0 : w5.cell? ⟨g, 0, none⟩ = some (.pointer (some ⟨w4.heap.size, 0, none⟩)) := own_cell hown5 (by rfl)
          have hs5 := hgrow5.size
          simp at hs5
          have hR6 : Hid (DsBlk (w5.setCell ⟨w.heap.size, 0, none⟩ (.slice (some ⟨g, 0, none⟩) 1 gc)) w.heap.size g gc ∧ FrBlk (w5.setCell ⟨w.heap.size, 0, none⟩ (.slice (some ⟨g, 0, none⟩) 1 gc)) g w4.heap.size ∧ FdBlk (w5.setCell ⟨w.heap.size, 0, none⟩ (.slice (some ⟨g, 0, none⟩) 1 gc)) w4.heap.size Mb.inN ⟨L.toArray⟩ (.slice none 0 0) 0 0 (.slice none 0 0) false ∧ w.heap.size < g ∧ w.heap.size < w4.heap.size ∧ g ≠ w4.heap.size ∧ (Value.slice oa k oc).ownBlock ≠ some w4.heap.size) := by
            refine ⟨?_, ⟨(World.cell?_of_block (a := ⟨g, 0, none⟩) (Below.heap_setCell _ _ _ _ (by show g ≠ w.heap.size; omega))).trans hg0, by simpa using hlt5⟩, ?_, by omega, by omega, by omega, fun e => by have := (HRaw.out.lt _ e).2; omega⟩
            · have h2 := heap_set_in (o := 0) (.slice (some ⟨g, 0, none⟩) 1 gc) ((far5 w.heap.size (by omega)).trans hd4)
              unfold DsBlk
              simpa using h2
            · unfold FdBlk
              rw [← Hnm.out, ← Hbd.out]
              exact (Below.heap_setCell _ _ _ _ (by show w4.heap.size ≠ w.heap.size; omega)).trans hF5
          have hB6 : Hid (Below w.heap.size w (w5.setCell ⟨w.heap.size, 0, none⟩ (.slice (some ⟨g, 0, none⟩) 1 gc))) := by
            have h1 : Below wr.heap.size wr w5 := (((HB4.out.trans ((Below.refl _ _).drew)).alloc (by show wr.heap.size ≤ w4.heap.size; omega) _).alloc (by simp; omega) _).grown hgrow5 (by simp; omega) (fun b' hb' => by cases hb')
            exact (hbl.out.trans (h1.mono hsz)).setCell (Nat.le_refl _) _
          have hO6 : Hid (OwnL (w5.setCell ⟨w.heap.size, 0, none⟩ (.slice (some ⟨g, 0, none⟩) 1 gc)) (w.heap.size + 1) (.slice oa k oc) (Mb.losFrom 1 ts)) := by
            have e : (Mb.losFrom 1 ts).take k = Mb.losFrom 1 ts := List.take_of_length_le (by rw [Mb.losFrom_len]; omega)
            unfold Hid
            rw [← e]
            refine owns_block (w := wr) (fun b' hb' => ?_) hO.out
            have h1 := HRaw.out.lt b' hb'
            exact (Below.heap_setCell _ _ _ _ (by show b' ≠ w.heap.size; omega)).trans ((far5 b' (by omega)).trans (HB4.out.block b' h1.2))
          have HG5 := Lib.hid hg5
          have HS5 := Lib.hid hs5
          clear hown5 hgrow5 hat5 far5 hF5 hg0 r0 r1 r2 rf hd4 hzf y1 hg5 hs5 hs4 hlt5
          go_wp2_with fail
          refine ⟨Or.inr ⟨g, gc, w4.heap.size, ?_, hR6, hO6, hB6⟩, by simp [RowKit.intOf]; omega⟩
          have : k = ts.length := by omega
          subst this
          simp
    · obtain ⟨hDs, hFr, hFd, q1, q2, q3, q4⟩ := hDF.out
      obtain ⟨oa, oc, hvv, _, hlo, hob⟩ := OwnL.form hO.out
      have hlen := Mb.losFrom_len 1 ts
      rw [hlen] at hvv
      subst hvv
      obtain ⟨c0, _, _, c3, _, hDw⟩ := hDs.cells
      have hFw := hFd.cells.2.2.2.2.2.2.2.2
      have hfrw := hFr.2
      have gS := sort1 wr (some ⟨fr, 0, none⟩) fc (.func (.func 66) #[] #[])
      have gT : ∀ w1, Below wr.heap.size wr w1 → Calls Tryz.prog 67 #[.pointer (some ⟨w.heap.size, 0, none⟩), .slice oa ts.length oc] w1 fun e w' => e = .returned (.bool true) ∧ (∃ v, FdBlk w' F Mb.inN ⟨L.toArray⟩ v 0 0 (.slice none 0 0) false ∧ OwnM w' w1.heap.size v ((Mb.losFrom 1 ts).map Mb.Lo.ms)) ∧ But F none w1 w' := fun w1 hb1 => by
        have g := takeMessages_any (w := w1) (D := w.heap.size) (fr := fr) (fc := fc) (F := F) (text := ⟨L.toArray⟩) (a := oa) (cap := oc) (ls := Mb.losFrom 1 ts) ((hb1.block _ hDw).trans hDs) ⟨(hb1.cell (p := ⟨fr, 0, none⟩) hfrw).trans hFr.1, Nat.lt_of_lt_of_le hfrw hb1.size⟩ ((hb1.block _ hFw).trans hFd) (by omega) q3
          (by
            rcases hlo with h | ⟨b, off, h1, h2, h3⟩
            · exact Or.inl h
            · exact Or.inr ⟨b, off, h1, Nat.lt_of_lt_of_le h2 hb1.size, fun i x hx j u hu => (hb1.cell (p := ⟨b, off + i * 7 + j, none⟩) h2).trans (h3 i x hx j u hu)⟩)
          (fun b off h1 h2 => q4 (by rw [h1, h2, (hob b off h1).2]; rfl)) (by rw [hlen]; exact hn)
          (fun x hx => by
            obtain ⟨i, hi⟩ := List.getElem?_of_mem hx
            have hil : i < ts.length := by have := (List.getElem?_eq_some_iff.1 hi).1; omega
            rw [Mb.losFrom_get 1 ts i hil] at hi
            injection hi with hi
            rw [← hi]
            exact Ht.out _ (List.getElem_mem hil))
          (fun i j x y hij hx hy => by
            have hjl : j < ts.length := by have := (List.getElem?_eq_some_iff.1 hy).1; omega
            rw [Mb.losFrom_get 1 ts i (by omega)] at hx
            rw [Mb.losFrom_get 1 ts j hjl] at hy
            injection hx with hx
            injection hy with hy
            rw [← hx, ← hy]
            show ((1 + i : Nat) : Int) < ((1 + j : Nat) : Int)
            omega)
        rw [hlen] at g
        exact g
      have HDs := Lib.hid hDs
      have HFr := Lib.hid hFr
      clear hDs hFr hFd hlo hob hlen
      go_wp2_with (first | (go_at_call 65; refine gS.mono ?_; rintro e w1 ⟨rfl, hb1⟩; have gT1 := gT w1 hb1; have HB1 := Lib.hid hb1; clear gS gT hb1) | (go_at_call 67; refine gT1.mono ?_; rintro e w2 ⟨rfl, hfd, hbt⟩; have HFd := Lib.hid hfd; have HBt := Lib.hid hbt; clear gT1 hfd hbt))
      go_ret2
      obtain ⟨v, hfd, hom⟩ := HFd.out
      have hs1 := HB1.out.size
      have hs0 := hbl.out.size
      have far : ∀ b, b < wr.heap.size → b ≠ F → w2.heap[b]? = wr.heap[b]? := fun b h1 h2 => (HBt.out.block b (by omega) h2 (by simp)).trans (HB1.out.block b h1)
      have hnb : ∀ b, b < wr.heap.size → v.ownBlock ≠ some b := fun b hb e => by have := (hom.lt b e).1; omega
      refine ⟨⟨w.heap.size, fr, fc, F, v, rfl, (far _ hDw (by omega)).trans HDs.out, ⟨(World.cell?_of_block (a := ⟨fr, 0, none⟩) (far fr hfrw q3)).trans HFr.out.1, by have := HBt.out.size; omega⟩, hfd, owns_base hom (by omega), ⟨Nat.le_refl _, by omega, by omega⟩, ⟨by omega, by omega, q3⟩, ⟨hnb _ hDw, hnb _ hfrw, hnb _ hFw⟩⟩, ?_⟩
      exact ⟨HBt.out.os.trans (HB1.out.os.trans hbl.out.os), HBt.out.tape.trans (HB1.out.tape.trans hbl.out.tape), HBt.out.output.trans (HB1.out.output.trans hbl.out.output), by have := HBt.out.size; omega, fun b hb => (far b (by omega) (by omega)).trans (hbl.out.block b hb)⟩
end Go.Proofs.YtamglanahpcedaaGreatDoor
