/-
  OWN TEXT: mailbagkeep.told: the files of a disk in order hold the texts of its messages.
-/
import Derived.Test.YtamglanahpcedaaGreatDoorSureMath
import Derived.Test.YtamglanahpcedaaGreatDoorStepM
namespace Go.Proofs.YtamglanahpcedaaGreatDoor
open Go.RowKit Go.Lib

/-- the messages that were acknowledged, as cells -/
def Mb.knCells : Nat → List (List UInt8) → List Value
  | _, [] => []
  | k, t :: r => .int .i64 (k : Int) :: .string ⟨t.toArray⟩ :: Mb.knCells (k + 1) r
theorem Mb.knCells_len : ∀ (k : Nat) (ts : List (List UInt8)), (Mb.knCells k ts).length = ts.length * 2
  | _, [] => rfl
  | k, _ :: r => by simp only [Mb.knCells, List.length_cons, Mb.knCells_len (k + 1) r]; omega
theorem Mb.knCells_get : ∀ (k : Nat) (ts : List (List UInt8)) (i : Nat) (h : i < ts.length), (Mb.knCells k ts)[i * 2]? = some (.int .i64 ((k + i : Nat) : Int)) ∧ (Mb.knCells k ts)[i * 2 + 1]? = some (.string ⟨ts[i].toArray⟩)
  | _, [], i, h => by simp at h
  | k, t :: r, 0, h => by simp [Mb.knCells]
  | k, t :: r, i + 1, h => by
    have := Mb.knCells_get (k + 1) r i (by simpa using h)
    rw [show (i + 1) * 2 = i * 2 + 1 + 1 by omega, Mb.knCells]
    simp only [List.getElem?_cons_succ, List.getElem_cons_succ]
    rw [show k + (i + 1) = k + 1 + i by omega]
    exact this
theorem Mb.knCells_snoc : ∀ (k : Nat) (ts : List (List UInt8)) (t : List UInt8), Mb.knCells k (ts ++ [t]) = Mb.knCells k ts ++ [.int .i64 ((k + ts.length : Nat) : Int), .string ⟨t.toArray⟩]
  | k, [], t => by simp [Mb.knCells]
  | k, y :: r, t => by
    rw [List.cons_append, Mb.knCells, Mb.knCells_snoc (k + 1) r t, Mb.knCells]
    simp only [List.cons_append, List.length_cons]
    rw [show k + 1 + r.length = k + (r.length + 1) by omega]
def KnAt (w : World) (a : Option Addr) (ts : List (List UInt8)) : Prop := (ts = []) ∨ ∃ b off, a = some ⟨b, off, none⟩ ∧ b < w.heap.size ∧ ∀ (i : Nat) (h : i < ts.length), w.cell? ⟨b, off + i * 2, none⟩ = some (.int .i64 ((i + 1 : Nat) : Int)) ∧ w.cell? ⟨b, off + i * 2 + 1, none⟩ = some (.string ⟨ts[i].toArray⟩)
theorem kn_index {g off n cap k : Nat} {w : World} (hk : k < n) : (Instr.indexAt 30 (.slice (some ⟨g, off, none⟩) n cap) (.int .i64 (k : Int))).run Tryz.prog w = .ok (.pointer (some ⟨g, off + k * 2, none⟩)) w := by
  have h1 : ¬ (k : Int) < 0 := by omega
  have h2 : ((k : Int)).toNat = k := by omega
  go_simp

set_option maxRecDepth 100000 in
set_option maxHeartbeats 4000000 in
theorem told_yes {w : World} {a ka : Option Addr} {cap kc : Nat} {ts : List (List UInt8)} {L : List UInt8} (hm : FlAt w a (Mb.fsOf ts L)) (hk : KnAt w ka ts) (hn : ts.length ≤ 8) (hE : Env w) :
    Calls Tryz.prog 9 #[.slice a (ts.length + 1) cap, .slice ka ts.length kc] w fun e w' => e = .returned (.bool true) ∧ Below w.heap.size w w' := by
  obtain ⟨b, off, ha, hb, hc⟩ : ∃ b off, a = some ⟨b, off, none⟩ ∧ b < w.heap.size ∧ FlsAt w b off (Mb.fsOf ts L) := by
    rcases hm with hz | hz
    · have := congrArg List.length hz
      rw [Mb.fsOf_len] at this
      simp at this
    · exact hz
  subst ha
  have HC := Lib.hid hc
  have Hk := Lib.hid hk
  have HE := Lib.hid hE
  clear hm hk hE hc
  go_enter Tryz.func9, Tryz.ntmps9
  go_wp2_with fail
  go_loopw [5] (fun i wr => ∃ (j : Nat), j ≤ ts.length ∧ i = .int .i64 j ∧ Hid (Below w.heap.size w wr)) (fun i _ => ts.length - (RowKit.intOf i).toNat)
  case atStart => exact ⟨0, Nat.zero_le _, rfl, Below.refl _ _⟩
  case round =>
    obtain ⟨j, hj, rfl, hbl⟩ := hrel
    by_cases hlt : j < ts.length
    · go_wp2_with fail
      rename World => wo
      go_loopw [6, 7] (fun inn k wr => ∃ (q : Nat), q ≤ ts.length + 1 ∧ k = .int .i64 q ∧ inn = .bool (decide (j < q)) ∧ Hid (Below w.heap.size w wr)) (fun _ k _ => ts.length + 1 - (RowKit.intOf k).toNat)
      case atStart => exact ⟨0, Nat.zero_le _, rfl, by simp, hbl⟩
      case round =>
        clear hbl
        obtain ⟨q, hq, rfl, rfl, hbl⟩ := hrel
        by_cases hql : q < ts.length + 1
        · obtain ⟨kb, ko, hka, hkb, hkc⟩ : ∃ b off, ka = some ⟨b, off, none⟩ ∧ b < w.heap.size ∧ ∀ (i : Nat) (h : i < ts.length), w.cell? ⟨b, off + i * 2, none⟩ = some (.int .i64 ((i + 1 : Nat) : Int)) ∧ w.cell? ⟨b, off + i * 2 + 1, none⟩ = some (.string ⟨ts[i].toArray⟩) := by
            rcases Hk.out with hz | hz
            · rw [hz] at hlt; simp at hlt
            · exact hz
          subst hka
          have hfq : q < (Mb.fsOf ts L).length := by rw [Mb.fsOf_len]; exact hql
          obtain ⟨c0, c1⟩ := HC.out q _ (List.getElem?_eq_getElem hfq)
          have p0 := (hbl.out.cell (p := ⟨b, off + q * 2, none⟩) hb).trans c0
          have p1 := (hbl.out.cell (p := ⟨b, off + q * 2 + 1, none⟩) hb).trans c1
          obtain ⟨e0, e1⟩ := hkc j hlt
          have q0 := (hbl.out.cell (p := ⟨kb, ko + j * 2, none⟩) hkb).trans e0
          have q1 := (hbl.out.cell (p := ⟨kb, ko + j * 2 + 1, none⟩) hkb).trans e1
          have hcs := Mb.fsOf_cases ts L q _ (List.getElem?_eq_getElem hfq)
          have gI := itoa_any ((j + 1 : Nat) : Int) (by omega) (by omega) wr.drew (HE.out.below (hbl.out.trans ((Below.refl _ _).drew)) (Nat.le_refl _))
          obtain ⟨bn, Hbn, Hbn'⟩ := named_bytes (Mb.fsOf ts L)[q].name
          obtain ⟨bd, Hbd, Hbd'⟩ := named_bytes (Mb.fsOf ts L)[q].data
          obtain ⟨bt, Hbt, Hbt'⟩ := named_bytes ts[j]
          obtain ⟨it, Hit, Hit'⟩ := named_bytes (Lib.itoa ((j + 1 : Nat) : Int))
          rw [← Hbn.out] at p0
          rw [← Hbd.out] at p1
          rw [← Hbt.out] at q1
          rw [← Hit.out] at gI
          have HJ8 : Hid (j + 1 ≤ 8) := by unfold Hid; omega
          have HX : Hid (q ≠ j → bn.data.toList ≠ Mb.msgName (j + 1)) := fun hne => by
            rw [Hbn'.out]
            rcases hcs with ⟨h, he⟩ | ⟨h, he⟩
            · rw [he]; exact Mb.names_ne (q + 1) (j + 1) (by omega) (by omega) (by omega)
            · rw [he]; exact Ne.symm (Mb.names_ord (j + 1) (by omega)).2.2.2.1
          have HY : Hid (q = j → bn.data.toList = Mb.msgName (j + 1) ∧ bd = bt) := fun he => by
            subst he
            rcases hcs with ⟨h, he⟩ | ⟨h, he⟩
            · refine ⟨by rw [Hbn'.out, he], bytes_ext ?_⟩
              rw [Hbd'.out, Hbt'.out, he]
            · omega
          have HN : Hid (((⟨#[105, 110, 47]⟩ : ByteArray) ++ it ++ (⟨#[46]⟩ : ByteArray)).data.toList = Mb.msgName (j + 1)) := by
            unfold Hid Mb.msgName
            simp [ByteArray.data_append, Hit'.out]
          have hitl : it.size ≤ 1000 := by
            have h8 : ∀ k : Fin 9, (Lib.itoa (k.val : Int)).length ≤ 1000 := by decide +kernel
            rw [Lib.size_eq, Hit'.out]
            exact h8 ⟨j + 1, by omega⟩
          have hadd1 : 3 + it.size ≤ 9223372036854775807 := by omega
          have hadd2 : 3 + it.size ≤ 9223372036854775806 := by omega
          have hjm := Lib.hid hlt
          have hqm := Lib.hid hql
          clear c0 c1 e0 e1 hcs hkc
          generalize ((j + 1 : Nat) : Int) = uid at *
          have hbw : b < wr.heap.size := Nat.lt_of_lt_of_le hb hbl.out.size
          have hkw : kb < wr.heap.size := Nat.lt_of_lt_of_le hkb hbl.out.size
          go_wp2_with fail
          by_cases hqj : q = j
          · obtain ⟨hbe, hde⟩ := HY.out hqj
            have hne : (bn.toList == ((⟨#[105, 110, 47]⟩ : ByteArray) ++ it ++ (⟨#[46]⟩ : ByteArray)).toList) = true := by rw [ByteArray.toList_eq, ByteArray.toList_eq, hbe, HN.out]; exact beq_self_eq_true _
            have hdd : (bd.toList == bt.toList) = true := by rw [hde]; exact beq_self_eq_true _
            have hea : ∀ w, (do eqGuard .eql 9 (.tmp 30) (.tmp 38) (.string bn) (.string ((⟨#[105, 110, 47]⟩ : ByteArray) ++ it ++ (⟨#[46]⟩ : ByteArray))); binOp .eql 9 (.string bn) (.string ((⟨#[105, 110, 47]⟩ : ByteArray) ++ it ++ (⟨#[46]⟩ : ByteArray))) : Sem Value).run Tryz.prog w = .ok (.bool true) w := fun w => by go_simp
            have heb : ∀ w, (do eqGuard .eql 9 (.tmp 45) (.tmp 50) (.string bd) (.string bt); binOp .eql 9 (.string bd) (.string bt) : Sem Value).run Tryz.prog w = .ok (.bool true) w := fun w => by go_simp
            have HQJ := Lib.hid hqj
            clear hbe hde hne hdd HX HY HN hqj
            refine region_late [] (fun w' : World => w'.cell? ⟨b, off + q * 2, none⟩ = some (.string bn) ∧ w'.cell? ⟨b, off + q * 2 + 1, none⟩ = some (.string bd) ∧ w'.cell? ⟨kb, ko + j * 2, none⟩ = some (.int .i64 uid) ∧ w'.cell? ⟨kb, ko + j * 2 + 1, none⟩ = some (.string bt)) 27 rfl (by kernel_rfl) ⟨p0, p1, q0, q1⟩ (fun a' Q hA hQ hP hS => ?_)
            have z : a'.tmps.size = 55 := by rw [hA.out]; rfl
            have e0 : a'.eval (.tmp 0) = Value.slice (some ⟨b, off, none⟩) (ts.length + 1) cap := by rw [hA.out]; rfl
            have e1 : a'.eval (.tmp 1) = Value.slice (some ⟨kb, ko, none⟩) ts.length kc := by rw [hA.out]; rfl
            have e5 : a'.eval (.tmp 5) = Value.int .i64 (j : Int) := by rw [hA.out]; rfl
            have e7 : a'.eval (.tmp 7) = Value.int .i64 (q : Int) := by rw [hA.out]; rfl
            refine tkp (i := 0) (d := (some 26)) rfl rfl (by kernel_rfl) hP (wanted_all rfl) (fun wx => run_move rfl e0) hS ?_
            refine tkp (i := 1) (d := (some 27)) rfl rfl (by kernel_rfl) hP (wanted_all rfl) (fun wx => run_move rfl (evq (by decide) e7)) hS ?_
            refine tkp (i := 2) (d := (some 28)) rfl rfl (by kernel_rfl) hP (wanted_all rfl) (fun wx => run_index (v := .pointer (some ⟨b, off + q * 2, none⟩)) rfl (evq (by decide) (eve (Nat.lt_of_lt_of_eq (by decide : 26 < 55) z.symm))) (eve (Nat.lt_of_lt_of_eq (by decide : 27 < 55) (szq z).symm)) (file_index hqm.out)) hS ?_
            refine tkp (i := 3) (d := (some 29)) rfl rfl (by kernel_rfl) hP (wanted_all rfl) (fun wx => run_field (p' := ⟨b, off + q * 2, none⟩) rfl (eve (Nat.lt_of_lt_of_eq (by decide : 28 < 55) (szq (szq z)).symm)) (fun w => by kernel_rfl)) hS ?_
            refine tkv (i := 4) (d := (some 30)) rfl rfl (by kernel_rfl) hP (wanted_all rfl) (fun wx hw => run_load rfl (eve (Nat.lt_of_lt_of_eq (by decide : 29 < 55) (szq (szq (szq z))).symm)) (loadAt_one (fun w => by kernel_rfl) hw.1)) hS ?_
            refine tkp (i := 5) (d := (some 31)) rfl rfl (by kernel_rfl) hP (wanted_all rfl) (fun wx => run_move rfl (evq (by decide) (evq (by decide) (evq (by decide) (evq (by decide) (evq (by decide) e1)))))) hS ?_
            refine tkp (i := 6) (d := (some 32)) rfl rfl (by kernel_rfl) hP (wanted_all rfl) (fun wx => run_move rfl (evq (by decide) (evq (by decide) (evq (by decide) (evq (by decide) (evq (by decide) (evq (by decide) e5))))))) hS ?_
            refine tkp (i := 7) (d := (some 33)) rfl rfl (by kernel_rfl) hP (wanted_all rfl) (fun wx => run_index (v := .pointer (some ⟨kb, ko + j * 2, none⟩)) rfl (evq (by decide) (eve (Nat.lt_of_lt_of_eq (by decide : 31 < 55) (szq (szq (szq (szq (szq z))))).symm))) (eve (Nat.lt_of_lt_of_eq (by decide : 32 < 55) (szq (szq (szq (szq (szq (szq z)))))).symm)) (kn_index hjm.out)) hS ?_
            refine tkp (i := 8) (d := (some 34)) rfl rfl (by kernel_rfl) hP (wanted_all rfl) (fun wx => run_field (p' := ⟨kb, ko + j * 2, none⟩) rfl (eve (Nat.lt_of_lt_of_eq (by decide : 33 < 55) (szq (szq (szq (szq (szq (szq (szq z))))))).symm)) (fun w => by kernel_rfl)) hS ?_
            refine tkv (i := 9) (d := (some 35)) rfl rfl (by kernel_rfl) hP (wanted_all rfl) (fun wx hw => run_load rfl (eve (Nat.lt_of_lt_of_eq (by decide : 34 < 55) (szq (szq (szq (szq (szq (szq (szq (szq z)))))))).symm)) (loadAt_one (fun w => by kernel_rfl) hw.2.2.1)) hS ?_
            refine gov_callv (i := 10) (d := (some 36)) (by kernel_rfl) rfl rfl (wanted_all rfl) rfl rfl Tryz.func18 (by kernel_rfl) rfl (args1 (eve (Nat.lt_of_lt_of_eq (by decide : 35 < 55) (szq (szq (szq (szq (szq (szq (szq (szq (szq z))))))))).symm))) gI ?_
            rintro e w3 ⟨rfl, hb3⟩
            have hS3 : w3.cell? ⟨b, off + q * 2, none⟩ = some (.string bn) ∧ w3.cell? ⟨b, off + q * 2 + 1, none⟩ = some (.string bd) ∧ w3.cell? ⟨kb, ko + j * 2, none⟩ = some (.int .i64 uid) ∧ w3.cell? ⟨kb, ko + j * 2 + 1, none⟩ = some (.string bt) := ⟨(hb3.cell (p := ⟨b, off + q * 2, none⟩) hbw).trans p0, (hb3.cell (p := ⟨b, off + q * 2 + 1, none⟩) hbw).trans p1, (hb3.cell (p := ⟨kb, ko + j * 2, none⟩) hkw).trans q0, (hb3.cell (p := ⟨kb, ko + j * 2 + 1, none⟩) hkw).trans q1⟩
            refine ⟨_, rfl, fun _ => hS3, ?_⟩
            clear hS
            have hS := hS3
            refine tkp (i := 11) (d := (some 37)) rfl rfl (by kernel_rfl) hP (wanted_all rfl) (fun wx => run_bin (v := .string ((⟨#[105, 110, 47]⟩ : ByteArray) ++ it)) rfl rfl (eve (Nat.lt_of_lt_of_eq (by decide : 36 < 55) (szq (szq (szq (szq (szq (szq (szq (szq (szq (szq z)))))))))).symm)) (by go_simp)) hS ?_
            refine tkp (i := 12) (d := (some 38)) rfl rfl (by kernel_rfl) hP (wanted_all rfl) (fun wx => run_bin (v := .string ((⟨#[105, 110, 47]⟩ : ByteArray) ++ it ++ (⟨#[46]⟩ : ByteArray))) rfl (eve (Nat.lt_of_lt_of_eq (by decide : 37 < 55) (szq (szq (szq (szq (szq (szq (szq (szq (szq (szq (szq z))))))))))).symm)) rfl (by go_simp)) hS ?_
            refine tkp (i := 13) (d := (some 39)) rfl rfl (by kernel_rfl) hP (wanted_all rfl) (fun wx => run_bin (v := .bool true) rfl (evq (by decide) (evq (by decide) (evq (by decide) (evq (by decide) (evq (by decide) (evq (by decide) (evq (by decide) (evq (by decide) (eve (Nat.lt_of_lt_of_eq (by decide : 30 < 55) (szq (szq (szq (szq z)))).symm)))))))))) (eve (Nat.lt_of_lt_of_eq (by decide : 38 < 55) (szq (szq (szq (szq (szq (szq (szq (szq (szq (szq (szq (szq z)))))))))))).symm)) (hea _)) hS ?_
            refine tkp (i := 14) (d := (some 40)) rfl rfl (by kernel_rfl) hP (wanted_all rfl) (fun wx => run_move rfl (eve (Nat.lt_of_lt_of_eq (by decide : 39 < 55) (szq (szq (szq (szq (szq (szq (szq (szq (szq (szq (szq (szq (szq z))))))))))))).symm))) hS ?_
            refine tkp (i := 15) (d := (some 41)) rfl rfl (by kernel_rfl) hP (wanted_yes (e := 40) (b := true) rfl rfl (eve (Nat.lt_of_lt_of_eq (by decide : 40 < 55) (szq (szq (szq (szq (szq (szq (szq (szq (szq (szq (szq (szq (szq (szq z)))))))))))))).symm))) (fun wx => run_move rfl (evq (by decide) (evq (by decide) (evq (by decide) (evq (by decide) (evq (by decide) (evq (by decide) (evq (by decide) (evq (by decide) (evq (by decide) (evq (by decide) (evq (by decide) (evq (by decide) (evq (by decide) (evq (by decide) (evq (by decide) e0)))))))))))))))) hS ?_
            refine tkp (i := 16) (d := (some 42)) rfl rfl (by kernel_rfl) hP (wanted_yes (e := 40) (b := true) rfl rfl (evq (by decide) (eve (Nat.lt_of_lt_of_eq (by decide : 40 < 55) (szq (szq (szq (szq (szq (szq (szq (szq (szq (szq (szq (szq (szq (szq z)))))))))))))).symm)))) (fun wx => run_move rfl (evq (by decide) (evq (by decide) (evq (by decide) (evq (by decide) (evq (by decide) (evq (by decide) (evq (by decide) (evq (by decide) (evq (by decide) (evq (by decide) (evq (by decide) (evq (by decide) (evq (by decide) (evq (by decide) (evq (by decide) (evq (by decide) e7))))))))))))))))) hS ?_
            refine tkp (i := 17) (d := (some 43)) rfl rfl (by kernel_rfl) hP (wanted_yes (e := 40) (b := true) rfl rfl (evq (by decide) (evq (by decide) (eve (Nat.lt_of_lt_of_eq (by decide : 40 < 55) (szq (szq (szq (szq (szq (szq (szq (szq (szq (szq (szq (szq (szq (szq z)))))))))))))).symm))))) (fun wx => run_index (v := .pointer (some ⟨b, off + q * 2, none⟩)) rfl (evq (by decide) (eve (Nat.lt_of_lt_of_eq (by decide : 41 < 55) (szq (szq (szq (szq (szq (szq (szq (szq (szq (szq (szq (szq (szq (szq (szq z))))))))))))))).symm))) (eve (Nat.lt_of_lt_of_eq (by decide : 42 < 55) (szq (szq (szq (szq (szq (szq (szq (szq (szq (szq (szq (szq (szq (szq (szq (szq z)))))))))))))))).symm)) (file_index hqm.out)) hS ?_
            refine tkp (i := 18) (d := (some 44)) rfl rfl (by kernel_rfl) hP (wanted_yes (e := 40) (b := true) rfl rfl (evq (by decide) (evq (by decide) (evq (by decide) (eve (Nat.lt_of_lt_of_eq (by decide : 40 < 55) (szq (szq (szq (szq (szq (szq (szq (szq (szq (szq (szq (szq (szq (szq z)))))))))))))).symm)))))) (fun wx => run_field (p' := ⟨b, off + q * 2 + 1, none⟩) rfl (eve (Nat.lt_of_lt_of_eq (by decide : 43 < 55) (szq (szq (szq (szq (szq (szq (szq (szq (szq (szq (szq (szq (szq (szq (szq (szq (szq z))))))))))))))))).symm)) (fun w => by kernel_rfl)) hS ?_
            refine tkv (i := 19) (d := (some 45)) rfl rfl (by kernel_rfl) hP (wanted_yes (e := 40) (b := true) rfl rfl (evq (by decide) (evq (by decide) (evq (by decide) (evq (by decide) (eve (Nat.lt_of_lt_of_eq (by decide : 40 < 55) (szq (szq (szq (szq (szq (szq (szq (szq (szq (szq (szq (szq (szq (szq z)))))))))))))).symm))))))) (fun wx hw => run_load rfl (eve (Nat.lt_of_lt_of_eq (by decide : 44 < 55) (szq (szq (szq (szq (szq (szq (szq (szq (szq (szq (szq (szq (szq (szq (szq (szq (szq (szq z)))))))))))))))))).symm)) (loadAt_one (fun w => by kernel_rfl) hw.2.1)) hS ?_
            refine tkp (i := 20) (d := (some 46)) rfl rfl (by kernel_rfl) hP (wanted_yes (e := 40) (b := true) rfl rfl (evq (by decide) (evq (by decide) (evq (by decide) (evq (by decide) (evq (by decide) (eve (Nat.lt_of_lt_of_eq (by decide : 40 < 55) (szq (szq (szq (szq (szq (szq (szq (szq (szq (szq (szq (szq (szq (szq z)))))))))))))).symm)))))))) (fun wx => run_move rfl (evq (by decide) (evq (by decide) (evq (by decide) (evq (by decide) (evq (by decide) (evq (by decide) (evq (by decide) (evq (by decide) (evq (by decide) (evq (by decide) (evq (by decide) (evq (by decide) (evq (by decide) (evq (by decide) (evq (by decide) (evq (by decide) (evq (by decide) (evq (by decide) (evq (by decide) (evq (by decide) e1))))))))))))))))))))) hS ?_
            refine tkp (i := 21) (d := (some 47)) rfl rfl (by kernel_rfl) hP (wanted_yes (e := 40) (b := true) rfl rfl (evq (by decide) (evq (by decide) (evq (by decide) (evq (by decide) (evq (by decide) (evq (by decide) (eve (Nat.lt_of_lt_of_eq (by decide : 40 < 55) (szq (szq (szq (szq (szq (szq (szq (szq (szq (szq (szq (szq (szq (szq z)))))))))))))).symm))))))))) (fun wx => run_move rfl (evq (by decide) (evq (by decide) (evq (by decide) (evq (by decide) (evq (by decide) (evq (by decide) (evq (by decide) (evq (by decide) (evq (by decide) (evq (by decide) (evq (by decide) (evq (by decide) (evq (by decide) (evq (by decide) (evq (by decide) (evq (by decide) (evq (by decide) (evq (by decide) (evq (by decide) (evq (by decide) (evq (by decide) e5)))))))))))))))))))))) hS ?_
            refine tkp (i := 22) (d := (some 48)) rfl rfl (by kernel_rfl) hP (wanted_yes (e := 40) (b := true) rfl rfl (evq (by decide) (evq (by decide) (evq (by decide) (evq (by decide) (evq (by decide) (evq (by decide) (evq (by decide) (eve (Nat.lt_of_lt_of_eq (by decide : 40 < 55) (szq (szq (szq (szq (szq (szq (szq (szq (szq (szq (szq (szq (szq (szq z)))))))))))))).symm)))))))))) (fun wx => run_index (v := .pointer (some ⟨kb, ko + j * 2, none⟩)) rfl (evq (by decide) (eve (Nat.lt_of_lt_of_eq (by decide : 46 < 55) (szq (szq (szq (szq (szq (szq (szq (szq (szq (szq (szq (szq (szq (szq (szq (szq (szq (szq (szq (szq z)))))))))))))))))))).symm))) (eve (Nat.lt_of_lt_of_eq (by decide : 47 < 55) (szq (szq (szq (szq (szq (szq (szq (szq (szq (szq (szq (szq (szq (szq (szq (szq (szq (szq (szq (szq (szq z))))))))))))))))))))).symm)) (kn_index hjm.out)) hS ?_
            refine tkp (i := 23) (d := (some 49)) rfl rfl (by kernel_rfl) hP (wanted_yes (e := 40) (b := true) rfl rfl (evq (by decide) (evq (by decide) (evq (by decide) (evq (by decide) (evq (by decide) (evq (by decide) (evq (by decide) (evq (by decide) (eve (Nat.lt_of_lt_of_eq (by decide : 40 < 55) (szq (szq (szq (szq (szq (szq (szq (szq (szq (szq (szq (szq (szq (szq z)))))))))))))).symm))))))))))) (fun wx => run_field (p' := ⟨kb, ko + j * 2 + 1, none⟩) rfl (eve (Nat.lt_of_lt_of_eq (by decide : 48 < 55) (szq (szq (szq (szq (szq (szq (szq (szq (szq (szq (szq (szq (szq (szq (szq (szq (szq (szq (szq (szq (szq (szq z)))))))))))))))))))))).symm)) (fun w => by kernel_rfl)) hS ?_
            refine tkv (i := 24) (d := (some 50)) rfl rfl (by kernel_rfl) hP (wanted_yes (e := 40) (b := true) rfl rfl (evq (by decide) (evq (by decide) (evq (by decide) (evq (by decide) (evq (by decide) (evq (by decide) (evq (by decide) (evq (by decide) (evq (by decide) (eve (Nat.lt_of_lt_of_eq (by decide : 40 < 55) (szq (szq (szq (szq (szq (szq (szq (szq (szq (szq (szq (szq (szq (szq z)))))))))))))).symm)))))))))))) (fun wx hw => run_load rfl (eve (Nat.lt_of_lt_of_eq (by decide : 49 < 55) (szq (szq (szq (szq (szq (szq (szq (szq (szq (szq (szq (szq (szq (szq (szq (szq (szq (szq (szq (szq (szq (szq (szq z))))))))))))))))))))))).symm)) (loadAt_one (fun w => by kernel_rfl) hw.2.2.2)) hS ?_
            refine tkp (i := 25) (d := (some 51)) rfl rfl (by kernel_rfl) hP (wanted_yes (e := 40) (b := true) rfl rfl (evq (by decide) (evq (by decide) (evq (by decide) (evq (by decide) (evq (by decide) (evq (by decide) (evq (by decide) (evq (by decide) (evq (by decide) (evq (by decide) (eve (Nat.lt_of_lt_of_eq (by decide : 40 < 55) (szq (szq (szq (szq (szq (szq (szq (szq (szq (szq (szq (szq (szq (szq z)))))))))))))).symm))))))))))))) (fun wx => run_bin (v := .bool true) rfl (evq (by decide) (evq (by decide) (evq (by decide) (evq (by decide) (evq (by decide) (eve (Nat.lt_of_lt_of_eq (by decide : 45 < 55) (szq (szq (szq (szq (szq (szq (szq (szq (szq (szq (szq (szq (szq (szq (szq (szq (szq (szq (szq z))))))))))))))))))).symm))))))) (eve (Nat.lt_of_lt_of_eq (by decide : 50 < 55) (szq (szq (szq (szq (szq (szq (szq (szq (szq (szq (szq (szq (szq (szq (szq (szq (szq (szq (szq (szq (szq (szq (szq (szq z)))))))))))))))))))))))).symm)) (heb _)) hS ?_
            refine tkp (i := 26) (d := (some 52)) rfl rfl (by kernel_rfl) hP (wanted_all rfl) (fun wx => run_pick (v := .bool true) rfl (evq (by decide) (evq (by decide) (evq (by decide) (evq (by decide) (evq (by decide) (evq (by decide) (evq (by decide) (evq (by decide) (evq (by decide) (evq (by decide) (evq (by decide) (eve (Nat.lt_of_lt_of_eq (by decide : 40 < 55) (szq (szq (szq (szq (szq (szq (szq (szq (szq (szq (szq (szq (szq (szq z)))))))))))))).symm))))))))))))) (eve (Nat.lt_of_lt_of_eq (by decide : 51 < 55) (szq (szq (szq (szq (szq (szq (szq (szq (szq (szq (szq (szq (szq (szq (szq (szq (szq (szq (szq (szq (szq (szq (szq (szq (szq z))))))))))))))))))))))))).symm)) rfl rfl) hS ?_
            refine wpAnyV_done (by kernel_rfl) (hQ.out _ _ ?_) _
            rw [hA.out]
            simp only [Act.put, List.setIfInBounds_toArray]
            dsimp only [List.set]
            clear hQ hP hA z hS Q a' e0 e1 e5 e7 hS3
            go_wp2_with fail
            exact ⟨⟨q + 1, by omega, by simp, by have := HQJ.out; simp; omega, hbl.out.trans ((((Below.refl _ _).drew).trans hb3).mono hbl.out.size)⟩, by simp [RowKit.intOf]; omega⟩
          · have hne : (bn.toList == ((⟨#[105, 110, 47]⟩ : ByteArray) ++ it ++ (⟨#[46]⟩ : ByteArray)).toList) = false := by
              rw [ByteArray.toList_eq, ByteArray.toList_eq, HN.out]
              exact beq_eq_false_iff_ne.2 (HX.out hqj)
            have hea : ∀ w, (do eqGuard .eql 9 (.tmp 30) (.tmp 38) (.string bn) (.string ((⟨#[105, 110, 47]⟩ : ByteArray) ++ it ++ (⟨#[46]⟩ : ByteArray))); binOp .eql 9 (.string bn) (.string ((⟨#[105, 110, 47]⟩ : ByteArray) ++ it ++ (⟨#[46]⟩ : ByteArray))) : Sem Value).run Tryz.prog w = .ok (.bool false) w := fun w => by go_simp
            have HQJ := Lib.hid hqj
            clear hne HX HY HN hqj
            refine region_late [] (fun w' : World => w'.cell? ⟨b, off + q * 2, none⟩ = some (.string bn) ∧ w'.cell? ⟨b, off + q * 2 + 1, none⟩ = some (.string bd) ∧ w'.cell? ⟨kb, ko + j * 2, none⟩ = some (.int .i64 uid) ∧ w'.cell? ⟨kb, ko + j * 2 + 1, none⟩ = some (.string bt)) 27 rfl (by kernel_rfl) ⟨p0, p1, q0, q1⟩ (fun a' Q hA hQ hP hS => ?_)
            have z : a'.tmps.size = 55 := by rw [hA.out]; rfl
            have e0 : a'.eval (.tmp 0) = Value.slice (some ⟨b, off, none⟩) (ts.length + 1) cap := by rw [hA.out]; rfl
            have e1 : a'.eval (.tmp 1) = Value.slice (some ⟨kb, ko, none⟩) ts.length kc := by rw [hA.out]; rfl
            have e5 : a'.eval (.tmp 5) = Value.int .i64 (j : Int) := by rw [hA.out]; rfl
            have e7 : a'.eval (.tmp 7) = Value.int .i64 (q : Int) := by rw [hA.out]; rfl
            refine tkp (i := 0) (d := (some 26)) rfl rfl (by kernel_rfl) hP (wanted_all rfl) (fun wx => run_move rfl e0) hS ?_
            refine tkp (i := 1) (d := (some 27)) rfl rfl (by kernel_rfl) hP (wanted_all rfl) (fun wx => run_move rfl (evq (by decide) e7)) hS ?_
            refine tkp (i := 2) (d := (some 28)) rfl rfl (by kernel_rfl) hP (wanted_all rfl) (fun wx => run_index (v := .pointer (some ⟨b, off + q * 2, none⟩)) rfl (evq (by decide) (eve (Nat.lt_of_lt_of_eq (by decide : 26 < 55) z.symm))) (eve (Nat.lt_of_lt_of_eq (by decide : 27 < 55) (szq z).symm)) (file_index hqm.out)) hS ?_
            refine tkp (i := 3) (d := (some 29)) rfl rfl (by kernel_rfl) hP (wanted_all rfl) (fun wx => run_field (p' := ⟨b, off + q * 2, none⟩) rfl (eve (Nat.lt_of_lt_of_eq (by decide : 28 < 55) (szq (szq z)).symm)) (fun w => by kernel_rfl)) hS ?_
            refine tkv (i := 4) (d := (some 30)) rfl rfl (by kernel_rfl) hP (wanted_all rfl) (fun wx hw => run_load rfl (eve (Nat.lt_of_lt_of_eq (by decide : 29 < 55) (szq (szq (szq z))).symm)) (loadAt_one (fun w => by kernel_rfl) hw.1)) hS ?_
            refine tkp (i := 5) (d := (some 31)) rfl rfl (by kernel_rfl) hP (wanted_all rfl) (fun wx => run_move rfl (evq (by decide) (evq (by decide) (evq (by decide) (evq (by decide) (evq (by decide) e1)))))) hS ?_
            refine tkp (i := 6) (d := (some 32)) rfl rfl (by kernel_rfl) hP (wanted_all rfl) (fun wx => run_move rfl (evq (by decide) (evq (by decide) (evq (by decide) (evq (by decide) (evq (by decide) (evq (by decide) e5))))))) hS ?_
            refine tkp (i := 7) (d := (some 33)) rfl rfl (by kernel_rfl) hP (wanted_all rfl) (fun wx => run_index (v := .pointer (some ⟨kb, ko + j * 2, none⟩)) rfl (evq (by decide) (eve (Nat.lt_of_lt_of_eq (by decide : 31 < 55) (szq (szq (szq (szq (szq z))))).symm))) (eve (Nat.lt_of_lt_of_eq (by decide : 32 < 55) (szq (szq (szq (szq (szq (szq z)))))).symm)) (kn_index hjm.out)) hS ?_
            refine tkp (i := 8) (d := (some 34)) rfl rfl (by kernel_rfl) hP (wanted_all rfl) (fun wx => run_field (p' := ⟨kb, ko + j * 2, none⟩) rfl (eve (Nat.lt_of_lt_of_eq (by decide : 33 < 55) (szq (szq (szq (szq (szq (szq (szq z))))))).symm)) (fun w => by kernel_rfl)) hS ?_
            refine tkv (i := 9) (d := (some 35)) rfl rfl (by kernel_rfl) hP (wanted_all rfl) (fun wx hw => run_load rfl (eve (Nat.lt_of_lt_of_eq (by decide : 34 < 55) (szq (szq (szq (szq (szq (szq (szq (szq z)))))))).symm)) (loadAt_one (fun w => by kernel_rfl) hw.2.2.1)) hS ?_
            refine gov_callv (i := 10) (d := (some 36)) (by kernel_rfl) rfl rfl (wanted_all rfl) rfl rfl Tryz.func18 (by kernel_rfl) rfl (args1 (eve (Nat.lt_of_lt_of_eq (by decide : 35 < 55) (szq (szq (szq (szq (szq (szq (szq (szq (szq z))))))))).symm))) gI ?_
            rintro e w3 ⟨rfl, hb3⟩
            have hS3 : w3.cell? ⟨b, off + q * 2, none⟩ = some (.string bn) ∧ w3.cell? ⟨b, off + q * 2 + 1, none⟩ = some (.string bd) ∧ w3.cell? ⟨kb, ko + j * 2, none⟩ = some (.int .i64 uid) ∧ w3.cell? ⟨kb, ko + j * 2 + 1, none⟩ = some (.string bt) := ⟨(hb3.cell (p := ⟨b, off + q * 2, none⟩) hbw).trans p0, (hb3.cell (p := ⟨b, off + q * 2 + 1, none⟩) hbw).trans p1, (hb3.cell (p := ⟨kb, ko + j * 2, none⟩) hkw).trans q0, (hb3.cell (p := ⟨kb, ko + j * 2 + 1, none⟩) hkw).trans q1⟩
            refine ⟨_, rfl, fun _ => hS3, ?_⟩
            clear hS
            have hS := hS3
            refine tkp (i := 11) (d := (some 37)) rfl rfl (by kernel_rfl) hP (wanted_all rfl) (fun wx => run_bin (v := .string ((⟨#[105, 110, 47]⟩ : ByteArray) ++ it)) rfl rfl (eve (Nat.lt_of_lt_of_eq (by decide : 36 < 55) (szq (szq (szq (szq (szq (szq (szq (szq (szq (szq z)))))))))).symm)) (by go_simp)) hS ?_
            refine tkp (i := 12) (d := (some 38)) rfl rfl (by kernel_rfl) hP (wanted_all rfl) (fun wx => run_bin (v := .string ((⟨#[105, 110, 47]⟩ : ByteArray) ++ it ++ (⟨#[46]⟩ : ByteArray))) rfl (eve (Nat.lt_of_lt_of_eq (by decide : 37 < 55) (szq (szq (szq (szq (szq (szq (szq (szq (szq (szq (szq z))))))))))).symm)) rfl (by go_simp)) hS ?_
            refine tkp (i := 13) (d := (some 39)) rfl rfl (by kernel_rfl) hP (wanted_all rfl) (fun wx => run_bin (v := .bool false) rfl (evq (by decide) (evq (by decide) (evq (by decide) (evq (by decide) (evq (by decide) (evq (by decide) (evq (by decide) (evq (by decide) (eve (Nat.lt_of_lt_of_eq (by decide : 30 < 55) (szq (szq (szq (szq z)))).symm)))))))))) (eve (Nat.lt_of_lt_of_eq (by decide : 38 < 55) (szq (szq (szq (szq (szq (szq (szq (szq (szq (szq (szq (szq z)))))))))))).symm)) (hea _)) hS ?_
            refine tkp (i := 14) (d := (some 40)) rfl rfl (by kernel_rfl) hP (wanted_all rfl) (fun wx => run_move rfl (eve (Nat.lt_of_lt_of_eq (by decide : 39 < 55) (szq (szq (szq (szq (szq (szq (szq (szq (szq (szq (szq (szq (szq z))))))))))))).symm))) hS ?_
            refine tknv (i := 15) (d := (some 41)) rfl rfl (by kernel_rfl) hP (wanted_no (e := 40) (b := true) rfl rfl (eve (Nat.lt_of_lt_of_eq (by decide : 40 < 55) (szq (szq (szq (szq (szq (szq (szq (szq (szq (szq (szq (szq (szq (szq z)))))))))))))).symm))) hS ?_
            refine tknv (i := 16) (d := (some 42)) rfl rfl (by kernel_rfl) hP (wanted_no (e := 40) (b := true) rfl rfl (evq (by decide) (eve (Nat.lt_of_lt_of_eq (by decide : 40 < 55) (szq (szq (szq (szq (szq (szq (szq (szq (szq (szq (szq (szq (szq (szq z)))))))))))))).symm)))) hS ?_
            refine tknv (i := 17) (d := (some 43)) rfl rfl (by kernel_rfl) hP (wanted_no (e := 40) (b := true) rfl rfl (evq (by decide) (evq (by decide) (eve (Nat.lt_of_lt_of_eq (by decide : 40 < 55) (szq (szq (szq (szq (szq (szq (szq (szq (szq (szq (szq (szq (szq (szq z)))))))))))))).symm))))) hS ?_
            refine tknv (i := 18) (d := (some 44)) rfl rfl (by kernel_rfl) hP (wanted_no (e := 40) (b := true) rfl rfl (evq (by decide) (evq (by decide) (evq (by decide) (eve (Nat.lt_of_lt_of_eq (by decide : 40 < 55) (szq (szq (szq (szq (szq (szq (szq (szq (szq (szq (szq (szq (szq (szq z)))))))))))))).symm)))))) hS ?_
            refine tknv (i := 19) (d := (some 45)) rfl rfl (by kernel_rfl) hP (wanted_no (e := 40) (b := true) rfl rfl (evq (by decide) (evq (by decide) (evq (by decide) (evq (by decide) (eve (Nat.lt_of_lt_of_eq (by decide : 40 < 55) (szq (szq (szq (szq (szq (szq (szq (szq (szq (szq (szq (szq (szq (szq z)))))))))))))).symm))))))) hS ?_
            refine tknv (i := 20) (d := (some 46)) rfl rfl (by kernel_rfl) hP (wanted_no (e := 40) (b := true) rfl rfl (evq (by decide) (evq (by decide) (evq (by decide) (evq (by decide) (evq (by decide) (eve (Nat.lt_of_lt_of_eq (by decide : 40 < 55) (szq (szq (szq (szq (szq (szq (szq (szq (szq (szq (szq (szq (szq (szq z)))))))))))))).symm)))))))) hS ?_
            refine tknv (i := 21) (d := (some 47)) rfl rfl (by kernel_rfl) hP (wanted_no (e := 40) (b := true) rfl rfl (evq (by decide) (evq (by decide) (evq (by decide) (evq (by decide) (evq (by decide) (evq (by decide) (eve (Nat.lt_of_lt_of_eq (by decide : 40 < 55) (szq (szq (szq (szq (szq (szq (szq (szq (szq (szq (szq (szq (szq (szq z)))))))))))))).symm))))))))) hS ?_
            refine tknv (i := 22) (d := (some 48)) rfl rfl (by kernel_rfl) hP (wanted_no (e := 40) (b := true) rfl rfl (evq (by decide) (evq (by decide) (evq (by decide) (evq (by decide) (evq (by decide) (evq (by decide) (evq (by decide) (eve (Nat.lt_of_lt_of_eq (by decide : 40 < 55) (szq (szq (szq (szq (szq (szq (szq (szq (szq (szq (szq (szq (szq (szq z)))))))))))))).symm)))))))))) hS ?_
            refine tknv (i := 23) (d := (some 49)) rfl rfl (by kernel_rfl) hP (wanted_no (e := 40) (b := true) rfl rfl (evq (by decide) (evq (by decide) (evq (by decide) (evq (by decide) (evq (by decide) (evq (by decide) (evq (by decide) (evq (by decide) (eve (Nat.lt_of_lt_of_eq (by decide : 40 < 55) (szq (szq (szq (szq (szq (szq (szq (szq (szq (szq (szq (szq (szq (szq z)))))))))))))).symm))))))))))) hS ?_
            refine tknv (i := 24) (d := (some 50)) rfl rfl (by kernel_rfl) hP (wanted_no (e := 40) (b := true) rfl rfl (evq (by decide) (evq (by decide) (evq (by decide) (evq (by decide) (evq (by decide) (evq (by decide) (evq (by decide) (evq (by decide) (evq (by decide) (eve (Nat.lt_of_lt_of_eq (by decide : 40 < 55) (szq (szq (szq (szq (szq (szq (szq (szq (szq (szq (szq (szq (szq (szq z)))))))))))))).symm)))))))))))) hS ?_
            refine tknv (i := 25) (d := (some 51)) rfl rfl (by kernel_rfl) hP (wanted_no (e := 40) (b := true) rfl rfl (evq (by decide) (evq (by decide) (evq (by decide) (evq (by decide) (evq (by decide) (evq (by decide) (evq (by decide) (evq (by decide) (evq (by decide) (evq (by decide) (eve (Nat.lt_of_lt_of_eq (by decide : 40 < 55) (szq (szq (szq (szq (szq (szq (szq (szq (szq (szq (szq (szq (szq (szq z)))))))))))))).symm))))))))))))) hS ?_
            refine tkp (i := 26) (d := (some 52)) rfl rfl (by kernel_rfl) hP (wanted_all rfl) (fun wx => run_pick (v := .bool false) rfl (evq (by decide) (evq (by decide) (evq (by decide) (evq (by decide) (evq (by decide) (evq (by decide) (evq (by decide) (evq (by decide) (evq (by decide) (evq (by decide) (evq (by decide) (eve (Nat.lt_of_lt_of_eq (by decide : 40 < 55) (szq (szq (szq (szq (szq (szq (szq (szq (szq (szq (szq (szq (szq (szq z)))))))))))))).symm))))))))))))) (eve (Nat.lt_of_lt_of_eq (by decide : 51 < 55) (szq (szq (szq (szq (szq (szq (szq (szq (szq (szq (szq (szq (szq (szq (szq (szq (szq (szq (szq (szq (szq (szq (szq (szq (szq z))))))))))))))))))))))))).symm)) rfl rfl) hS ?_
            refine wpAnyV_done (by kernel_rfl) (hQ.out _ _ ?_) _
            rw [hA.out]
            simp only [Act.put, List.setIfInBounds_toArray]
            dsimp only [List.set]
            clear hQ hP hA z hS Q a' e0 e1 e5 e7 hS3
            go_wp2_with fail
            exact ⟨⟨q + 1, by omega, by simp, by have := HQJ.out; have e : decide (j < q) = decide (j < q + 1) := decide_eq_decide.2 (by omega); rw [e], hbl.out.trans ((((Below.refl _ _).drew).trans hb3).mono hbl.out.size)⟩, by simp [RowKit.intOf]; omega⟩
        · have hd : decide (j < q) = true := by simp; omega
          rw [hd]
          go_wp2_with fail
          exact ⟨⟨j + 1, by omega, by simp, hbl⟩, by simp [RowKit.intOf]; omega⟩
    · go_wp2_with fail
      go_ret
      exact ⟨rfl, hbl.out⟩
end Go.Proofs.YtamglanahpcedaaGreatDoor
