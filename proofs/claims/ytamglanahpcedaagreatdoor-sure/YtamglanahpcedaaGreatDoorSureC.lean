/-
  OWN TEXT: mailbagkeep.Sure: what it holds is so, whatever comes in.
-/
import Derived.Test.YtamglanahpcedaaGreatDoorSureAB
namespace Go.Proofs.YtamglanahpcedaaGreatDoor
open Go.RowKit Go.Lib

set_option maxRecDepth 100000 in
set_option maxHeartbeats 8000000 in
theorem sure_true {w : World} {a : Option Addr} {n cap : Nat} (hp : PtAt w a n) (hnl : n ≤ maxLen) (hE : EnvN w) :
    Calls Tryz.prog 3 #[.slice a n cap] w fun e w' => e = .returned (.bool true) ∧ Below w.heap.size w w' := by
  obtain ⟨i0, hi, hz0, hz1, hz2⟩ := info_parts Tryz.info_kn
  have HP := Lib.hid hp
  have HE := Lib.hid hE
  have hnl' : n ≤ 9223372036854775807 := Nat.le_trans hnl (by decide)
  clear hp hE
  have gE := empty_any w
  go_enter Tryz.func3, Tryz.ntmps3
  go_wp2_with fail
  refine gE.mono ?_
  rintro e w1 ⟨⟨fb, rfl, hfb, hfs⟩, hb1⟩
  have gN := newDisk_some fb 0 1 (Mb.fsOf [] (Mb.listT 0)) w1 hfb hfs (by decide)
  have HB1 := Lib.hid hb1
  clear gE hb1 hfs hfb
  go_wp2_with fail
  refine gN.mono ?_
  rintro e w2 ⟨rfl, ⟨role0, V0, hD0⟩, hb2⟩
  have HB2 : Hid (Below w.heap.size w w2) := HB1.out.trans (hb2.mono HB1.out.size)
  have gA := again_ok hD0 (Mb.newDk_ok (ts := []) (by decide) (by simp)) (by decide) (by simp) (HE.out.below HB2.out (Nat.le_refl _)) none 0 0 (Or.inl rfl) (Nat.zero_le _)
  clear gN hD0 hb2 HB1
  go_wp2_with fail
  refine gA.mono ?_
  rintro e w3 ⟨⟨Ks0, s0, Kd0, role1, V1, rfl, hs3, hd3, ha3⟩, hb3⟩
  have HB3 : Hid (Below w.heap.size w w3) := HB2.out.trans (hb3.mono HB2.out.size)
  have HST3 : Hid (SuSt w.heap.size Ks0 Kd0 (.slice none 0 0) [] [] s0 role1 V1 (Mb.newDk (Mb.fsOf [] (Mb.listT 0))) w3) := ⟨HB3.out.size, hs3.lower HB2.out.size, hd3.base HB2.out.size, World.ownsRow_nil _ _ _ _, ha3, fun b hb => by cases hb⟩
  have HOK3 : Hid (Mb.DkOk (Mb.newDk (Mb.fsOf [] (Mb.listT 0))) []) := Mb.newDk_ok (ts := []) (by decide) (by simp)
  clear gA hs3 hd3 ha3 hb3 HB2
  go_wp2_with fail
  go_loopw [3, 4, 5, 6] (fun dk sv l i wr => ∃ (k : Nat) (ts : List (List UInt8)) (Ks Kd : Nat) (s : Sv) (role : Nat → Nat) (V : DkV) (D : Mb.Dk), k ≤ n ∧ i = .int .i64 k ∧ dk = .pointer (some ⟨Kd, 0, none⟩) ∧ sv = .pointer (some ⟨Ks, 0, none⟩) ∧ Hid (ts.length ≤ 8) ∧ Hid (∀ t ∈ ts, t.length ≤ 40) ∧ Hid (SuSt w.heap.size Ks Kd l ts ts s role V D wr) ∧ Hid (Mb.DkOk D ts) ∧ Hid (Below w.heap.size w wr)) (fun _ _ _ i _ => n - (RowKit.intOf i).toNat)
  case atStart => exact ⟨0, [], Ks0, Kd0, s0, role1, V1, _, Nat.zero_le _, rfl, rfl, rfl, by unfold Hid; decide, by unfold Hid; simp, HST3, HOK3, HB3⟩
  case round =>
    clear HB3 HST3 HOK3
    obtain ⟨k, ts, Ks, Kd, s, role, V, D, hk, rfl, rfl, rfl, hn8, ht, hst, hok, hbl⟩ := hrel
    obtain ⟨la, lc, hll, _⟩ := OwnK.form hst.out.ow
    subst hll
    by_cases hlt : k < n
    · obtain ⟨pb, po, ha, hpb, hpc⟩ : ∃ b off, a = some ⟨b, off, none⟩ ∧ b < w.heap.size ∧ PutsAt w b off n := by
        rcases HP.out with hz | hz
        · omega
        · exact hz
      subst ha
      obtain ⟨tx, cr, pa, pn, pc, p0, p1, p2, hI, hpn, htx⟩ := hpc k hlt
      have hIx : ∀ w, (Instr.indexAt 22 (.slice (some ⟨pb, po, none⟩) n cap) (.int .i64 (k : Int))).run Tryz.prog w = .ok (.pointer (some ⟨pb, po + k * 3, none⟩)) w := fun w => put_index hlt
      have q0 := (hbl.out.cell (p := ⟨pb, po + k * 3, none⟩) hpb).trans p0
      have HPn := Lib.hid hpn
      have HI := Lib.hid hI
      have HTX := Lib.hid htx
      have P0 := Lib.hid p0
      have P1 := Lib.hid p1
      have P2 := Lib.hid p2
      clear hpc p0 p1 p2 hI hpn htx
      by_cases hlong : 40 < tx.data.toList.length
      · have gD := deliver_long hst.out.sv tx hlong HTX.out
        have hlg : (40 : Int) < (tx.size : Int) := by rw [Lib.size_eq]; omega
        clear hlong
        go_wp2_with fail
        refine gD.mono ?_
        rintro e w4 ⟨rfl, hsv, hstep⟩
        have HB4 : Hid (Below w.heap.size w w4) := hbl.out.trans (hstep.base hst.out.sv hst.out.lo)
        have HST4 : Hid (SuSt w.heap.size Ks Kd (.slice la ts.length lc) ts ts s role V D w4) := hst.out.serve hsv hstep
        have HOK4 := hok
        clear gD hsv hstep hst hok hbl q0
        cases cr with
        | false =>
          have r1 : w4.cell? ⟨pb, po + k * 3 + 1, none⟩ = some (.bool false) := (HB4.out.cell (p := ⟨pb, po + k * 3 + 1, none⟩) hpb).trans P1.out
          have r0 : w4.cell? ⟨pb, po + k * 3, none⟩ = some (.string tx) := (HB4.out.cell (p := ⟨pb, po + k * 3, none⟩) hpb).trans P0.out
          go_wp2_with (go_at_call 8; refine (doAll_none w4).mono ?_; rintro e w' ⟨rfl, hw'⟩; subst w')
          have gF := files_any HST4.out.sv (fun w' hb' => (HE.out.below (HB4.out.trans hb') (Nat.le_refl _)).env) hn8.out
          go_wp2_with fail
          refine gF.mono ?_
          rintro e w7 ⟨⟨fv, fys, rfl, hso, hfo⟩, hsv7, hst7⟩
          have hys := Mb.server_files hn8.out hso
          subst hys
          obtain ⟨fa, fcap, hfv, _, hfa, _⟩ := OwnF.form hfo
          rw [Mb.fsOf_len] at hfv
          subst hfv
          have HST7 : Hid (SuSt w.heap.size Ks Kd (.slice la ts.length lc) ts ts s role V D w7) := HST4.out.serve hsv7 hst7
          have HB7 : Hid (Below w.heap.size w w7) := HB4.out.trans (hst7.base HST4.out.sv HST4.out.lo)
          have gT := told_yes (cap := fcap) (kc := lc) hfa HST7.out.ow.kn hn8.out (HE.out.below HB7.out (Nat.le_refl _)).env
          clear gF hso hfo hsv7 hst7 hfa HST4 HB4
          go_wp2_with fail
          refine gT.mono ?_
          rintro e w8 ⟨rfl, hb8⟩
          have HST8 : Hid (SuSt w.heap.size Ks Kd (.slice la ts.length lc) ts ts s role V D w8) := HST7.out.far hb8
          have HB8 : Hid (Below w.heap.size w w8) := HB7.out.trans (hb8.mono HB7.out.size)
          have gG := diskFiles_any HST8.out.dk HOK4.out.safe.good (by rw [HOK4.out.names]; have := hn8.out; omega) (by rw [HOK4.out.files]; exact Mb.fsOf_inOrder _ _ hn8.out)
          rw [HOK4.out.files] at gG
          clear gT hb8 HST7 HB7
          go_wp2_with fail
          refine gG.mono ?_
          rintro e w9 ⟨⟨gv, rfl, hgo⟩, hb9⟩
          obtain ⟨ga, gcap, hgv, _, hga, _⟩ := OwnF.form hgo
          rw [Mb.fsOf_len] at hgv
          subst hgv
          have HST9 : Hid (SuSt w.heap.size Ks Kd (.slice la ts.length lc) ts ts s role V D w9) := HST8.out.far hb9
          have HB9 : Hid (Below w.heap.size w w9) := HB8.out.trans (hb9.mono HB8.out.size)
          have gT := told_yes (cap := gcap) (kc := lc) hga HST9.out.ow.kn hn8.out (HE.out.below HB9.out (Nat.le_refl _)).env
          clear gG hgo hb9 hga HST8 HB8
          go_wp2_with fail
          refine gT.mono ?_
          rintro e w10 ⟨rfl, hb10⟩
          have HST10 : Hid (SuSt w.heap.size Ks Kd (.slice la ts.length lc) ts ts s role V D w10) := HST9.out.far hb10
          have HB10 : Hid (Below w.heap.size w w10) := HB9.out.trans (hb10.mono HB9.out.size)
          clear gT hb10 HST9 HB9
          go_wp2_with fail
          exact ⟨⟨k + 1, ts, Ks, Kd, s, role, V, D, by omega, by simp, rfl, rfl, hn8, ht, HST10, HOK4, HB10⟩, by simp [RowKit.intOf]; omega⟩
        | true =>
          have r1 : w4.cell? ⟨pb, po + k * 3 + 1, none⟩ = some (.bool true) := (HB4.out.cell (p := ⟨pb, po + k * 3 + 1, none⟩) hpb).trans P1.out
          have r2 : w4.cell? ⟨pb, po + k * 3 + 2, none⟩ = some (.slice pa pn pc) := (HB4.out.cell (p := ⟨pb, po + k * 3 + 2, none⟩) hpb).trans P2.out
          have r0 : w4.cell? ⟨pb, po + k * 3, none⟩ = some (.string tx) := (HB4.out.cell (p := ⟨pb, po + k * 3, none⟩) hpb).trans P0.out
          go_wp2_with (go_at_call 8; refine (doAll_none w4).mono ?_; rintro e w' ⟨rfl, hw'⟩; subst w')
          have gA := again_ok HST4.out.dk HOK4.out hn8.out ht.out (HE.out.below HB4.out (Nat.le_refl _)) pa pn pc (HI.out.below HB4.out (Nat.le_refl _)) HPn.out
          go_wp2_with fail
          refine gA.mono ?_
          rintro e w11 ⟨⟨Ks2, s2, Kd2, role2, V2, rfl, hs2, hd2, ha2⟩, hb11⟩
          have HST11 : Hid (SuSt w.heap.size Ks2 Kd2 (.slice la ts.length lc) ts ts s2 role2 V2 (Mb.newDk (Mb.fsOf ts (Mb.listT ts.length))) w11) := HST4.out.anew hb11 hs2 hd2 ha2
          have HB11 : Hid (Below w.heap.size w w11) := HB4.out.trans (hb11.mono HB4.out.size)
          have HOK11 : Hid (Mb.DkOk (Mb.newDk (Mb.fsOf ts (Mb.listT ts.length))) ts) := Mb.newDk_ok hn8.out ht.out
          clear gA hs2 hd2 ha2 hb11 HST4 HB4 HOK4
          have gF := files_any HST11.out.sv (fun w' hb' => (HE.out.below (HB11.out.trans hb') (Nat.le_refl _)).env) hn8.out
          go_wp2_with fail
          refine gF.mono ?_
          rintro e w7 ⟨⟨fv, fys, rfl, hso, hfo⟩, hsv7, hst7⟩
          have hys := Mb.server_files hn8.out hso
          subst hys
          obtain ⟨fa, fcap, hfv, _, hfa, _⟩ := OwnF.form hfo
          rw [Mb.fsOf_len] at hfv
          subst hfv
          have HST7 : Hid (SuSt w.heap.size Ks2 Kd2 (.slice la ts.length lc) ts ts s2 role2 V2 (Mb.newDk (Mb.fsOf ts (Mb.listT ts.length))) w7) := HST11.out.serve hsv7 hst7
          have HB7 : Hid (Below w.heap.size w w7) := HB11.out.trans (hst7.base HST11.out.sv HST11.out.lo)
          have gT := told_yes (cap := fcap) (kc := lc) hfa HST7.out.ow.kn hn8.out (HE.out.below HB7.out (Nat.le_refl _)).env
          clear gF hso hfo hsv7 hst7 hfa HST11 HB11
          go_wp2_with fail
          refine gT.mono ?_
          rintro e w8 ⟨rfl, hb8⟩
          have HST8 : Hid (SuSt w.heap.size Ks2 Kd2 (.slice la ts.length lc) ts ts s2 role2 V2 (Mb.newDk (Mb.fsOf ts (Mb.listT ts.length))) w8) := HST7.out.far hb8
          have HB8 : Hid (Below w.heap.size w w8) := HB7.out.trans (hb8.mono HB7.out.size)
          have gG := diskFiles_any HST8.out.dk HOK11.out.safe.good (by rw [HOK11.out.names]; have := hn8.out; omega) (by rw [HOK11.out.files]; exact Mb.fsOf_inOrder _ _ hn8.out)
          rw [HOK11.out.files] at gG
          clear gT hb8 HST7 HB7
          go_wp2_with fail
          refine gG.mono ?_
          rintro e w9 ⟨⟨gv, rfl, hgo⟩, hb9⟩
          obtain ⟨ga, gcap, hgv, _, hga, _⟩ := OwnF.form hgo
          rw [Mb.fsOf_len] at hgv
          subst hgv
          have HST9 : Hid (SuSt w.heap.size Ks2 Kd2 (.slice la ts.length lc) ts ts s2 role2 V2 (Mb.newDk (Mb.fsOf ts (Mb.listT ts.length))) w9) := HST8.out.far hb9
          have HB9 : Hid (Below w.heap.size w w9) := HB8.out.trans (hb9.mono HB8.out.size)
          have gT := told_yes (cap := gcap) (kc := lc) hga HST9.out.ow.kn hn8.out (HE.out.below HB9.out (Nat.le_refl _)).env
          clear gG hgo hb9 hga HST8 HB8
          go_wp2_with fail
          refine gT.mono ?_
          rintro e w10 ⟨rfl, hb10⟩
          have HST10 : Hid (SuSt w.heap.size Ks2 Kd2 (.slice la ts.length lc) ts ts s2 role2 V2 (Mb.newDk (Mb.fsOf ts (Mb.listT ts.length))) w10) := HST9.out.far hb10
          have HB10 : Hid (Below w.heap.size w w10) := HB9.out.trans (hb10.mono HB9.out.size)
          clear gT hb10 HST9 HB9
          go_wp2_with fail
          exact ⟨⟨k + 1, ts, Ks2, Kd2, s2, role2, V2, (Mb.newDk (Mb.fsOf ts (Mb.listT ts.length))), by omega, by simp, rfl, rfl, hn8, ht, HST10, HOK11, HB10⟩, by simp [RowKit.intOf]; omega⟩
      · have hsh : ¬ (40 : Int) < (tx.size : Int) := by rw [Lib.size_eq]; omega
        have hsl : tx.data.toList.length ≤ 40 := by omega
        by_cases hfull : ts.length = 8
        · have gD := deliver_full hst.out.sv tx hsl hfull
          have hf1 : (8 : Int) ≤ (ts.length : Int) := by omega
          have HF := Lib.hid hfull
          clear hfull hlong
          go_wp2_with fail
          refine gD.mono ?_
          rintro e w4 ⟨rfl, hsv, hstep⟩
          have HB4 : Hid (Below w.heap.size w w4) := hbl.out.trans (hstep.base hst.out.sv hst.out.lo)
          have HST4 : Hid (SuSt w.heap.size Ks Kd (.slice la ts.length lc) ts ts s role V D w4) := hst.out.serve hsv hstep
          have HOK4 := hok
          clear gD hsv hstep hst hok hbl q0
          cases cr with
          | false =>
            have r1 : w4.cell? ⟨pb, po + k * 3 + 1, none⟩ = some (.bool false) := (HB4.out.cell (p := ⟨pb, po + k * 3 + 1, none⟩) hpb).trans P1.out
            have r0 : w4.cell? ⟨pb, po + k * 3, none⟩ = some (.string tx) := (HB4.out.cell (p := ⟨pb, po + k * 3, none⟩) hpb).trans P0.out
            go_wp2_with (go_at_call 8; refine (doAll_none w4).mono ?_; rintro e w' ⟨rfl, hw'⟩; subst w')
            have gF := files_any HST4.out.sv (fun w' hb' => (HE.out.below (HB4.out.trans hb') (Nat.le_refl _)).env) hn8.out
            go_wp2_with fail
            refine gF.mono ?_
            rintro e w7 ⟨⟨fv, fys, rfl, hso, hfo⟩, hsv7, hst7⟩
            have hys := Mb.server_files hn8.out hso
            subst hys
            obtain ⟨fa, fcap, hfv, _, hfa, _⟩ := OwnF.form hfo
            rw [Mb.fsOf_len] at hfv
            subst hfv
            have HST7 : Hid (SuSt w.heap.size Ks Kd (.slice la ts.length lc) ts ts s role V D w7) := HST4.out.serve hsv7 hst7
            have HB7 : Hid (Below w.heap.size w w7) := HB4.out.trans (hst7.base HST4.out.sv HST4.out.lo)
            have gT := told_yes (cap := fcap) (kc := lc) hfa HST7.out.ow.kn hn8.out (HE.out.below HB7.out (Nat.le_refl _)).env
            clear gF hso hfo hsv7 hst7 hfa HST4 HB4
            go_wp2_with fail
            refine gT.mono ?_
            rintro e w8 ⟨rfl, hb8⟩
            have HST8 : Hid (SuSt w.heap.size Ks Kd (.slice la ts.length lc) ts ts s role V D w8) := HST7.out.far hb8
            have HB8 : Hid (Below w.heap.size w w8) := HB7.out.trans (hb8.mono HB7.out.size)
            have gG := diskFiles_any HST8.out.dk HOK4.out.safe.good (by rw [HOK4.out.names]; have := hn8.out; omega) (by rw [HOK4.out.files]; exact Mb.fsOf_inOrder _ _ hn8.out)
            rw [HOK4.out.files] at gG
            clear gT hb8 HST7 HB7
            go_wp2_with fail
            refine gG.mono ?_
            rintro e w9 ⟨⟨gv, rfl, hgo⟩, hb9⟩
            obtain ⟨ga, gcap, hgv, _, hga, _⟩ := OwnF.form hgo
            rw [Mb.fsOf_len] at hgv
            subst hgv
            have HST9 : Hid (SuSt w.heap.size Ks Kd (.slice la ts.length lc) ts ts s role V D w9) := HST8.out.far hb9
            have HB9 : Hid (Below w.heap.size w w9) := HB8.out.trans (hb9.mono HB8.out.size)
            have gT := told_yes (cap := gcap) (kc := lc) hga HST9.out.ow.kn hn8.out (HE.out.below HB9.out (Nat.le_refl _)).env
            clear gG hgo hb9 hga HST8 HB8
            go_wp2_with fail
            refine gT.mono ?_
            rintro e w10 ⟨rfl, hb10⟩
            have HST10 : Hid (SuSt w.heap.size Ks Kd (.slice la ts.length lc) ts ts s role V D w10) := HST9.out.far hb10
            have HB10 : Hid (Below w.heap.size w w10) := HB9.out.trans (hb10.mono HB9.out.size)
            clear gT hb10 HST9 HB9
            go_wp2_with fail
            exact ⟨⟨k + 1, ts, Ks, Kd, s, role, V, D, by omega, by simp, rfl, rfl, hn8, ht, HST10, HOK4, HB10⟩, by simp [RowKit.intOf]; omega⟩
          | true =>
            have r1 : w4.cell? ⟨pb, po + k * 3 + 1, none⟩ = some (.bool true) := (HB4.out.cell (p := ⟨pb, po + k * 3 + 1, none⟩) hpb).trans P1.out
            have r2 : w4.cell? ⟨pb, po + k * 3 + 2, none⟩ = some (.slice pa pn pc) := (HB4.out.cell (p := ⟨pb, po + k * 3 + 2, none⟩) hpb).trans P2.out
            have r0 : w4.cell? ⟨pb, po + k * 3, none⟩ = some (.string tx) := (HB4.out.cell (p := ⟨pb, po + k * 3, none⟩) hpb).trans P0.out
            go_wp2_with (go_at_call 8; refine (doAll_none w4).mono ?_; rintro e w' ⟨rfl, hw'⟩; subst w')
            have gA := again_ok HST4.out.dk HOK4.out hn8.out ht.out (HE.out.below HB4.out (Nat.le_refl _)) pa pn pc (HI.out.below HB4.out (Nat.le_refl _)) HPn.out
            go_wp2_with fail
            refine gA.mono ?_
            rintro e w11 ⟨⟨Ks2, s2, Kd2, role2, V2, rfl, hs2, hd2, ha2⟩, hb11⟩
            have HST11 : Hid (SuSt w.heap.size Ks2 Kd2 (.slice la ts.length lc) ts ts s2 role2 V2 (Mb.newDk (Mb.fsOf ts (Mb.listT ts.length))) w11) := HST4.out.anew hb11 hs2 hd2 ha2
            have HB11 : Hid (Below w.heap.size w w11) := HB4.out.trans (hb11.mono HB4.out.size)
            have HOK11 : Hid (Mb.DkOk (Mb.newDk (Mb.fsOf ts (Mb.listT ts.length))) ts) := Mb.newDk_ok hn8.out ht.out
            clear gA hs2 hd2 ha2 hb11 HST4 HB4 HOK4
            have gF := files_any HST11.out.sv (fun w' hb' => (HE.out.below (HB11.out.trans hb') (Nat.le_refl _)).env) hn8.out
            go_wp2_with fail
            refine gF.mono ?_
            rintro e w7 ⟨⟨fv, fys, rfl, hso, hfo⟩, hsv7, hst7⟩
            have hys := Mb.server_files hn8.out hso
            subst hys
            obtain ⟨fa, fcap, hfv, _, hfa, _⟩ := OwnF.form hfo
            rw [Mb.fsOf_len] at hfv
            subst hfv
            have HST7 : Hid (SuSt w.heap.size Ks2 Kd2 (.slice la ts.length lc) ts ts s2 role2 V2 (Mb.newDk (Mb.fsOf ts (Mb.listT ts.length))) w7) := HST11.out.serve hsv7 hst7
            have HB7 : Hid (Below w.heap.size w w7) := HB11.out.trans (hst7.base HST11.out.sv HST11.out.lo)
            have gT := told_yes (cap := fcap) (kc := lc) hfa HST7.out.ow.kn hn8.out (HE.out.below HB7.out (Nat.le_refl _)).env
            clear gF hso hfo hsv7 hst7 hfa HST11 HB11
            go_wp2_with fail
            refine gT.mono ?_
            rintro e w8 ⟨rfl, hb8⟩
            have HST8 : Hid (SuSt w.heap.size Ks2 Kd2 (.slice la ts.length lc) ts ts s2 role2 V2 (Mb.newDk (Mb.fsOf ts (Mb.listT ts.length))) w8) := HST7.out.far hb8
            have HB8 : Hid (Below w.heap.size w w8) := HB7.out.trans (hb8.mono HB7.out.size)
            have gG := diskFiles_any HST8.out.dk HOK11.out.safe.good (by rw [HOK11.out.names]; have := hn8.out; omega) (by rw [HOK11.out.files]; exact Mb.fsOf_inOrder _ _ hn8.out)
            rw [HOK11.out.files] at gG
            clear gT hb8 HST7 HB7
            go_wp2_with fail
            refine gG.mono ?_
            rintro e w9 ⟨⟨gv, rfl, hgo⟩, hb9⟩
            obtain ⟨ga, gcap, hgv, _, hga, _⟩ := OwnF.form hgo
            rw [Mb.fsOf_len] at hgv
            subst hgv
            have HST9 : Hid (SuSt w.heap.size Ks2 Kd2 (.slice la ts.length lc) ts ts s2 role2 V2 (Mb.newDk (Mb.fsOf ts (Mb.listT ts.length))) w9) := HST8.out.far hb9
            have HB9 : Hid (Below w.heap.size w w9) := HB8.out.trans (hb9.mono HB8.out.size)
            have gT := told_yes (cap := gcap) (kc := lc) hga HST9.out.ow.kn hn8.out (HE.out.below HB9.out (Nat.le_refl _)).env
            clear gG hgo hb9 hga HST8 HB8
            go_wp2_with fail
            refine gT.mono ?_
            rintro e w10 ⟨rfl, hb10⟩
            have HST10 : Hid (SuSt w.heap.size Ks2 Kd2 (.slice la ts.length lc) ts ts s2 role2 V2 (Mb.newDk (Mb.fsOf ts (Mb.listT ts.length))) w10) := HST9.out.far hb10
            have HB10 : Hid (Below w.heap.size w w10) := HB9.out.trans (hb10.mono HB9.out.size)
            clear gT hb10 HST9 HB9
            go_wp2_with fail
            exact ⟨⟨k + 1, ts, Ks2, Kd2, s2, role2, V2, (Mb.newDk (Mb.fsOf ts (Mb.listT ts.length))), by omega, by simp, rfl, rfl, hn8, ht, HST10, HOK11, HB10⟩, by simp [RowKit.intOf]; omega⟩
        · have hn7 : ts.length < 8 := by have := hn8.out; omega
          have gD := deliver_ok hst.out.sv hst.out.lo (fun w' hb' => (HE.out.below (hbl.out.trans hb') (Nat.le_refl _)).env) tx hsl hn7
          obtain ⟨E, hsteps, hokE⟩ := Mb.deliver_steps hok.out hn7 tx.data.toList hsl
          have hsm := hok.out.sm (by omega)
          have HSteps := Lib.hid hsteps
          have HOKE := Lib.hid hokE
          have HSM := Lib.hid hsm
          have HTN : Hid (∀ t ∈ ts ++ [tx.data.toList], t.length ≤ 40) := fun t h => by
            rw [List.mem_append, List.mem_singleton] at h
            rcases h with h | h
            · exact ht.out t h
            · rw [h]; exact hsl
          have HLN : Hid ((ts ++ [tx.data.toList]).length ≤ 8) := by unfold Hid; simp; omega
          clear hfull hlong hsteps hokE hsm
          go_wp2_with fail
          refine gD.mono ?_
          rintro e w4 ⟨⟨va, rfl, hva⟩, s', hsv, hstep⟩
          obtain ⟨ab, aoff, ac, hvv, hab, hac, hage⟩ : ∃ ab aoff ac, va = .slice (some ⟨ab, aoff, none⟩) 10 ac ∧ ab < w4.heap.size ∧ AcsAt w4 ab aoff (Mb.putActs ([105, 110, 47] ++ Lib.itoa ((ts.length + 1 : Nat) : Int) ++ [46]) tx.data.toList ++ Mb.putActs [105, 110, 47, 108, 105, 115, 116] (Mb.listT (ts.length + 1))) ∧ wr.heap.size ≤ ab := OwnA.acts hva rfl
          subst hvv
          have hfoot : ¬ V.foot Kd ab := fun hf => by have := (hst.out.dk.flt ab hf).2; omega
          have hst4 := hst.out.serve hsv hstep
          have gX := doAll_some hst4.dk hst4.lo ab aoff ac _ hab hfoot hac HSteps.out 100 HSM.out (by simp [Mb.putActs])
          rw [show (Mb.putActs ([105, 110, 47] ++ Lib.itoa ((ts.length + 1 : Nat) : Int) ++ [46]) tx.data.toList ++ Mb.putActs [105, 110, 47, 108, 105, 115, 116] (Mb.listT (ts.length + 1))).length = 10 from rfl] at gX
          have HB4 : Hid (Below w.heap.size w w4) := hbl.out.trans (hstep.base hst.out.sv hst.out.lo)
          have HST4 := Lib.hid hst4
          clear gD hsv hstep hst hst4 hok hbl q0 hva hab hac hage hfoot
          go_wp2_with fail
          refine gX.mono ?_
          rintro e w5 ⟨rfl, role', V', hd5, hp5⟩
          have HST5 : Hid (SuSt w.heap.size Ks Kd (.slice la ts.length lc) ts (ts ++ [tx.data.toList]) s' role' V' E w5) := HST4.out.disk hd5 hp5
          have HB5 : Hid (Below w.heap.size w w5) := HB4.out.trans (hp5.low HST4.out.dk HST4.out.lo)
          have r0 : w5.cell? ⟨pb, po + k * 3, none⟩ = some (.string tx) := (HB5.out.cell (p := ⟨pb, po + k * 3, none⟩) hpb).trans P0.out
          have hls : (ts.length : Int) < 8 := by omega
          have hls' : ¬ (8 : Int) ≤ (ts.length : Int) := by omega
          have hraw : w5.ownsRow w.heap.size 40 2 (.slice la ts.length lc) ts.length (Mb.knCells 1 ts) := HST5.out.ow
          have hownA := hraw.alloc (.cells #[.int .i64 ((ts.length : Int) + 1), .string tx] 40)
          have hlo5 := HST5.out.lo
          clear gX hd5 hp5 HST4 HB4 hraw
          go_wp2_with (at_builtin; refine wpList_append_lies _ rfl (.tmp 54) (.tmp 62) 30 rfl w.heap.size 40 i0 (.agg #[.int .i64 0, .string ByteArray.empty]) 2 24 Tryz.underlying30 hi hz0 hz1 hz2 rfl (by decide) (.slice la ts.length lc) ts.length (Mb.knCells 1 ts) rfl hownA ⟨w5.heap.size, 0, none⟩ 1 1 [.int .i64 ((ts.length : Int) + 1), .string tx] rfl rfl (World.news_of_block (cs := #[.int .i64 ((ts.length : Int) + 1), .string tx]) (t := 40) (fr := (0, 0)) (heap_alloc_new w5 _)) (by simp [Value.oneCell']) (by decide) (by unfold maxLen; omega) (by omega) (by simp; omega) (w5.heap.size + 1) (by simp) ?_)
          intro g gc w6 hown6 hgrow6 hat6 hlt6
          have hO6 : OwnK w6 w.heap.size (.slice (some ⟨g, 0, none⟩) (ts.length + 1) gc) (ts ++ [tx.data.toList]) := by
            unfold OwnK
            rw [Mb.knCells_snoc, List.length_append, Nat.add_comm 1 ts.length]
            exact hown6
          have HST6 : Hid (SuSt w.heap.size Ks Kd (.slice (some ⟨g, 0, none⟩) (ts.length + 1) gc) (ts ++ [tx.data.toList]) (ts ++ [tx.data.toList]) s' role' V' E w6) := HST5.out.more hgrow6 hO6 (hat6.imp id (fun h => by omega))
          have HB6 : Hid (Below w.heap.size w w6) := HB5.out.trans (HST5.out.more_low hgrow6)
          have HTL : Hid ((ts ++ [tx.data.toList]).length = ts.length + 1) := by unfold Hid; simp
          clear hown6 hgrow6 hat6 hlt6 hO6 HST5 HB5 hownA r0
          cases cr with
          | false =>
            have r1 : w6.cell? ⟨pb, po + k * 3 + 1, none⟩ = some (.bool false) := (HB6.out.cell (p := ⟨pb, po + k * 3 + 1, none⟩) hpb).trans P1.out
            go_wp2_with fail
            have gF := files_any HST6.out.sv (fun w' hb' => (HE.out.below (HB6.out.trans hb') (Nat.le_refl _)).env) HLN.out
            go_wp2_with fail
            refine gF.mono ?_
            rintro e w7 ⟨⟨fv, fys, rfl, hso, hfo⟩, hsv7, hst7⟩
            have hys := Mb.server_files HLN.out hso
            subst hys
            obtain ⟨fa, fcap, hfv, _, hfa, _⟩ := OwnF.form hfo
            rw [Mb.fsOf_len] at hfv
            rw [HTL.out] at hfv
            subst hfv
            have HST7 : Hid (SuSt w.heap.size Ks Kd (.slice (some ⟨g, 0, none⟩) (ts.length + 1) gc) (ts ++ [tx.data.toList]) (ts ++ [tx.data.toList]) s' role' V' E w7) := HST6.out.serve hsv7 hst7
            have HB7 : Hid (Below w.heap.size w w7) := HB6.out.trans (hst7.base HST6.out.sv HST6.out.lo)
            have gT := told_yes (cap := fcap) (kc := gc) hfa HST7.out.ow.kn HLN.out (HE.out.below HB7.out (Nat.le_refl _)).env
            rw [HTL.out] at gT
            clear gF hso hfo hsv7 hst7 hfa HST6 HB6
            go_wp2_with fail
            refine gT.mono ?_
            rintro e w8 ⟨rfl, hb8⟩
            have HST8 : Hid (SuSt w.heap.size Ks Kd (.slice (some ⟨g, 0, none⟩) (ts.length + 1) gc) (ts ++ [tx.data.toList]) (ts ++ [tx.data.toList]) s' role' V' E w8) := HST7.out.far hb8
            have HB8 : Hid (Below w.heap.size w w8) := HB7.out.trans (hb8.mono HB7.out.size)
            have gG := diskFiles_any HST8.out.dk HOKE.out.safe.good (by rw [HOKE.out.names]; have := HLN.out; omega) (by rw [HOKE.out.files]; exact Mb.fsOf_inOrder _ _ HLN.out)
            rw [HOKE.out.files] at gG
            clear gT hb8 HST7 HB7
            go_wp2_with fail
            refine gG.mono ?_
            rintro e w9 ⟨⟨gv, rfl, hgo⟩, hb9⟩
            obtain ⟨ga, gcap, hgv, _, hga, _⟩ := OwnF.form hgo
            rw [Mb.fsOf_len] at hgv
            rw [HTL.out] at hgv
            subst hgv
            have HST9 : Hid (SuSt w.heap.size Ks Kd (.slice (some ⟨g, 0, none⟩) (ts.length + 1) gc) (ts ++ [tx.data.toList]) (ts ++ [tx.data.toList]) s' role' V' E w9) := HST8.out.far hb9
            have HB9 : Hid (Below w.heap.size w w9) := HB8.out.trans (hb9.mono HB8.out.size)
            have gT := told_yes (cap := gcap) (kc := gc) hga HST9.out.ow.kn HLN.out (HE.out.below HB9.out (Nat.le_refl _)).env
            rw [HTL.out] at gT
            clear gG hgo hb9 hga HST8 HB8
            go_wp2_with fail
            refine gT.mono ?_
            rintro e w10 ⟨rfl, hb10⟩
            have HST10 : Hid (SuSt w.heap.size Ks Kd (.slice (some ⟨g, 0, none⟩) (ts.length + 1) gc) (ts ++ [tx.data.toList]) (ts ++ [tx.data.toList]) s' role' V' E w10) := HST9.out.far hb10
            have HB10 : Hid (Below w.heap.size w w10) := HB9.out.trans (hb10.mono HB9.out.size)
            clear gT hb10 HST9 HB9
            go_wp2_with fail
            exact ⟨⟨k + 1, (ts ++ [tx.data.toList]), Ks, Kd, s', role', V', E, by omega, by simp, rfl, rfl, HLN, HTN, HST10, HOKE, HB10⟩, by simp [RowKit.intOf]; omega⟩
          | true =>
            have r1 : w6.cell? ⟨pb, po + k * 3 + 1, none⟩ = some (.bool true) := (HB6.out.cell (p := ⟨pb, po + k * 3 + 1, none⟩) hpb).trans P1.out
            have r2 : w6.cell? ⟨pb, po + k * 3 + 2, none⟩ = some (.slice pa pn pc) := (HB6.out.cell (p := ⟨pb, po + k * 3 + 2, none⟩) hpb).trans P2.out
            go_wp2_with fail
            have gA := again_ok HST6.out.dk HOKE.out HLN.out HTN.out (HE.out.below HB6.out (Nat.le_refl _)) pa pn pc (HI.out.below HB6.out (Nat.le_refl _)) HPn.out
            go_wp2_with fail
            refine gA.mono ?_
            rintro e w11 ⟨⟨Ks2, s2, Kd2, role2, V2, rfl, hs2, hd2, ha2⟩, hb11⟩
            have HST11 : Hid (SuSt w.heap.size Ks2 Kd2 (.slice (some ⟨g, 0, none⟩) (ts.length + 1) gc) (ts ++ [tx.data.toList]) (ts ++ [tx.data.toList]) s2 role2 V2 (Mb.newDk (Mb.fsOf (ts ++ [tx.data.toList]) (Mb.listT (ts ++ [tx.data.toList]).length))) w11) := HST6.out.anew hb11 hs2 hd2 ha2
            have HB11 : Hid (Below w.heap.size w w11) := HB6.out.trans (hb11.mono HB6.out.size)
            have HOK11 : Hid (Mb.DkOk (Mb.newDk (Mb.fsOf (ts ++ [tx.data.toList]) (Mb.listT (ts ++ [tx.data.toList]).length))) (ts ++ [tx.data.toList])) := Mb.newDk_ok HLN.out HTN.out
            clear gA hs2 hd2 ha2 hb11 HST6 HB6 HOKE
            have gF := files_any HST11.out.sv (fun w' hb' => (HE.out.below (HB11.out.trans hb') (Nat.le_refl _)).env) HLN.out
            go_wp2_with fail
            refine gF.mono ?_
            rintro e w7 ⟨⟨fv, fys, rfl, hso, hfo⟩, hsv7, hst7⟩
            have hys := Mb.server_files HLN.out hso
            subst hys
            obtain ⟨fa, fcap, hfv, _, hfa, _⟩ := OwnF.form hfo
            rw [Mb.fsOf_len] at hfv
            rw [HTL.out] at hfv
            subst hfv
            have HST7 : Hid (SuSt w.heap.size Ks2 Kd2 (.slice (some ⟨g, 0, none⟩) (ts.length + 1) gc) (ts ++ [tx.data.toList]) (ts ++ [tx.data.toList]) s2 role2 V2 (Mb.newDk (Mb.fsOf (ts ++ [tx.data.toList]) (Mb.listT (ts ++ [tx.data.toList]).length))) w7) := HST11.out.serve hsv7 hst7
            have HB7 : Hid (Below w.heap.size w w7) := HB11.out.trans (hst7.base HST11.out.sv HST11.out.lo)
            have gT := told_yes (cap := fcap) (kc := gc) hfa HST7.out.ow.kn HLN.out (HE.out.below HB7.out (Nat.le_refl _)).env
            rw [HTL.out] at gT
            clear gF hso hfo hsv7 hst7 hfa HST11 HB11
            go_wp2_with fail
            refine gT.mono ?_
            rintro e w8 ⟨rfl, hb8⟩
            have HST8 : Hid (SuSt w.heap.size Ks2 Kd2 (.slice (some ⟨g, 0, none⟩) (ts.length + 1) gc) (ts ++ [tx.data.toList]) (ts ++ [tx.data.toList]) s2 role2 V2 (Mb.newDk (Mb.fsOf (ts ++ [tx.data.toList]) (Mb.listT (ts ++ [tx.data.toList]).length))) w8) := HST7.out.far hb8
            have HB8 : Hid (Below w.heap.size w w8) := HB7.out.trans (hb8.mono HB7.out.size)
            have gG := diskFiles_any HST8.out.dk HOK11.out.safe.good (by rw [HOK11.out.names]; have := HLN.out; omega) (by rw [HOK11.out.files]; exact Mb.fsOf_inOrder _ _ HLN.out)
            rw [HOK11.out.files] at gG
            clear gT hb8 HST7 HB7
            go_wp2_with fail
            refine gG.mono ?_
            rintro e w9 ⟨⟨gv, rfl, hgo⟩, hb9⟩
            obtain ⟨ga, gcap, hgv, _, hga, _⟩ := OwnF.form hgo
            rw [Mb.fsOf_len] at hgv
            rw [HTL.out] at hgv
            subst hgv
            have HST9 : Hid (SuSt w.heap.size Ks2 Kd2 (.slice (some ⟨g, 0, none⟩) (ts.length + 1) gc) (ts ++ [tx.data.toList]) (ts ++ [tx.data.toList]) s2 role2 V2 (Mb.newDk (Mb.fsOf (ts ++ [tx.data.toList]) (Mb.listT (ts ++ [tx.data.toList]).length))) w9) := HST8.out.far hb9
            have HB9 : Hid (Below w.heap.size w w9) := HB8.out.trans (hb9.mono HB8.out.size)
            have gT := told_yes (cap := gcap) (kc := gc) hga HST9.out.ow.kn HLN.out (HE.out.below HB9.out (Nat.le_refl _)).env
            rw [HTL.out] at gT
            clear gG hgo hb9 hga HST8 HB8
            go_wp2_with fail
            refine gT.mono ?_
            rintro e w10 ⟨rfl, hb10⟩
            have HST10 : Hid (SuSt w.heap.size Ks2 Kd2 (.slice (some ⟨g, 0, none⟩) (ts.length + 1) gc) (ts ++ [tx.data.toList]) (ts ++ [tx.data.toList]) s2 role2 V2 (Mb.newDk (Mb.fsOf (ts ++ [tx.data.toList]) (Mb.listT (ts ++ [tx.data.toList]).length))) w10) := HST9.out.far hb10
            have HB10 : Hid (Below w.heap.size w w10) := HB9.out.trans (hb10.mono HB9.out.size)
            clear gT hb10 HST9 HB9
            go_wp2_with fail
            exact ⟨⟨k + 1, (ts ++ [tx.data.toList]), Ks2, Kd2, s2, role2, V2, (Mb.newDk (Mb.fsOf (ts ++ [tx.data.toList]) (Mb.listT (ts ++ [tx.data.toList]).length))), by omega, by simp, rfl, rfl, HLN, HTN, HST10, HOK11, HB10⟩, by simp [RowKit.intOf]; omega⟩
    · by_cases hfull : ts.length = 8
      · have gD := deliver_full hst.out.sv ⟨#[]⟩ (by decide) hfull
        have hf1 : ¬ (ts.length : Int) < 8 := by omega
        go_wp2_with fail
        refine gD.mono ?_
        rintro e w4 ⟨rfl, hsv, hstep⟩
        have HB4 : Hid (Below w.heap.size w w4) := hbl.out.trans (hstep.base hst.out.sv hst.out.lo)
        clear gD hsv hstep hst hok hbl
        go_wp2_with fail
        go_ret
        exact ⟨rfl, HB4.out⟩
      · have hn7 : ts.length < 8 := by have := hn8.out; omega
        have gD := deliver_ok hst.out.sv hst.out.lo (fun w' hb' => (HE.out.below (hbl.out.trans hb') (Nat.le_refl _)).env) ⟨#[]⟩ (by decide) hn7
        have hf1 : (ts.length : Int) < 8 := by omega
        go_wp2_with fail
        refine gD.mono ?_
        rintro e w4 ⟨⟨va, rfl, _⟩, s', hsv, hstep⟩
        have HB4 : Hid (Below w.heap.size w w4) := hbl.out.trans (hstep.base hst.out.sv hst.out.lo)
        clear gD hsv hstep hst hok hbl
        go_wp2_with fail
        go_ret
        exact ⟨rfl, HB4.out⟩
end Go.Proofs.YtamglanahpcedaaGreatDoor
