/-
  OWN TEXT: mailbagkeep.lawful.
-/
import Derived.Test.YtldgiecjnmkajaaDoorListRank
import Derived.Test.YtldgiecjnmkajaaDoorListWalkJ
namespace Go.Proofs.YtldgiecjnmkajaaDoor
open Go.RowKit

set_option maxRecDepth 100000 in
set_option maxHeartbeats 4000000 in
theorem lawful_some (e n : Int) (b off cap : Nat) (xs : List Mb.Ent) (w : World) (hb : b < w.heap.size) (hc : EntsAt w b off xs) (hf : ∀ x ∈ xs, x.flags.length ≤ maxLen)
    (h1 : 1 ≤ e) (h2 : e ≤ 99) (h3 : 1 ≤ n) (h4 : n ≤ 100) (h5 : xs.length ≤ 8) :
    Calls Tryd.prog 11 #[.agg #[.int .i64 e, .int .i64 n, .slice (some ⟨b, off, none⟩) xs.length cap]] w fun r w' => r = .returned (.bool (Mb.entsOk n [] 0 xs)) ∧ Below w.heap.size w w' := by
  have d1 : decide (e < 1) = false := by simp; omega
  have d2 : decide (99 < e) = false := by simp; omega
  have d3 : decide (n < 1) = false := by simp; omega
  have d4 : decide (100 < n) = false := by simp; omega
  have d5 : decide ((8 : Int) < (xs.length : Int)) = false := by simp; omega
  clear h1 h2 h3 h4
  go_enter Tryd.func11, Tryd.ntmps11
  go_wp2_with fail
  clear d1 d2 d3 d4 d5
  go_loopw [3] (fun i wr => ∃ (k : Nat), k ≤ xs.length ∧ i = .int .i64 k ∧ Hid (Mb.entsOk n [] 0 xs = Mb.entsOk n (xs.take k) (lastOf (xs.take k) 0) (xs.drop k)) ∧ Hid (Rising (xs.take k)) ∧ Below (w.heap.size + 1) (w.alloc (.cells #[.int .i64 e, .int .i64 n, .slice (some ⟨b, off, none⟩) xs.length cap] 31)) wr) (fun i _ => xs.length - (intOf i).toNat)
  case atStart => exact ⟨0, Nat.zero_le _, rfl, rfl, Rising.nil, Below.refl _ _⟩
  case round =>
    obtain ⟨k, hk, rfl, HE, HR, hbl⟩ := hrel
    obtain ⟨wo, rfl⟩ : ∃ wo : World, wo = wr := ⟨_, rfl⟩
    have hsz := hbl.size
    have hsz : w.heap.size < wo.heap.size := by simp at hsz; omega
    have hbw : Below w.heap.size w wo := ((Below.refl _ _).alloc (Nat.le_refl _) _).trans (hbl.mono (by omega))
    have l1 : wo.cell? ⟨w.heap.size, 1, none⟩ = some (.int .i64 n) := (hbl.cell (p := ⟨w.heap.size, 1, none⟩) (by simp)).trans (by simp)
    have l2 : wo.cell? ⟨w.heap.size, 2, none⟩ = some (.slice (some ⟨b, off, none⟩) xs.length cap) := (hbl.cell (p := ⟨w.heap.size, 2, none⟩) (by simp)).trans (by simp)
    by_cases hlt : k < xs.length
    · obtain ⟨c0, c1, c2⟩ := hc k xs[k] (by simp [hlt])
      have e0 : wo.cell? ⟨b, off + k * 3, none⟩ = some (.int .i64 xs[k].key) := (hbw.cell (p := ⟨b, off + k * 3, none⟩) hb).trans c0
      have e1 : wo.cell? ⟨b, off + k * 3 + 1, none⟩ = some (.int .i64 xs[k].uid) := (hbw.cell (p := ⟨b, off + k * 3 + 1, none⟩) hb).trans c1
      have e2 : wo.cell? ⟨b, off + k * 3 + 2, none⟩ = some (.string ⟨xs[k].flags.toArray⟩) := (hbw.cell (p := ⟨b, off + k * 3 + 2, none⟩) hb).trans c2
      have HX : Hid (Mb.entsOk n [] 0 xs = (decide (1 ≤ xs[k].key) && decide (xs[k].key ≤ 999) && decide (1 ≤ xs[k].uid) && decide (xs[k].uid < n) && Mb.flagsOk xs[k].flags && apartB xs[k] (xs.take k) && Mb.entsOk n (xs.take (k + 1)) (lastOf (xs.take (k + 1)) 0) (xs.drop (k + 1)))) := by
        unfold Hid
        rw [HE.out, List.drop_eq_getElem_cons hlt, entsOk_step n HR.out, List.take_succ_eq_append_getElem hlt]
      have HRS : Hid (lastOf (xs.take k) 0 < xs[k].uid → Rising (xs.take (k + 1))) := by
        unfold Hid
        intro h; rw [List.take_succ_eq_append_getElem hlt]; exact HR.out.snoc h
      have HAP : Hid (1 ≤ xs[k].uid → apartB xs[k] (xs.take k) = true → lastOf (xs.take k) 0 < xs[k].uid) := by
        unfold Hid
        intro h h'
        rw [← apart_iff HR.out _ h, Bool.and_eq_true, decide_eq_true_eq] at h'
        exact h'.1
      have hfl := hf xs[k] (List.getElem_mem hlt)
      clear c0 c1 c2 HE HR
      have HBL : Hid (Below (w.heap.size + 1) (w.alloc (.cells #[.int .i64 e, .int .i64 n, .slice (some ⟨b, off, none⟩) xs.length cap] 31)) wo) := hbl
      clear hbl
      generalize hx : xs[k] = x at *
      clear hx
      obtain ⟨bF, HbF, HbF'⟩ := named_bytes x.flags
      rw [← HbF.out] at e2
      have hbs : bF.size ≤ 9223372036854775807 := by rw [Lib.size_eq, HbF'.out]; unfold maxLen at hfl; omega
      have hret : ∀ (r : Bool), Hid (r = Mb.entsOk n [] 0 xs → Ending.returned (.bool r) = .returned (.bool (Mb.entsOk n [] 0 xs))) := fun r h => by rw [h]
      by_cases t1 : x.key < 1
      · have HF : Hid (Mb.entsOk n [] 0 xs = false) := by unfold Hid; rw [HX.out]; simp; omega
        go_wp2
        go_ret
        exact ⟨ret_bool HF.out.symm, hbw.alloc (by omega) _⟩
      by_cases t2 : 999 < x.key
      · have HF : Hid (Mb.entsOk n [] 0 xs = false) := by unfold Hid; rw [HX.out]; simp; omega
        go_wp2
        go_ret
        exact ⟨ret_bool HF.out.symm, hbw.alloc (by omega) _⟩
      by_cases t3 : x.uid < 1
      · have HF : Hid (Mb.entsOk n [] 0 xs = false) := by unfold Hid; rw [HX.out]; simp; omega
        go_wp2
        go_ret
        exact ⟨ret_bool HF.out.symm, hbw.alloc (by omega) _⟩
      by_cases t4 : n ≤ x.uid
      · have HF : Hid (Mb.entsOk n [] 0 xs = false) := by unfold Hid; rw [HX.out]; simp; omega
        go_wp2
        go_ret
        exact ⟨ret_bool HF.out.symm, hbw.alloc (by omega) _⟩
      clear hret
      go_wp2_with fail
      go_loop [5, 6] (fun t i => ∃ (j : Nat) (last : Int), j ≤ bF.size ∧ i = .int .i64 j ∧ t = .int .i64 last ∧ Hid (Mb.flagsOk x.flags = Mb.flagsFrom last (x.flags.drop j))) (fun _ i => bF.size - (intOf i).toNat)
      case atStart => exact ⟨0, -1, Nat.zero_le _, rfl, rfl, rfl⟩
      case round =>
        obtain ⟨j, last, hj, rfl, rfl, HF⟩ := hrel
        by_cases hjl : j < bF.size
        · have gr := fun W => rank_any bF[j] W
          have HC : Hid (Mb.flagsFrom last (x.flags.drop j) = (decide (last < Mb.rankOf bF[j]) && Mb.flagsFrom (Mb.rankOf bF[j]) (x.flags.drop (j + 1)))) := by
            unfold Hid
            rw [← HbF'.out, drop_cons bF j hjl]; rfl
          generalize Mb.rankOf bF[j] = rk at gr HC
          by_cases hle : rk ≤ last
          · have HN : Hid (Mb.entsOk n [] 0 xs = false) := by
              unfold Hid
              have : decide (last < rk) = false := by simp; omega
              rw [HX.out, HF.out, HC.out, this]; simp
            go_wp2_with fail
            refine (gr _).mono ?_
            rintro e' w' ⟨rfl, rfl⟩
            clear gr
            go_wp2
            go_ret
            exact ⟨ret_bool HN.out.symm, hbw.alloc (by omega) _⟩
          · have HF' : Hid (Mb.flagsOk x.flags = Mb.flagsFrom rk (x.flags.drop (j + 1))) := by
              unfold Hid
              have : decide (last < rk) = true := by simp; omega
              rw [HF.out, HC.out, this]; simp
            go_wp2_with fail
            refine (gr _).mono ?_
            rintro e' w' ⟨rfl, rfl⟩
            clear gr
            go_wp2
            go_round
            case rel => exact ⟨j + 1, rk, by omega, by go_num, rfl, HF'⟩
            case measure => simp [intOf]; omega
        · have HFT : Hid (Mb.flagsOk x.flags = true) := by
            unfold Hid
            rw [HF.out, List.drop_of_length_le (by rw [← HbF'.out, ← Lib.size_eq]; omega)]; rfl
          clear HF
          go_wp2_with fail
          go_loopw [8] (fun i wr => ∃ (j : Nat), j ≤ k ∧ i = .int .i64 j ∧ Hid (apartB x ((xs.take k).take j) = true) ∧ Below (wo.heap.size + 1) (wo.alloc (.cells #[.int .i64 x.key, .int .i64 x.uid, .string bF] 35)) wr) (fun i _ => k - (intOf i).toNat)
          case atStart => exact ⟨0, Nat.zero_le _, rfl, rfl, Below.refl _ _⟩
          case round =>
            obtain ⟨i, hi, rfl, HA, hbo⟩ := hrel
            have hso : wo.heap.size < wr.heap.size := by have := hbo.size; simp at this; omega
            have hbr : Below wo.heap.size wo wr := ((Below.refl _ _).alloc (Nat.le_refl _) _).trans (hbo.mono (by omega))
            have hbwr : Below w.heap.size w wr := hbw.trans (hbr.mono (by omega))
            by_cases hik : i < k
            · have hix : i < xs.length := by omega
              obtain ⟨g0, g1, g2⟩ := hc i xs[i] (by simp [hix])
              have hNE := Later.some wr.heap.size wr
              have y0 : ∀ z : Later wr.heap.size wr, z.w.cell? ⟨b, off + i * 3, none⟩ = some (.int .i64 xs[i].key) := fun z => (z.h.cell (p := ⟨b, off + i * 3, none⟩) (by simp; omega)).trans ((hbwr.cell (p := ⟨b, off + i * 3, none⟩) hb).trans g0)
              have y1 : ∀ z : Later wr.heap.size wr, z.w.cell? ⟨b, off + i * 3 + 1, none⟩ = some (.int .i64 xs[i].uid) := fun z => (z.h.cell (p := ⟨b, off + i * 3 + 1, none⟩) (by simp; omega)).trans ((hbwr.cell (p := ⟨b, off + i * 3 + 1, none⟩) hb).trans g1)
              have y2 : ∀ z : Later wr.heap.size wr, z.w.cell? ⟨w.heap.size, 2, none⟩ = some (.slice (some ⟨b, off, none⟩) xs.length cap) := fun z => (z.h.cell (p := ⟨w.heap.size, 2, none⟩) (by simp; omega)).trans ((hbr.cell (p := ⟨w.heap.size, 2, none⟩) hsz).trans l2)
              have y3 : ∀ z : Later wr.heap.size wr, z.w.cell? ⟨wo.heap.size, 0, none⟩ = some (.int .i64 x.key) := fun z => (z.h.cell (p := ⟨wo.heap.size, 0, none⟩) hso).trans ((hbo.cell (p := ⟨wo.heap.size, 0, none⟩) (by simp)).trans (by simp))
              have y4 : ∀ z : Later wr.heap.size wr, z.w.cell? ⟨wo.heap.size, 1, none⟩ = some (.int .i64 x.uid) := fun z => (z.h.cell (p := ⟨wo.heap.size, 1, none⟩) hso).trans ((hbo.cell (p := ⟨wo.heap.size, 1, none⟩) (by simp)).trans (by simp))
              have HAi : Hid (apartB x ((xs.take k).take (i + 1)) = (apartB x ((xs.take k).take i) && (!(xs[i].key == x.key) && decide (xs[i].uid < x.uid)))) := by
                unfold Hid
                rw [List.take_succ_eq_append_getElem (by rw [List.length_take]; omega), apartB_snoc, List.getElem_take]
              have HNo : Hid ((!(xs[i].key == x.key) && decide (xs[i].uid < x.uid)) = false → apartB x (xs.take k) = false) := by
                unfold Hid
                intro h
                unfold apartB
                rw [List.all_eq_false]
                exact ⟨xs[i], by rw [List.mem_take_iff_getElem]; exact ⟨i, by omega, rfl⟩, by rw [h]; simp⟩
              have HBO : Hid (Below (wo.heap.size + 1) (wo.alloc (.cells #[.int .i64 x.key, .int .i64 x.uid, .string bF] 35)) wr) := hbo
              clear g0 g1 g2 hbo
              generalize xs[i] = y at *
              by_cases hke : (y.key == x.key) = true
              · have HN : Hid (Mb.entsOk n [] 0 xs = false) := by
                  unfold Hid
                  rw [HX.out, HNo.out (by rw [hke]; rfl)]; simp
                go_upto_region 20 with fail
                refine wp_region_later wr.heap.size (by kernel_rfl) (by kernel_rfl) ?_
                repeat (go_big_quiet_step (fail))
                refine wpQuiet_nil ?_
                intro _ hw'
                obtain ⟨z, rfl⟩ := hw'
                go_wp2
                go_ret
                exact ⟨ret_bool HN.out.symm, hbwr.trans (z.h.mono (by omega))⟩
              · have hke : (y.key == x.key) = false := by simpa using hke
                by_cases hue : x.uid ≤ y.uid
                · have hd : decide (x.uid ≤ y.uid) = true := by simpa using hue
                  have HN : Hid (Mb.entsOk n [] 0 xs = false) := by
                    unfold Hid
                    have : decide (y.uid < x.uid) = false := by simp; omega
                    rw [HX.out, HNo.out (by rw [this]; simp)]; simp
                  go_upto_region 20 with fail
                  refine wp_region_later wr.heap.size (by kernel_rfl) (by kernel_rfl) ?_
                  repeat (go_big_quiet_step (fail))
                  refine wpQuiet_nil ?_
                  intro _ hw'
                  obtain ⟨z, rfl⟩ := hw'
                  go_wp2
                  go_ret
                  exact ⟨ret_bool HN.out.symm, hbwr.trans (z.h.mono (by omega))⟩
                · have hd : decide (x.uid ≤ y.uid) = false := by simpa using hue
                  have HA' : Hid (apartB x ((xs.take k).take (i + 1)) = true) := by
                    unfold Hid
                    have : decide (y.uid < x.uid) = true := by simp; omega
                    rw [HAi.out, HA.out, hke, this]; rfl
                  go_upto_region 20 with fail
                  refine wp_region_later wr.heap.size (by kernel_rfl) (by kernel_rfl) ?_
                  repeat (go_big_quiet_step (fail))
                  refine wpQuiet_nil ?_
                  intro _ hw'
                  obtain ⟨z, rfl⟩ := hw'
                  go_wp2
                  go_roundw
                  case rel => exact ⟨i + 1, by omega, by go_num, HA', HBO.out.trans (z.h.mono (by omega))⟩
                  case measure => simp [intOf]; omega
            · have HAk : Hid (apartB x (xs.take k) = true) := by
                unfold Hid
                have e3 : (xs.take k).take i = xs.take k := List.take_of_length_le (by rw [List.length_take]; omega)
                rw [← e3]; exact HA.out
              have HE' : Hid (Mb.entsOk n [] 0 xs = Mb.entsOk n (xs.take (k + 1)) (lastOf (xs.take (k + 1)) 0) (xs.drop (k + 1))) := by
                unfold Hid
                have e1 : decide (1 ≤ x.key) = true := by simp; omega
                have e2 : decide (x.key ≤ 999) = true := by simp; omega
                have e3 : decide (1 ≤ x.uid) = true := by simp; omega
                have e4 : decide (x.uid < n) = true := by simp; omega
                rw [HX.out, e1, e2, e3, e4, HFT.out, HAk.out]; simp
              have HR' : Hid (Rising (xs.take (k + 1))) := HRS.out (HAP.out (by omega) HAk.out)
              go_wp2
              go_roundw
              case rel => exact ⟨k + 1, by omega, by go_num, HE', HR', HBL.out.trans (hbr.mono (by omega))⟩
              case measure => simp [intOf]; omega
    · go_wp2
      go_ret
      refine ⟨ret_bool ?_, hbw⟩
      rw [HE.out, List.drop_of_length_le (by omega)]
      rfl

end Go.Proofs.YtldgiecjnmkajaaDoor
