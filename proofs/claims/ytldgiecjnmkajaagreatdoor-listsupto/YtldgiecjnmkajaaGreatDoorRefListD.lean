/-
  OWN TEXT: mailbagref.Right.
-/
import Derived.Test.YtldgiecjnmkajaaGreatDoorRefListC
import Derived.Test.YtldgiecjnmkajaaGreatDoorListCD
import Derived.Deep.RegionHeld3
namespace Go.Proofs.YtldgiecjnmkajaaGreatDoor
open Go.RowKit Go.Lib

theorem hasK_take (k : Int) (xs : List Mb.Ent) (j : Nat) (h : j < xs.length) : Mb.hasK k (xs.take (j + 1)) = (Mb.hasK k (xs.take j) || (xs[j].key == k)) := by
  rw [List.take_succ_eq_append_getElem h, Mb.hasK_append]
  simp [Mb.hasK]

theorem entsOk_step (n last : Int) (xs : List Mb.Ent) (k : Nat) (h : k < xs.length) : Mb.entsOk n (xs.take k) last (xs.drop k) = (decide (last < xs[k].uid) && decide (xs[k].uid < n) && decide (1 ≤ xs[k].key) && decide (xs[k].key ≤ 999) && !(Mb.hasK xs[k].key (xs.take k)) && Mb.flagsOk xs[k].flags && Mb.entsOk n (xs.take (k + 1)) xs[k].uid (xs.drop (k + 1))) := by
  rw [List.drop_eq_getElem_cons h, List.take_succ_eq_append_getElem h]
  rfl

set_option maxHeartbeats 16000000 in
set_option maxRecDepth 100000 in
theorem rright_some (e n : Int) (b off cap : Nat) (xs : List Mb.Ent) (w : World) (hb : b < w.heap.size) (hc : EntsAt w b off xs) (hl : xs.length ≤ 8) (hcap : xs.length ≤ cap) (hf : ∀ x ∈ xs, x.flags.length ≤ maxLen)
    (e1 : 1 ≤ e) (e2 : e ≤ 99) (n1 : 1 ≤ n) (n2 : n ≤ 100) :
    Calls Tryz.prog 174 #[.agg #[.int .i64 e, .int .i64 n, .slice (some ⟨b, off, none⟩) xs.length cap]] w fun v w' => v = .returned (.bool (Mb.entsOk n [] 0 xs)) ∧ Below w.heap.size w w' := by
  obtain ⟨r, hr⟩ : ∃ r, Mb.entsOk n [] 0 xs = r := ⟨_, rfl⟩
  rw [hr]
  have HR : Hid (r = Mb.entsOk n (xs.take 0) 0 (xs.drop 0)) := hr.symm
  have il : (xs.length : Int) ≤ 8 := by omega
  have HC := Lib.hid hc
  have HF := Lib.hid hf
  clear hr hc hf
  go_enter Tryz.func174, Tryz.ntmps174
  go_wp2
  go_loopw [3, 4] (fun vl vi wr => ∃ (k : Nat) (last : Int), k ≤ xs.length ∧ vi = .int .i64 k ∧ vl = .int .i64 last ∧ Hid (r = Mb.entsOk n (xs.take k) last (xs.drop k)) ∧ Below (w.heap.size + 1) (w.alloc (.cells #[.int .i64 e, .int .i64 n, .slice (some ⟨b, off, none⟩) xs.length cap] 80)) wr) (fun _ vi _ => xs.length - (RowKit.intOf vi).toNat)
  case atStart => exact ⟨0, 0, Nat.zero_le _, rfl, rfl, HR, Below.refl _ _⟩
  case round =>
    obtain ⟨k, last, hk, rfl, rfl, HE, hbl⟩ := hrel
    have hsz : w.heap.size < wr.heap.size := by have := hbl.size; simp at this; omega
    have hbw : Below w.heap.size w wr := ((Below.refl _ _).alloc (Nat.le_refl _) _).trans (hbl.mono (by omega))
    have l1 : wr.cell? ⟨w.heap.size, 1, none⟩ = some (.int .i64 n) := (hbl.cell (p := ⟨w.heap.size, 1, none⟩) (by simp)).trans (by simp)
    have l2 : wr.cell? ⟨w.heap.size, 2, none⟩ = some (.slice (some ⟨b, off, none⟩) xs.length cap) := (hbl.cell (p := ⟨w.heap.size, 2, none⟩) (by simp)).trans (by simp)
    by_cases hlt : k < xs.length
    · have hen := HC.out.below hbw hb
      obtain ⟨d0, d1, d2⟩ := hen k xs[k] (by simp [hlt])
      have HX := Lib.hid (entsOk_step n last xs k hlt)
      have hfl := HF.out xs[k] (List.getElem_mem hlt)
      have HEN := Lib.hid hen
      have HBL := Lib.hid hbl
      have HT := Lib.hid (fun j (hj : j < k) => show (xs.take k)[j]? = some xs[j] by rw [List.getElem?_take, if_pos hj]; exact List.getElem?_eq_getElem (by omega))
      have ilt : (k : Int) < xs.length := by omega
      have ikc : (k : Int) < cap := by omega
      clear hen hbl
      generalize hx : xs[k] = x at *
      have hFl := rflags_any ⟨x.flags.toArray⟩ (by rw [Lib.size_eq]; unfold maxLen at hfl; simp; omega) (wr.alloc (.cells #[.int .i64 x.key, .int .i64 x.uid, .string ⟨x.flags.toArray⟩] 221))
      replace hFl : Calls Tryz.prog 233 #[.string ⟨x.flags.toArray⟩] (wr.alloc (.cells #[.int .i64 x.key, .int .i64 x.uid, .string ⟨x.flags.toArray⟩] 221)) fun e w' => e = .returned (.bool (Mb.flagsOk x.flags)) ∧ w' = (wr.alloc (.cells #[.int .i64 x.key, .int .i64 x.uid, .string ⟨x.flags.toArray⟩] 221)) := hFl
      clear hx hfl
      by_cases hok : Mb.flagsOk x.flags = true
      · rw [hok] at hFl
        by_cases hq : 1 ≤ x.key ∧ x.key ≤ 999 ∧ last < x.uid ∧ x.uid < n
        · obtain ⟨q1, q2, q3, q4⟩ := hq
          have q5 : ¬ x.uid ≤ last := by omega
          have q6 : ¬ n ≤ x.uid := by omega
          have HX2 : Hid (r = (!(Mb.hasK x.key (xs.take k)) && Mb.entsOk n (xs.take (k + 1)) x.uid (xs.drop (k + 1)))) := by
            unfold Hid
            rw [HE.out, HX.out, hok]
            have g1 : decide (last < x.uid) = true := by simpa using q3
            have g2 : decide (x.uid < n) = true := by simpa using q4
            have g3 : decide (1 ≤ x.key) = true := by simpa using q1
            have g4 : decide (x.key ≤ 999) = true := by simpa using q2
            rw [g1, g2, g3, g4]
            simp
          clear HX HE hok
          go_wp2_with fail
          go_at_call 233
          refine hFl.mono (fun e w1 hpost => ?_)
          obtain ⟨rfl, hw1⟩ := hpost
          subst w1
          clear hFl
          go_wp2
          rename World => wo
          go_loopw [7] (fun vj wr => ∃ j : Nat, vj = .int .i64 j ∧ j ≤ k ∧ Hid (Mb.hasK x.key (xs.take j) = false) ∧ Below (wo.heap.size + 1) (wo.alloc (.cells #[.int .i64 x.key, .int .i64 x.uid, .string ⟨x.flags.toArray⟩] 221)) wr) (fun vj _ => k - (RowKit.intOf vj).toNat)
          case atStart => exact ⟨0, rfl, Nat.zero_le _, rfl, Below.refl _ _⟩
          case round =>
            obtain ⟨j, rfl, hj, HJ, hb2⟩ := hrel
            have hsz2 : wo.heap.size + 1 ≤ wr.heap.size := by have := hb2.size; simpa using this
            have hbr : Below wo.heap.size wo wr := ((Below.refl _ _).alloc (Nat.le_refl _) _).trans (hb2.mono (by omega))
            have p0 : wr.cell? ⟨wo.heap.size, 0, none⟩ = some (.int .i64 x.key) := (hb2.cell (p := ⟨wo.heap.size, 0, none⟩) (by simp)).trans (by simp)
            have p1 : wr.cell? ⟨wo.heap.size, 1, none⟩ = some (.int .i64 x.uid) := (hb2.cell (p := ⟨wo.heap.size, 1, none⟩) (by simp)).trans (by simp)
            have m2 : wr.cell? ⟨w.heap.size, 2, none⟩ = some (.slice (some ⟨b, off, none⟩) xs.length cap) := (hbr.cell (p := ⟨w.heap.size, 2, none⟩) hsz).trans l2
            by_cases hjk : j < k
            · have hjx : j < xs.length := by omega
              obtain ⟨y0, -, -⟩ := (HEN.out.below hbr (by omega)) j xs[j] (List.getElem?_eq_getElem hjx)
              have HS := Lib.hid (hasK_take x.key xs j hjx)
              have ij : (j : Int) < xs.length := by omega
              have ij0 : (0 : Int) ≤ (j : Int) := by omega
              have ijk : (j : Int) < (k : Int) := by omega
              generalize xs[j] = y at y0 HS
              by_cases he : y.key = x.key
              · have HN : Hid (r = false) := by
                  unfold Hid
                  rw [HX2.out]
                  have h1 : Mb.hasK x.key (xs.take (j + 1)) = true := by rw [HS.out, he]; simp
                  have h2 : Mb.hasK x.key (xs.take k) = true := by
                    have e : xs.take k = xs.take (j + 1) ++ (xs.take k).drop (j + 1) := by
                      conv => lhs; rw [← List.take_append_drop (j + 1) (xs.take k)]
                      rw [List.take_take, Nat.min_eq_left (by omega)]
                    rw [e, Mb.hasK_append, h1]; rfl
                  rw [h2]; rfl
                have heb : (y.key == x.key) = true := by simpa using he
                have hbb := hbw.trans (hbr.mono (by omega))
                clear HX2 HS HJ he HBL HEN HT hb2 hbr
                go_wp2
                go_region_held3 (fun w' => w'.cell? ⟨w.heap.size, 2, none⟩ = some (.slice (some ⟨b, off, none⟩) xs.length cap) ∧ w'.cell? ⟨b, off + j * 3, none⟩ = some (.int .i64 y.key) ∧ w'.cell? ⟨wo.heap.size, 0, none⟩ = some (.int .i64 x.key)) (go_keep) (fail)
                all_goals go_wp2
                all_goals go_ret
                all_goals exact ⟨by rw [HN.out]; rfl, hbb.drew⟩
              · have HN : Hid (Mb.hasK x.key (xs.take (j + 1)) = false) := by
                  unfold Hid
                  rw [HS.out, HJ.out]
                  simpa using he
                have heb : (y.key == x.key) = false := by simpa using he
                have hbb := hb2.drew
                clear HX2 HS HJ he HBL HEN HT hb2 hbr
                go_wp2
                go_region_held3 (fun w' => w'.cell? ⟨w.heap.size, 2, none⟩ = some (.slice (some ⟨b, off, none⟩) xs.length cap) ∧ w'.cell? ⟨b, off + j * 3, none⟩ = some (.int .i64 y.key) ∧ w'.cell? ⟨wo.heap.size, 0, none⟩ = some (.int .i64 x.key)) (go_keep) (fail)
                all_goals go_wp2
                all_goals refine ⟨⟨j + 1, by first | rfl | (congr 1; omega), by omega, HN, hbb⟩, by simp [RowKit.intOf]; omega⟩
            · have hjj : j = k := by omega
              subst hjj
              have HN : Hid (r = Mb.entsOk n (xs.take (j + 1)) x.uid (xs.drop (j + 1))) := by
                unfold Hid
                rw [HX2.out, HJ.out]
                rfl
              have hbb := HBL.out.trans (hbr.mono (by omega))
              clear HX2 HJ HBL HEN HT hb2 hbr
              go_wp2
              refine ⟨⟨j + 1, x.uid, by omega, by first | rfl | (congr 1; omega), rfl, HN, hbb⟩, by simp [RowKit.intOf]; omega⟩
        · have HN : Hid (r = false) := by
            unfold Hid
            rw [HE.out, HX.out]
            by_cases g1 : last < x.uid
            · by_cases g2 : x.uid < n
              · by_cases g3 : 1 ≤ x.key
                · have g4 : ¬ x.key ≤ 999 := fun h => hq ⟨g3, h, g1, g2⟩
                  simp [g4]
                · simp [g3]
              · simp [g2]
            · simp [g1]
          have hc : x.key < 1 ∨ (1 ≤ x.key ∧ 999 < x.key) ∨ (1 ≤ x.key ∧ x.key ≤ 999 ∧ x.uid ≤ last) ∨ (1 ≤ x.key ∧ x.key ≤ 999 ∧ ¬ x.uid ≤ last ∧ n ≤ x.uid) := by omega
          clear HX HE hok hq
          go_wp2_with fail
          go_at_call 233
          refine hFl.mono (fun e w1 hpost => ?_)
          obtain ⟨rfl, hw1⟩ := hpost
          subst w1
          clear hFl
          rcases hc with q | ⟨q, q2⟩ | ⟨q, q2, q3⟩ | ⟨q, q2, q3, q4⟩
          all_goals go_wp2
          all_goals go_ret
          all_goals exact ⟨by rw [HN.out]; rfl, hbw.alloc (by omega) _⟩
      · have hno : Mb.flagsOk x.flags = false := by simpa using hok
        rw [hno] at hFl
        have HN : Hid (r = false) := by unfold Hid; rw [HE.out, HX.out, hno]; simp
        clear HX HE hok hno
        go_wp2_with fail
        go_at_call 233
        refine hFl.mono (fun e w1 hpost => ?_)
        obtain ⟨rfl, hw1⟩ := hpost
        subst w1
        clear hFl
        go_wp2
        go_ret
        exact ⟨by rw [HN.out]; rfl, hbw.alloc (by omega) _⟩
    · have hkk : k = xs.length := by omega
      subst hkk
      have HN : Hid (r = true) := by unfold Hid; rw [HE.out, List.drop_of_length_le (by omega)]; rfl
      clear HE hlt hk
      go_wp2
      go_ret
      exact ⟨by rw [HN.out]; rfl, hbw⟩

end Go.Proofs.YtldgiecjnmkajaaGreatDoor
