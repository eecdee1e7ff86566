/-
  OWN TEXT: lists.hasKey, lists.right.
  OWN TEXT: lists.right whole; lists.Write.
-/
import Derived.Test.YtamglanahpcedaaGreatDoorListAB
import Derived.Test.YtamglanahpcedaaGreatDoorLater
import Derived.Deep.CutRange
import Derived.Deep.DeepCutAuto
import Derived.Deep.RegionWith
namespace Go.Proofs.YtamglanahpcedaaGreatDoor
open Go.RowKit

/-- the entries xs lie in memory from off on in block b -/
def EntsAt (w : World) (b off : Nat) (xs : List Mb.Ent) : Prop :=
  ∀ (i : Nat) (x : Mb.Ent), xs[i]? = some x → w.cell? ⟨b, off + i * 3, none⟩ = some (.int .i64 x.key) ∧ w.cell? ⟨b, off + i * 3 + 1, none⟩ = some (.int .i64 x.uid) ∧ w.cell? ⟨b, off + i * 3 + 2, none⟩ = some (.string ⟨x.flags.toArray⟩)

theorem EntsAt.below {w w' : World} {B b off : Nat} {xs : List Mb.Ent} (h : EntsAt w b off xs) (hb : Below B w w') (hB : b < B) : EntsAt w' b off xs := by
  intro i x hx
  obtain ⟨c0, c1, c2⟩ := h i x hx
  exact ⟨(hb.cell (p := ⟨b, off + i * 3, none⟩) hB).trans c0, (hb.cell (p := ⟨b, off + i * 3 + 1, none⟩) hB).trans c1, (hb.cell (p := ⟨b, off + i * 3 + 2, none⟩) hB).trans c2⟩
theorem EntsAt.take {w : World} {b off : Nat} {xs : List Mb.Ent} (h : EntsAt w b off xs) (n : Nat) : EntsAt w b off (xs.take n) := by
  intro i x hx
  refine h i x ?_
  rw [List.getElem?_take] at hx
  split at hx
  · exact hx
  · cases hx

set_option maxHeartbeats 400000 in
theorem hasKey_any (b off len cap : Nat) (xs : List Mb.Ent) (k : Int) (w : World) (hlen : xs.length = len) (hb : b < w.heap.size) (hc : EntsAt w b off xs) (hl : len ≤ maxLen) :
    Calls Tryz.prog 151 #[.slice (some ⟨b, off, none⟩) len cap, .int .i64 k] w fun e w' => e = .returned (.bool (Mb.hasK k xs)) ∧ Below w.heap.size w w' := by
  unfold maxLen at hl
  subst hlen
  go_enter Tryz.func151, Tryz.ntmps151
  go_wp2
  go_loopw [9] (fun i wr => ∃ n : Nat, n ≤ xs.length ∧ i = .int .i64 n ∧ Hid (Mb.hasK k (xs.take n) = false) ∧ Below w.heap.size w wr) (fun i _ => xs.length - (intOf i).toNat)
  case atStart => exact ⟨0, Nat.zero_le _, rfl, rfl, Below.refl _ _⟩
  case round =>
    obtain ⟨n, hn, rfl, hno, hbl⟩ := hrel
    have hsz := hbl.size
    by_cases hlt : n < xs.length
    · obtain ⟨c0, c1, c2⟩ := hc n xs[n] (by simp [hlt])
      have d0 : wr.cell? ⟨b, off + n * 3, none⟩ = some (.int .i64 xs[n].key) := (hbl.cell (p := ⟨b, off + n * 3, none⟩) hb).trans c0
      have d1 : wr.cell? ⟨b, off + n * 3 + 1, none⟩ = some (.int .i64 xs[n].uid) := (hbl.cell (p := ⟨b, off + n * 3 + 1, none⟩) hb).trans c1
      have d2 : wr.cell? ⟨b, off + n * 3 + 2, none⟩ = some (.string ⟨xs[n].flags.toArray⟩) := (hbl.cell (p := ⟨b, off + n * 3 + 2, none⟩) hb).trans c2
      have HT : Hid (Mb.hasK k (xs.take (n + 1)) = (Mb.hasK k (xs.take n) || (xs[n].key == k))) := by
        unfold Hid
        rw [List.take_succ_eq_append_getElem hlt, Mb.hasK_append]
        simp only [Mb.hasK, Bool.or_false]
      have HA : Hid ((xs[n].key == k) = true → Mb.hasK k xs = true) := Mb.hasK_of_mem k xs xs[n] (List.getElem_mem hlt)
      clear c0 c1 c2
      by_cases hk : (xs[n].key == k) = true
      · go_wp2
        go_ret
        exact ⟨ret_bool (HA.out hk).symm, hbl.alloc hsz _⟩
      · have hk : (xs[n].key == k) = false := by simpa using hk
        go_wp2
        go_roundw
        case rel => exact ⟨n + 1, by omega, by go_num, by have h1 := HT.out; have h2 := hno.out; unfold Hid; rw [h1, h2, hk]; rfl, hbl.alloc hsz _⟩
        case measure => simp [intOf]; omega
    · go_wp2
      go_ret
      refine ⟨ret_bool ?_, hbl⟩
      have := hno.out
      rw [List.take_of_length_le (by omega)] at this
      exact this.symm

/-- entries by their slice's address -/
def SlAt (w : World) (a : Option Addr) (xs : List Mb.Ent) : Prop := (xs = []) ∨ ∃ b off, a = some ⟨b, off, none⟩ ∧ b < w.heap.size ∧ EntsAt w b off xs

theorem within_is {a b : Int} {r : Bool} (h : (decide (1 ≤ a) && decide (a ≤ b)) = r) (w : World) :
    Calls Tryz.prog 150 #[.int .i64 a, .int .i64 b] w fun e w' => e = .returned (.bool r) ∧ w' = w := by
  rw [← h]; exact within_any a b w
theorem hasKey_is {b off len cap : Nat} {xs : List Mb.Ent} {k : Int} {r : Bool} (h : Mb.hasK k xs = r) (w : World) (hlen : xs.length = len) (hb : b < w.heap.size) (hc : EntsAt w b off xs) (hl : len ≤ maxLen) :
    Calls Tryz.prog 151 #[.slice (some ⟨b, off, none⟩) len cap, .int .i64 k] w fun e w' => e = .returned (.bool r) ∧ Below w.heap.size w w' := by
  rw [← h]; exact hasKey_any b off len cap xs k w hlen hb hc hl
theorem fright_is {f : List UInt8} {r : Bool} (h : Mb.flagsOk f = r) (w : World) (hs : f.length ≤ maxLen) :
    Calls Tryz.prog 130 #[.string ⟨f.toArray⟩] w fun e w' => e = .returned (.bool r) ∧ w' = w := by
  have := fright_any ⟨f.toArray⟩ w (by simpa [ByteArray.size] using hs)
  rw [← h]; exact this

set_option maxHeartbeats 1000000 in
theorem right_some (e n : Int) (b off cap : Nat) (xs : List Mb.Ent) (w : World) (hb : b < w.heap.size) (hc : EntsAt w b off xs) (hl : xs.length ≤ maxLen) (hcap : xs.length ≤ cap) (hf : ∀ x ∈ xs, x.flags.length ≤ maxLen)
    (h1 : (decide (1 ≤ e) && decide (e ≤ 99)) = true) (h2 : (decide (1 ≤ n) && decide (n ≤ 100)) = true) (h3 : xs.length ≤ 8) :
    Calls Tryz.prog 115 #[.agg #[.int .i64 e, .int .i64 n, .slice (some ⟨b, off, none⟩) xs.length cap]] w fun r w' => r = .returned (.bool (Mb.entsOk n [] 0 xs)) ∧ Below w.heap.size w w' := by
  have h8 : decide ((8 : Int) < (xs.length : Int)) = false := by simp; omega
  have g1 := within_is h1
  have g2 := within_is h2
  clear h1 h2
  unfold maxLen at hl
  go_enter Tryz.func115, Tryz.ntmps115
  go_wp2_with fail
  refine (g1 _).mono ?_
  rintro e' w' ⟨rfl, rfl⟩
  go_wp2_with fail
  refine (g2 _).mono ?_
  rintro e' w' ⟨rfl, rfl⟩
  go_wp2_with fail
  clear g1 g2
  go_loopw [3, 25] (fun t i wr => ∃ (k : Nat) (last : Int), k ≤ xs.length ∧ i = .int .i64 k ∧ t = .int .i64 last ∧ Hid (Mb.entsOk n [] 0 xs = Mb.entsOk n (xs.take k) last (xs.drop k)) ∧ Below (w.heap.size + 1) (w.alloc (.cells #[.int .i64 e, .int .i64 n, .slice (some ⟨b, off, none⟩) xs.length cap] 153)) wr) (fun _ i _ => xs.length - (intOf i).toNat)
  case atStart => exact ⟨0, 0, Nat.zero_le _, rfl, rfl, rfl, Below.refl _ _⟩
  case round =>
    obtain ⟨k, last, hk, rfl, rfl, HE, hbl⟩ := hrel
    have hsz := hbl.size
    have hsz : w.heap.size < wr.heap.size := by simp at hsz; omega
    have hbw : Below w.heap.size w wr := ((Below.refl _ _).alloc (Nat.le_refl _) _).trans (hbl.mono (by omega))
    have l0 : wr.cell? ⟨w.heap.size, 0, none⟩ = some (.int .i64 e) := (hbl.cell (p := ⟨w.heap.size, 0, none⟩) (by simp)).trans (by simp)
    have l1 : wr.cell? ⟨w.heap.size, 1, none⟩ = some (.int .i64 n) := (hbl.cell (p := ⟨w.heap.size, 1, none⟩) (by simp)).trans (by simp)
    have l2 : wr.cell? ⟨w.heap.size, 2, none⟩ = some (.slice (some ⟨b, off, none⟩) xs.length cap) := (hbl.cell (p := ⟨w.heap.size, 2, none⟩) (by simp)).trans (by simp)
    by_cases hlt : k < xs.length
    · obtain ⟨c0, c1, c2⟩ := hc k xs[k] (by simp [hlt])
      have d0 : wr.cell? ⟨b, off + k * 3, none⟩ = some (.int .i64 xs[k].key) := (hbw.cell (p := ⟨b, off + k * 3, none⟩) hb).trans c0
      have d1 : wr.cell? ⟨b, off + k * 3 + 1, none⟩ = some (.int .i64 xs[k].uid) := (hbw.cell (p := ⟨b, off + k * 3 + 1, none⟩) hb).trans c1
      have d2 : wr.cell? ⟨b, off + k * 3 + 2, none⟩ = some (.string ⟨xs[k].flags.toArray⟩) := (hbw.cell (p := ⟨b, off + k * 3 + 2, none⟩) hb).trans c2
      have hcr : EntsAt wr b off (xs.take k) := (hc.take k).below hbw hb
      have hbr : b < wr.heap.size := by omega
      clear c0 c1 c2
      have HX : Hid (Mb.entsOk n (xs.take k) last (xs.drop k) = (decide (last < xs[k].uid) && decide (xs[k].uid < n) && decide (1 ≤ xs[k].key) && decide (xs[k].key ≤ 999) && !(Mb.hasK xs[k].key (xs.take k)) && Mb.flagsOk xs[k].flags && Mb.entsOk n (xs.take (k + 1)) xs[k].uid (xs.drop (k + 1)))) := by
        unfold Hid
        rw [List.drop_eq_getElem_cons hlt, List.take_succ_eq_append_getElem hlt]
        rfl
      have hfl := hf xs[k] (List.getElem_mem hlt)
      have htl : (xs.take k).length = k := by simp; omega
      have Htl : Hid ((xs.take k).length = k) := htl
      have hkc : k ≤ cap := by omega
      have hkc' : (k : Int) ≤ (cap : Int) := by omega
      clear htl
      have HBL : Hid (Below (w.heap.size + 1) (w.alloc (.cells #[.int .i64 e, .int .i64 n, .slice (some ⟨b, off, none⟩) xs.length cap] 153)) wr) := hbl
      clear hbl
      generalize hx : xs[k] = x at *
      clear hx
      by_cases hu1 : x.uid ≤ last
      · go_wp2
        go_ret
        refine ⟨ret_bool ?_, (hbw.alloc (by omega) _)⟩
        rw [HE.out, HX.out]
        simp; omega
      · by_cases hu2 : n ≤ x.uid
        · go_wp2
          go_ret
          refine ⟨ret_bool ?_, (hbw.alloc (by omega) _)⟩
          rw [HE.out, HX.out]
          simp; omega
        · have gk : ∀ (r : Bool), Mb.hasK x.key (xs.take k) = r → ∀ W, Below wr.heap.size wr W → Calls Tryz.prog 151 #[.slice (some ⟨b, off, none⟩) k cap, .int .i64 x.key] W fun e w' => e = .returned (.bool r) ∧ Below W.heap.size W w' :=
            fun r hr W hW => hasKey_is hr W Htl.out (by have := hW.size; omega) (hcr.below hW hbr) (by unfold maxLen; omega)
          have hNE := Later.some (wr.heap.size + 1) (wr.alloc (.cells #[.int .i64 x.key, .int .i64 x.uid, .string ⟨x.flags.toArray⟩] 173))
          have W0 : ∀ z : Later (wr.heap.size + 1) (wr.alloc (.cells #[.int .i64 x.key, .int .i64 x.uid, .string ⟨x.flags.toArray⟩] 173)), Below wr.heap.size wr z.w := fun z => ((Below.refl _ _).alloc (Nat.le_refl _) _).trans (z.h.mono (by omega))
          have z0 : ∀ z : Later (wr.heap.size + 1) (wr.alloc (.cells #[.int .i64 x.key, .int .i64 x.uid, .string ⟨x.flags.toArray⟩] 173)), z.w.cell? ⟨wr.heap.size, 0, none⟩ = some (.int .i64 x.key) := fun z => (z.h.cell (p := ⟨wr.heap.size, 0, none⟩) (by simp)).trans (by simp)
          have z1 : ∀ z : Later (wr.heap.size + 1) (wr.alloc (.cells #[.int .i64 x.key, .int .i64 x.uid, .string ⟨x.flags.toArray⟩] 173)), z.w.cell? ⟨wr.heap.size, 1, none⟩ = some (.int .i64 x.uid) := fun z => (z.h.cell (p := ⟨wr.heap.size, 1, none⟩) (by simp)).trans (by simp)
          have z2 : ∀ z : Later (wr.heap.size + 1) (wr.alloc (.cells #[.int .i64 x.key, .int .i64 x.uid, .string ⟨x.flags.toArray⟩] 173)), z.w.cell? ⟨wr.heap.size, 2, none⟩ = some (.string ⟨x.flags.toArray⟩) := fun z => (z.h.cell (p := ⟨wr.heap.size, 2, none⟩) (by simp)).trans (by simp)
          have zl : ∀ z : Later (wr.heap.size + 1) (wr.alloc (.cells #[.int .i64 x.key, .int .i64 x.uid, .string ⟨x.flags.toArray⟩] 173)), z.w.cell? ⟨w.heap.size, 2, none⟩ = some (.slice (some ⟨b, off, none⟩) xs.length cap) := fun z => ((W0 z).cell (p := ⟨w.heap.size, 2, none⟩) (by simp; omega)).trans l2
          by_cases hw : (decide (1 ≤ x.key) && decide (x.key ≤ 999)) = true
          · have gw := within_is hw
            by_cases hh : Mb.hasK x.key (xs.take k) = true
            · have gk := gk true hh
              have gf := (True.intro)
              have Hh : Hid (Mb.hasK x.key (xs.take k) = true) := hh
              clear hw hh
              go_upto_region 9 with fail
              refine wp_region_later (wr.heap.size + 1) (by kernel_rfl) (by kernel_rfl) ?_
              repeat (go_big_quiet_step (first
                | (go_at_call 150; exact Later.calls_same _ (gw _))
                | (go_at_call 151; exact Later.calls _ (by simp) (gk _ (W0 _)))
                | (go_at_call 130; exact Later.calls_same _ (gf _))))
              refine wpQuiet_nil ?_
              intro _ hw'
              obtain ⟨z, rfl⟩ := hw'
              go_wp2
              go_ret
              refine ⟨ret_bool ?_, hbw.trans ((W0 z).mono (by omega))⟩
              rw [HE.out, HX.out]
              simp [Hh.out]
            · have hh : Mb.hasK x.key (xs.take k) = false := by simpa using hh
              have gk := gk false hh
              have Hh : Hid (Mb.hasK x.key (xs.take k) = false) := hh
              have Hw : Hid ((decide (1 ≤ x.key) && decide (x.key ≤ 999)) = true) := hw
              by_cases hfo : Mb.flagsOk x.flags = true
              · have gf := fun W => fright_is hfo W hfl
                have Hf : Hid (Mb.flagsOk x.flags = true) := hfo
                clear hw hh hfo
                go_upto_region 9 with fail
                refine wp_region_later (wr.heap.size + 1) (by kernel_rfl) (by kernel_rfl) ?_
                repeat (go_big_quiet_step (first
                  | (go_at_call 150; exact Later.calls_same _ (gw _))
                  | (go_at_call 151; exact Later.calls _ (by simp) (gk _ (W0 _)))
                  | (go_at_call 130; exact Later.calls_same _ (gf _))))
                refine wpQuiet_nil ?_
                intro _ hw'
                obtain ⟨z, rfl⟩ := hw'
                go_wp2
                go_roundw
                case rel =>
                  refine ⟨k + 1, x.uid, by omega, by go_num, rfl, ?_, ?_⟩
                  · unfold Hid
                    have e1 : decide (last < x.uid) = true := by simp; omega
                    have e2 : decide (x.uid < n) = true := by simp; omega
                    have e3 := Hw.out
                    rw [Bool.and_eq_true] at e3
                    rw [HE.out, HX.out, e1, e2, e3.1, e3.2, Hh.out, Hf.out]
                    rfl
                  · exact HBL.out.trans ((W0 z).mono (by omega))
                case measure => simp [intOf]; omega
              · have hfo : Mb.flagsOk x.flags = false := by simpa using hfo
                have gf := fun W => fright_is hfo W hfl
                have Hf : Hid (Mb.flagsOk x.flags = false) := hfo
                clear hw hh hfo
                go_upto_region 9 with fail
                refine wp_region_later (wr.heap.size + 1) (by kernel_rfl) (by kernel_rfl) ?_
                repeat (go_big_quiet_step (first
                  | (go_at_call 150; exact Later.calls_same _ (gw _))
                  | (go_at_call 151; exact Later.calls _ (by simp) (gk _ (W0 _)))
                  | (go_at_call 130; exact Later.calls_same _ (gf _))))
                refine wpQuiet_nil ?_
                intro _ hw'
                obtain ⟨z, rfl⟩ := hw'
                go_wp2
                go_ret
                refine ⟨ret_bool ?_, hbw.trans ((W0 z).mono (by omega))⟩
                rw [HE.out, HX.out]
                simp [Hf.out]
          · have hw : (decide (1 ≤ x.key) && decide (x.key ≤ 999)) = false := by simpa using hw
            have gw := within_is hw
            have Hw : Hid ((decide (1 ≤ x.key) && decide (x.key ≤ 999)) = false) := hw
            have gf := (True.intro)
            clear hw
            go_upto_region 9 with fail
            refine wp_region_later (wr.heap.size + 1) (by kernel_rfl) (by kernel_rfl) ?_
            repeat (go_big_quiet_step (first
              | (go_at_call 150; exact Later.calls_same _ (gw _))
              | (go_at_call 151; exact Later.calls _ (by simp) (gk _ (W0 _)))
              | (go_at_call 130; exact Later.calls_same _ (gf _))))
            refine wpQuiet_nil ?_
            intro _ hw'
            obtain ⟨z, rfl⟩ := hw'
            go_wp2
            go_ret
            refine ⟨ret_bool ?_, hbw.trans ((W0 z).mono (by omega))⟩
            have e3 := Hw.out
            rw [HE.out, HX.out]
            rw [Bool.and_assoc (_ && _) (decide (1 ≤ x.key)), e3]
            simp
    · go_wp2
      go_ret
      refine ⟨ret_bool ?_, hbw⟩
      rw [HE.out, List.drop_of_length_le (by omega)]
      rfl

end Go.Proofs.YtamglanahpcedaaGreatDoor
namespace Go.Proofs.YtamglanahpcedaaGreatDoor
open Go.RowKit

set_option maxHeartbeats 400000 in
theorem right_no1 (e n : Int) (a : Option Addr) (len cap : Nat) (w : World) (h1 : (decide (1 ≤ e) && decide (e ≤ 99)) = false) :
    Calls Tryz.prog 115 #[.agg #[.int .i64 e, .int .i64 n, .slice a len cap]] w fun r w' => r = .returned (.bool false) ∧ Below w.heap.size w w' := by
  have g1 := within_is h1
  clear h1
  go_enter Tryz.func115, Tryz.ntmps115
  go_wp2_with fail
  refine (g1 _).mono ?_
  rintro e' w' ⟨rfl, rfl⟩
  clear g1
  go_wp2
  go_ret
  exact ⟨rfl, (Below.refl _ _).alloc (Nat.le_refl _) _⟩

set_option maxHeartbeats 400000 in
theorem right_no2 (e n : Int) (a : Option Addr) (len cap : Nat) (w : World) (h1 : (decide (1 ≤ e) && decide (e ≤ 99)) = true) (h2 : (decide (1 ≤ n) && decide (n ≤ 100)) = false) :
    Calls Tryz.prog 115 #[.agg #[.int .i64 e, .int .i64 n, .slice a len cap]] w fun r w' => r = .returned (.bool false) ∧ Below w.heap.size w w' := by
  have g1 := within_is h1
  have g2 := within_is h2
  clear h1 h2
  go_enter Tryz.func115, Tryz.ntmps115
  go_wp2_with fail
  refine (g1 _).mono ?_
  rintro e' w' ⟨rfl, rfl⟩
  go_wp2_with fail
  refine (g2 _).mono ?_
  rintro e' w' ⟨rfl, rfl⟩
  clear g1 g2
  go_wp2
  go_ret
  exact ⟨rfl, (Below.refl _ _).alloc (Nat.le_refl _) _⟩

set_option maxHeartbeats 400000 in
theorem right_no3 (e n : Int) (a : Option Addr) (len cap : Nat) (w : World) (h1 : (decide (1 ≤ e) && decide (e ≤ 99)) = true) (h2 : (decide (1 ≤ n) && decide (n ≤ 100)) = true) (h3 : ¬ len ≤ 8) :
    Calls Tryz.prog 115 #[.agg #[.int .i64 e, .int .i64 n, .slice a len cap]] w fun r w' => r = .returned (.bool false) ∧ Below w.heap.size w w' := by
  have g1 := within_is h1
  have g2 := within_is h2
  have h8 : decide ((8 : Int) < (len : Int)) = true := by simp; omega
  clear h1 h2
  go_enter Tryz.func115, Tryz.ntmps115
  go_wp2_with fail
  refine (g1 _).mono ?_
  rintro e' w' ⟨rfl, rfl⟩
  go_wp2_with fail
  refine (g2 _).mono ?_
  rintro e' w' ⟨rfl, rfl⟩
  clear g1 g2
  go_wp2
  go_ret
  exact ⟨rfl, (Below.refl _ _).alloc (Nat.le_refl _) _⟩

set_option maxHeartbeats 400000 in
theorem right_empty (e n : Int) (a : Option Addr) (cap : Nat) (w : World) (h1 : (decide (1 ≤ e) && decide (e ≤ 99)) = true) (h2 : (decide (1 ≤ n) && decide (n ≤ 100)) = true) :
    Calls Tryz.prog 115 #[.agg #[.int .i64 e, .int .i64 n, .slice a 0 cap]] w fun r w' => r = .returned (.bool true) ∧ Below w.heap.size w w' := by
  have g1 := within_is h1
  have g2 := within_is h2
  clear h1 h2
  go_enter Tryz.func115, Tryz.ntmps115
  go_wp2_with fail
  refine (g1 _).mono ?_
  rintro e' w' ⟨rfl, rfl⟩
  go_wp2_with fail
  refine (g2 _).mono ?_
  rintro e' w' ⟨rfl, rfl⟩
  clear g1 g2
  go_wp2
  go_loop [25] (fun i => i = .int .i64 0) (fun _ => 0)
  case atStart => rfl
  case round =>
    subst hrel
    go_wp2
    go_ret
    exact ⟨rfl, (Below.refl _ _).alloc (Nat.le_refl _) _⟩

theorem right_any (e n : Int) (a : Option Addr) (cap : Nat) (xs : List Mb.Ent) (w : World) (hs : SlAt w a xs) (hl : xs.length ≤ maxLen) (hcap : xs.length ≤ cap) (hf : ∀ x ∈ xs, x.flags.length ≤ maxLen) :
    Calls Tryz.prog 115 #[.agg #[.int .i64 e, .int .i64 n, .slice a xs.length cap]] w fun r w' => r = .returned (.bool (Mb.listOk e n xs)) ∧ Below w.heap.size w w' := by
  have hL : Mb.listOk e n xs = ((decide (1 ≤ e) && decide (e ≤ 99)) && (decide (1 ≤ n) && decide (n ≤ 100)) && decide (xs.length ≤ 8) && Mb.entsOk n [] 0 xs) := by
    unfold Mb.listOk; simp only [Bool.and_assoc]
  cases h1 : (decide (1 ≤ e) && decide (e ≤ 99)) with
  | false => rw [hL, h1]; exact right_no1 e n a _ cap w h1
  | true =>
    cases h2 : (decide (1 ≤ n) && decide (n ≤ 100)) with
    | false => rw [hL, h1, h2]; exact right_no2 e n a _ cap w h1 h2
    | true =>
      by_cases h3 : xs.length ≤ 8
      · have h3' : decide (xs.length ≤ 8) = true := by simpa using h3
        rw [hL, h1, h2, h3']
        simp only [Bool.and_self, Bool.true_and]
        rcases hs with rfl | ⟨b, off, rfl, hb, hc⟩
        · exact right_empty e n a cap w h1 h2
        · exact right_some e n b off cap xs w hb hc hl hcap hf h1 h2 h3
      · have h3' : decide (xs.length ≤ 8) = false := by simpa using h3
        rw [hL, h1, h2, h3']
        exact right_no3 e n a _ cap w h1 h2 h3

end Go.Proofs.YtamglanahpcedaaGreatDoor
