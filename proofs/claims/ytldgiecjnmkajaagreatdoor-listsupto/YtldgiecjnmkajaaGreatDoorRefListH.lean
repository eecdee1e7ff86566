/-
  OWN TEXT: mailbagref.Read.
-/
import Derived.Test.YtldgiecjnmkajaaGreatDoorRefListG
import Derived.Test.YtldgiecjnmkajaaGreatDoorListWalkI
namespace Go.Proofs.YtldgiecjnmkajaaGreatDoor
open Go.RowKit Go.Lib

/-- what Read leaves -/
def ReadO (w : World) (o : Option (Int × Int × List Mb.Ent)) (r : Ending) (w' : World) : Prop := match o with
  | none => r = .returned (.tuple #[.agg #[.int .i64 0, .int .i64 0, .slice none 0 0], .int .i64 3]) ∧ Below w.heap.size w w'
  | some (e, n, xs) => ∃ a cap, r = .returned (.tuple #[.agg #[.int .i64 e, .int .i64 n, .slice a xs.length cap], .int .i64 0]) ∧ Below w.heap.size w w' ∧ SlAt w' a xs ∧ xs.length ≤ cap ∧ OwnE w' w.heap.size a cap xs

theorem entL_flags {l : List UInt8} {x : Mb.Ent} (h : Mb.entL l = some x) : x.flags.length ≤ 4 := by
  unfold Mb.entL at h
  split at h
  · cases h
  · split at h
    · cases h
    · split at h
      · rename_i g a b ha _ _
        cases h
        show g.length ≤ 4
        unfold Mb.askL at ha
        split at ha
        · cases ha; simp
        · split at ha
          · rename_i hf
            cases ha
            exact Mb.flagsOk_len hf.1
          · cases ha
      · cases h

theorem parseR_no1 {d : List UInt8} (h : Mb.cutL 10 d = none) : Mb.parseR d = none := by unfold Mb.parseR; rw [h]
theorem parseR_no2 {d line rest : List UInt8} (h : Mb.cutL 10 d = some (line, rest)) (h2 : Mb.cutL 32 line = none) : Mb.parseR d = none := by unfold Mb.parseR; rw [h]; simp only; rw [h2]
theorem parseR_no3 {d line rest e n : List UInt8} (h : Mb.cutL 10 d = some (line, rest)) (h2 : Mb.cutL 32 line = some (e, n)) (h3 : Mb.entsL rest = none) : Mb.parseR d = none := by unfold Mb.parseR; rw [h]; simp only; rw [h2]; simp only; rw [h3]
theorem parseR_yes {d line rest e n : List UInt8} {xs : List Mb.Ent} (h : Mb.cutL 10 d = some (line, rest)) (h2 : Mb.cutL 32 line = some (e, n)) (h3 : Mb.entsL rest = some xs) : Mb.parseR d = some (Mb.numV e 99, Mb.numV n 100, xs) := by unfold Mb.parseR; rw [h]; simp only; rw [h2]; simp only; rw [h3]

set_option maxHeartbeats 1000000 in
theorem rread_long (s : ByteArray) (hs : 400 < s.size) (hs2 : s.size ≤ 9223372036854775807) (w : World) :
    Calls Tryz.prog 113 #[.string s] w fun r w' => r = .returned (.tuple #[.agg #[.int .i64 0, .int .i64 0, .slice none 0 0], .int .i64 1]) ∧ Below w.heap.size w w' := by
  have i1 : (400 : Int) < (s.size : Int) := by omega
  go_enter Tryz.func113, Tryz.ntmps113
  go_wp2
  refine bodyPost_ret (v := .tuple #[.agg #[.int .i64 0, .int .i64 0, .slice none 0 0], .int .i64 1]) (by simp [results, Tryz.results113, go_sem]) rfl ⟨rfl, ?_⟩
  exact ((Below.refl _ _).alloc (Nat.le_refl _) _).alloc (by simp) _

/-- a text's length -/
def strLen : Value → Nat | .string t => t.data.toList.length | _ => 0

/-- the two boxes that Read makes -/
def box0 : Obj := .cells #[.int .i64 0, .int .i64 0, .slice none 0 0] 80

set_option maxRecDepth 100000 in
set_option maxHeartbeats 4000000 in
theorem rread_any (s : ByteArray) (hs : s.size ≤ 400) (w : World) (hE : Env w) :
    Calls Tryz.prog 113 #[.string s] w fun r w' => ReadO w (Mb.readL s.data.toList) r w' := by
  have i1 : (s.size : Int) ≤ (400 : Int) := by omega
  have hsl : s.data.toList.length ≤ 400 := by rw [← Lib.size_eq]; exact hs
  have g1 := fun W => rcut_any s 10 (by omega) W
  go_enter Tryz.func113, Tryz.ntmps113
  go_wp2_with fail
  go_at_call 178
  refine (g1 _).mono (fun e w1 hpost => ?_)
  obtain ⟨⟨v1, rfl, line, rest, A, rfl, hA, hll, hrl⟩, hb1⟩ := hpost
  clear g1
  have g2 := rcut_any line 32 (by rw [Lib.size_eq]; omega) w1
  have HB1 := Lib.hid ((((Below.refl w.heap.size w).alloc (Nat.le_refl _) box0).alloc (by simp) box0).trans (hb1.mono (by simp; omega)))
  have r0 := hb1.cell (p := ⟨w.heap.size, 0, none⟩) (by simp; omega)
  have r1 := hb1.cell (p := ⟨w.heap.size, 1, none⟩) (by simp; omega)
  have r2 := hb1.cell (p := ⟨w.heap.size, 2, none⟩) (by simp; omega)
  have f0 := hb1.frozen (p := ⟨w.heap.size, 0, none⟩) (by simp; omega)
  have f1 := hb1.frozen (p := ⟨w.heap.size, 1, none⟩) (by simp; omega)
  have f2 := hb1.frozen (p := ⟨w.heap.size, 2, none⟩) (by simp; omega)
  have l0 := hb1.cell (p := ⟨w.heap.size + 1, 0, none⟩) (by simp)
  have l1 := hb1.cell (p := ⟨w.heap.size + 1, 1, none⟩) (by simp)
  have l2 := hb1.cell (p := ⟨w.heap.size + 1, 2, none⟩) (by simp)
  have m0 := hb1.frozen (p := ⟨w.heap.size + 1, 0, none⟩) (by simp)
  have m1 := hb1.frozen (p := ⟨w.heap.size + 1, 1, none⟩) (by simp)
  have m2 := hb1.frozen (p := ⟨w.heap.size + 1, 2, none⟩) (by simp)
  have hz1 := hb1.size
  simp at r0 r1 r2 f0 f1 f2 l0 l1 l2 m0 m1 m2 hz1
  clear hb1
  go_wp2_with fail
  go_at_call 178
  refine g2.mono (fun e w2 hpost => ?_)
  obtain ⟨⟨v2, rfl, be, bn, B, rfl, hB, hle, hln⟩, hb2⟩ := hpost
  clear g2
  have HB2 := Lib.hid (HB1.out.trans (hb2.mono (by omega)))
  replace r0 := (hb2.cell (p := ⟨w.heap.size, 0, none⟩) (by simp; omega)).trans r0
  replace r1 := (hb2.cell (p := ⟨w.heap.size, 1, none⟩) (by simp; omega)).trans r1
  replace r2 := (hb2.cell (p := ⟨w.heap.size, 2, none⟩) (by simp; omega)).trans r2
  replace f0 := (hb2.frozen (p := ⟨w.heap.size, 0, none⟩) (by simp; omega)).trans f0
  replace f1 := (hb2.frozen (p := ⟨w.heap.size, 1, none⟩) (by simp; omega)).trans f1
  replace f2 := (hb2.frozen (p := ⟨w.heap.size, 2, none⟩) (by simp; omega)).trans f2
  replace l0 := (hb2.cell (p := ⟨w.heap.size + 1, 0, none⟩) (by simp; omega)).trans l0
  replace l1 := (hb2.cell (p := ⟨w.heap.size + 1, 1, none⟩) (by simp; omega)).trans l1
  replace l2 := (hb2.cell (p := ⟨w.heap.size + 1, 2, none⟩) (by simp; omega)).trans l2
  replace m0 := (hb2.frozen (p := ⟨w.heap.size + 1, 0, none⟩) (by simp; omega)).trans m0
  replace m1 := (hb2.frozen (p := ⟨w.heap.size + 1, 1, none⟩) (by simp; omega)).trans m1
  replace m2 := (hb2.frozen (p := ⟨w.heap.size + 1, 2, none⟩) (by simp; omega)).trans m2
  have hz2 := hb2.size
  have g4 := fun W => rnumber_any be 99 (by omega) (by rw [Lib.size_eq]; omega) W
  have g5 := fun W => rnumber_any bn 100 (by omega) (by rw [Lib.size_eq]; omega) W
  clear hb2 HB1
  have HP : Hid ((A = true ∧ B = true ∧ ((Mb.entsL rest.data.toList = none → Mb.readL s.data.toList = none) ∧ ∀ xs, Mb.entsL rest.data.toList = some xs → Mb.parseR s.data.toList = some (Mb.numV be.data.toList 99, Mb.numV bn.data.toList 100, xs))) ∨ ((A = false ∨ (A = true ∧ B = false)) ∧ Mb.readL s.data.toList = none)) := by
    rcases hA with ⟨rfl, hA⟩ | ⟨rfl, hA⟩
    · rcases hB with ⟨rfl, hB⟩ | ⟨rfl, hB⟩
      · exact Or.inl ⟨rfl, rfl, fun h => Mb.readL_none (parseR_no3 hA hB h), fun xs h => parseR_yes hA hB h⟩
      · exact Or.inr ⟨Or.inr ⟨rfl, rfl⟩, Mb.readL_none (parseR_no2 hA hB)⟩
    · exact Or.inr ⟨Or.inl rfl, Mb.readL_none (parseR_no1 hA)⟩
  clear hA hB hle hln hll
  have b0 := Mb.numV_le be.data.toList 99
  have b1 := Mb.numV_le bn.data.toList 100
  generalize Mb.numV be.data.toList 99 = E at g4 HP b0
  generalize Mb.numV bn.data.toList 100 = F at g5 HP b1
  rcases HP.out with ⟨rfl, rfl, hp1, hp2⟩ | ⟨hh, hp⟩
  · have HP1 := Lib.hid hp1
    have HP2 := Lib.hid hp2
    have hrest : rest.data.toList.length ≤ 400 := by omega
    clear hp1 hp2 HP hrl hsl
    go_wp2_with (first
      | (go_at_call_of 179 (be); refine (g4 _).mono ?_; rintro e w' ⟨rfl, rfl⟩)
      | (go_at_call_of 179 (bn); refine (g5 _).mono ?_; rintro e w' ⟨rfl, rfl⟩))
    clear g4 g5
    obtain ⟨i0, hi, hz0, hz1', hz2'⟩ := info_parts Tryz.info_entry
    have HEw : Hid (Env w) := hE
    have lE := b0.1
    clear hE b0 b1 lE
    have n0 := World.cell?_setCell_same w' ⟨w.heap.size + 1, 0, none⟩ (.int .i64 E) l0
    have n1 := World.cell?_setCell_same (w'.setCell ⟨w.heap.size + 1, 0, none⟩ (.int .i64 E)) ⟨w.heap.size + 1, 1, none⟩ (.int .i64 F) ((World.cell?_setCell_other _ _ _ _ (by simp)).trans l1)
    have n2 : ((w'.setCell ⟨w.heap.size + 1, 0, none⟩ (.int .i64 E)).setCell ⟨w.heap.size + 1, 1, none⟩ (.int .i64 F)).cell? ⟨w.heap.size + 1, 2, none⟩ = some (.slice none 0 0) := (World.cell?_setCell_other _ _ _ _ (by simp)).trans ((World.cell?_setCell_other _ _ _ _ (by simp)).trans l2)
    have n0' : ((w'.setCell ⟨w.heap.size + 1, 0, none⟩ (.int .i64 E)).setCell ⟨w.heap.size + 1, 1, none⟩ (.int .i64 F)).cell? ⟨w.heap.size + 1, 0, none⟩ = some (.int .i64 E) := (World.cell?_setCell_other _ _ _ _ (by simp)).trans n0
    have HS : Hid (Below (w.heap.size + 1) w' ((w'.setCell ⟨w.heap.size + 1, 0, none⟩ (.int .i64 E)).setCell ⟨w.heap.size + 1, 1, none⟩ (.int .i64 F))) := ((Below.refl _ _).setCell (by simp) _).setCell (by simp) _
    go_loopw [6] (fun r wr => ∃ (t : ByteArray) (k : Nat) (a : Option Addr) (cap : Nat) (ys : List Mb.Ent), r = .string t ∧ k + t.data.toList.length ≤ 400 ∧ Hid (Mb.entsL rest.data.toList = (Mb.entsL t.data.toList).map (ys ++ ·)) ∧ Hid (ys.length = k ∧ ∀ x ∈ ys, x.flags.length ≤ 4) ∧ wr.cell? ⟨w.heap.size + 1, 0, none⟩ = some (.int .i64 E) ∧ wr.cell? ⟨w.heap.size + 1, 1, none⟩ = some (.int .i64 F) ∧ wr.cell? ⟨w.heap.size + 1, 2, none⟩ = some (.slice a k cap) ∧ wr.frozen? ⟨w.heap.size + 1, 2, none⟩ = false ∧ Hid (wr.ownsRow (w.heap.size + 2) 221 3 (.slice a k cap) k (entCells ys)) ∧ Below (w.heap.size + 1) w' wr) (fun r _ => strLen r)
    case atStart => exact ⟨rest, 0, none, 0, [], rfl, by omega, by unfold Hid; cases Mb.entsL rest.data.toList <;> simp, ⟨rfl, fun x hx => by cases hx⟩, n0', n1, n2, by simpa using m2, World.ownsRow_nil _ _ _ _, HS.out⟩
    case round =>
      clear n0 n1 n2 n0' HS l0 l1 l2 m0 m1 m2
      obtain ⟨t, k, a, cap, ys, rfl, hkt, HEnt, HYs, k0, k1, k2, kf, Hown, hbl⟩ := hrel
      have hsz := hbl.size
      have hEr : Env wr := HEw.out.below (HB2.out.trans (hbl.mono (by omega))) (Nat.le_refl _)
      replace r0 := (hbl.cell (p := ⟨w.heap.size, 0, none⟩) (by simp)).trans r0
      replace r1 := (hbl.cell (p := ⟨w.heap.size, 1, none⟩) (by simp)).trans r1
      replace r2 := (hbl.cell (p := ⟨w.heap.size, 2, none⟩) (by simp)).trans r2
      replace f0 := (hbl.frozen (p := ⟨w.heap.size, 0, none⟩) (by simp)).trans f0
      replace f1 := (hbl.frozen (p := ⟨w.heap.size, 1, none⟩) (by simp)).trans f1
      replace f2 := (hbl.frozen (p := ⟨w.heap.size, 2, none⟩) (by simp)).trans f2
      have HBr := Lib.hid (HB2.out.trans (hbl.mono (by omega)))
      have HBL := Lib.hid hbl
      have HEr := Lib.hid hEr
      have g := rcut_any t 10 (by rw [Lib.size_eq]; omega) wr
      clear hbl hEr
      go_wp2_with fail
      go_at_call 178
      refine g.mono (fun e w3 hpost => ?_)
      obtain ⟨⟨v3, rfl, ln, rs, C, rfl, hC, hlln, hlrs⟩, hb3⟩ := hpost
      clear g
      have hz3 := hb3.size
      replace r0 := (hb3.cell (p := ⟨w.heap.size, 0, none⟩) (by simp; omega)).trans r0
      replace r1 := (hb3.cell (p := ⟨w.heap.size, 1, none⟩) (by simp; omega)).trans r1
      replace r2 := (hb3.cell (p := ⟨w.heap.size, 2, none⟩) (by simp; omega)).trans r2
      replace f0 := (hb3.frozen (p := ⟨w.heap.size, 0, none⟩) (by simp; omega)).trans f0
      replace f1 := (hb3.frozen (p := ⟨w.heap.size, 1, none⟩) (by simp; omega)).trans f1
      replace f2 := (hb3.frozen (p := ⟨w.heap.size, 2, none⟩) (by simp; omega)).trans f2
      replace k0 := (hb3.cell (p := ⟨w.heap.size + 1, 0, none⟩) (by simp; omega)).trans k0
      replace k1 := (hb3.cell (p := ⟨w.heap.size + 1, 1, none⟩) (by simp; omega)).trans k1
      replace k2 := (hb3.cell (p := ⟨w.heap.size + 1, 2, none⟩) (by simp; omega)).trans k2
      replace kf := (hb3.frozen (p := ⟨w.heap.size + 1, 2, none⟩) (by simp; omega)).trans kf
      have HB3 := Lib.hid (HBr.out.trans (hb3.mono (by omega)))
      have HBL3 := Lib.hid (HBL.out.trans (hb3.mono (by omega)))
      have HE3 := Lib.hid (HEr.out.below hb3 (Nat.le_refl _))
      have HO3 := Lib.hid (owns_below Hown.out hb3)
      clear hb3 HBL HEr Hown
      rcases hC with ⟨rfl, hC⟩ | ⟨rfl, hC⟩
      · by_cases hrs : rs.data.toList = []
        · have hse : rs = ⟨#[]⟩ := by apply ByteArray.ext; apply Array.ext'; simpa using hrs
          subst hse
          have HF : Hid (Mb.parseR s.data.toList = some (E, F, ys)) := by
            refine HP2.out ys ?_
            rw [HEnt.out, Mb.entsL_last hC]
            simp
          clear hC hrs hlrs
          have hyl := HYs.out.1
          obtain ⟨hsl3, hcap3, hnew3⟩ := slAt_of_owns HO3.out hyl
          have HYF := Lib.hid (fun (x : Mb.Ent) (hx : x ∈ ys) => show x.flags.length ≤ maxLen by have := HYs.out.2 x hx; unfold maxLen; omega)
          have hyl2 : ys.length ≤ maxLen := by unfold maxLen; omega
          subst hyl
          have HNE : Hid (∀ b off, a = some ⟨b, off, none⟩ → b ≠ w.heap.size) := fun b off hb => by have := hnew3 b off hb; omega
          clear hnew3 HYs
          have HSL := Lib.hid hsl3
          by_cases hok : Mb.listOk E F ys = true
          · have gw := rwrite_yes E F a cap ys w3 HE3.out hsl3 hyl2 hcap3 HYF.out hok
            obtain ⟨bT, HbT, HbT'⟩ := named_bytes (Mb.textOf E F ys)
            rw [← HbT.out] at gw
            by_cases hT : Mb.textOf E F ys = s.data.toList
            · have hd : (bT.toList == s.toList) = true := by rw [ByteArray.toList_eq, ByteArray.toList_eq, HbT'.out]; simpa using hT
              have HRR : Hid (Mb.readL s.data.toList = some (E, F, ys)) := Mb.readL_ok hok hT
              clear hok hT hsl3 HF
              go_wp2_with fail
              go_at_call 110
              refine gw.mono (fun e w4 hpost => ?_)
              obtain ⟨rfl, hb4⟩ := hpost
              clear gw
              replace r0 := (hb4.cell (p := ⟨w.heap.size, 0, none⟩) (by simp; omega)).trans r0
              replace r1 := (hb4.cell (p := ⟨w.heap.size, 1, none⟩) (by simp; omega)).trans r1
              replace r2 := (hb4.cell (p := ⟨w.heap.size, 2, none⟩) (by simp; omega)).trans r2
              replace f0 := (hb4.frozen (p := ⟨w.heap.size, 0, none⟩) (by simp; omega)).trans f0
              replace f1 := (hb4.frozen (p := ⟨w.heap.size, 1, none⟩) (by simp; omega)).trans f1
              replace f2 := (hb4.frozen (p := ⟨w.heap.size, 2, none⟩) (by simp; omega)).trans f2
              replace k0 := (hb4.cell (p := ⟨w.heap.size + 1, 0, none⟩) (by simp; omega)).trans k0
              replace k1 := (hb4.cell (p := ⟨w.heap.size + 1, 1, none⟩) (by simp; omega)).trans k1
              replace k2 := (hb4.cell (p := ⟨w.heap.size + 1, 2, none⟩) (by simp; omega)).trans k2
              have HB4 := Lib.hid (HB3.out.trans (hb4.mono (by omega)))
              have HS4 := Lib.hid (HSL.out.below hb4 (Nat.le_refl _))
              have HO4 := Lib.hid (owns_below HO3.out hb4)
              clear hb4
              go_wp2
              obtain ⟨b0, b1, b2⟩ := box3 r0 r1 r2 (.int .i64 E) (.int .i64 F) (.slice a ys.length cap)
              refine bodyPost_ret (v := .tuple #[.agg #[.int .i64 E, .int .i64 F, .slice a ys.length cap], .int .i64 0]) (by simp [results, Tryz.results113, go_sem, b0, b1, b2]) rfl ?_
              rw [HRR.out]
              exact ⟨a, cap, rfl, ((HB4.out.setCell (by simp) _).setCell (by simp) _).setCell (by simp) _, ((HS4.out.setCell _ _ HNE.out).setCell _ _ HNE.out).setCell _ _ HNE.out, hcap3, OwnE.base (ownsRow_setCell_below (ownsRow_setCell_below (ownsRow_setCell_below HO4.out (by simp) _) (by simp) _) (by simp) _) (by omega)⟩
            · have hd : (bT.toList == s.toList) = false := by rw [ByteArray.toList_eq, ByteArray.toList_eq, HbT'.out]; simpa using hT
              have HRR : Hid (Mb.readL s.data.toList = none) := Mb.readL_bad HF.out (fun hh => hT hh.2)
              clear hok hT hsl3 HF
              go_wp2_with fail
              go_at_call 110
              refine gw.mono (fun e w4 hpost => ?_)
              obtain ⟨rfl, hb4⟩ := hpost
              clear gw
              replace r0 := (hb4.cell (p := ⟨w.heap.size, 0, none⟩) (by simp; omega)).trans r0
              replace r1 := (hb4.cell (p := ⟨w.heap.size, 1, none⟩) (by simp; omega)).trans r1
              replace r2 := (hb4.cell (p := ⟨w.heap.size, 2, none⟩) (by simp; omega)).trans r2
              replace f0 := (hb4.frozen (p := ⟨w.heap.size, 0, none⟩) (by simp; omega)).trans f0
              replace f1 := (hb4.frozen (p := ⟨w.heap.size, 1, none⟩) (by simp; omega)).trans f1
              replace f2 := (hb4.frozen (p := ⟨w.heap.size, 2, none⟩) (by simp; omega)).trans f2
              have HB4 := Lib.hid (HB3.out.trans (hb4.mono (by omega)))
              clear hb4
              go_wp2
              obtain ⟨b0, b1, b2⟩ := box3 r0 r1 r2 (.int .i64 0) (.int .i64 0) (.slice none 0 0)
              refine bodyPost_ret (v := .tuple #[.agg #[.int .i64 0, .int .i64 0, .slice none 0 0], .int .i64 3]) (by simp [results, Tryz.results113, go_sem, b0, b1, b2]) rfl ?_
              rw [HRR.out]
              exact ⟨rfl, ((HB4.out.setCell (by simp) _).setCell (by simp) _).setCell (by simp) _⟩
          · have hno : Mb.listOk E F ys = false := by simpa using hok
            have gw := rwrite_no E F a cap ys w3 hsl3 hyl2 hcap3 HYF.out hno
            have HRR : Hid (Mb.readL s.data.toList = none) := Mb.readL_bad HF.out (fun hh => hok hh.1)
            clear hok hno hsl3 HF
            go_wp2_with fail
            go_at_call 110
            refine gw.mono (fun e w4 hpost => ?_)
            obtain ⟨rfl, hb4⟩ := hpost
            clear gw
            replace r0 := (hb4.cell (p := ⟨w.heap.size, 0, none⟩) (by simp; omega)).trans r0
            replace r1 := (hb4.cell (p := ⟨w.heap.size, 1, none⟩) (by simp; omega)).trans r1
            replace r2 := (hb4.cell (p := ⟨w.heap.size, 2, none⟩) (by simp; omega)).trans r2
            replace f0 := (hb4.frozen (p := ⟨w.heap.size, 0, none⟩) (by simp; omega)).trans f0
            replace f1 := (hb4.frozen (p := ⟨w.heap.size, 1, none⟩) (by simp; omega)).trans f1
            replace f2 := (hb4.frozen (p := ⟨w.heap.size, 2, none⟩) (by simp; omega)).trans f2
            have HB4 := Lib.hid (HB3.out.trans (hb4.mono (by omega)))
            clear hb4
            go_wp2
            obtain ⟨b0, b1, b2⟩ := box3 r0 r1 r2 (.int .i64 0) (.int .i64 0) (.slice none 0 0)
            refine bodyPost_ret (v := .tuple #[.agg #[.int .i64 0, .int .i64 0, .slice none 0 0], .int .i64 3]) (by simp [results, Tryz.results113, go_sem, b0, b1, b2]) rfl ?_
            rw [HRR.out]
            exact ⟨rfl, ((HB4.out.setCell (by simp) _).setCell (by simp) _).setCell (by simp) _⟩
        · have hemp : rs.toList.isEmpty = false := by rw [ByteArray.toList_eq]; simpa using hrs
          have hlt := Mb.cutL_len hC
          have g := rentry_any ln (by rw [Lib.size_eq]; omega) w3
          have HC := Lib.hid hC
          have HRS := Lib.hid hrs
          clear hC hrs
          go_wp2_with fail
          go_at_call 180
          refine g.mono (fun e w4 hpost => ?_)
          obtain ⟨⟨v4, rfl, Kx, Ux, gx, G, rfl, hG⟩, hb4⟩ := hpost
          clear g
          have hz4 := hb4.size
          replace r0 := (hb4.cell (p := ⟨w.heap.size, 0, none⟩) (by simp; omega)).trans r0
          replace r1 := (hb4.cell (p := ⟨w.heap.size, 1, none⟩) (by simp; omega)).trans r1
          replace r2 := (hb4.cell (p := ⟨w.heap.size, 2, none⟩) (by simp; omega)).trans r2
          replace f0 := (hb4.frozen (p := ⟨w.heap.size, 0, none⟩) (by simp; omega)).trans f0
          replace f1 := (hb4.frozen (p := ⟨w.heap.size, 1, none⟩) (by simp; omega)).trans f1
          replace f2 := (hb4.frozen (p := ⟨w.heap.size, 2, none⟩) (by simp; omega)).trans f2
          replace k0 := (hb4.cell (p := ⟨w.heap.size + 1, 0, none⟩) (by simp; omega)).trans k0
          replace k1 := (hb4.cell (p := ⟨w.heap.size + 1, 1, none⟩) (by simp; omega)).trans k1
          replace k2 := (hb4.cell (p := ⟨w.heap.size + 1, 2, none⟩) (by simp; omega)).trans k2
          replace kf := (hb4.frozen (p := ⟨w.heap.size + 1, 2, none⟩) (by simp; omega)).trans kf
          have HB4 := Lib.hid (HB3.out.trans (hb4.mono (by omega)))
          have HBL4 := Lib.hid (HBL3.out.trans (hb4.mono (by omega)))
          have HO4 := Lib.hid (owns_below HO3.out hb4)
          clear hb4 HBL3 HO3 HE3
          rcases hG with ⟨rfl, hG⟩ | ⟨rfl, hG⟩
          · have HF : Hid (Mb.entsL rest.data.toList = (Mb.entsL rs.data.toList).map ((ys ++ [(⟨Kx, Ux, gx.data.toList⟩ : Mb.Ent)]) ++ ·)) := by
              unfold Hid
              rw [HEnt.out, Mb.entsL_go HC.out HRS.out hG]
              cases Mb.entsL rs.data.toList <;> simp
            have HFl : Hid ((ys ++ [(⟨Kx, Ux, gx.data.toList⟩ : Mb.Ent)]).length = k + 1 ∧ ∀ x ∈ (ys ++ [(⟨Kx, Ux, gx.data.toList⟩ : Mb.Ent)]), x.flags.length ≤ 4) := by
              refine ⟨by simp [HYs.out.1], fun x hx => ?_⟩
              rcases List.mem_append.1 hx with hx | hx
              · exact HYs.out.2 x hx
              · rw [List.mem_singleton.1 hx]; exact entL_flags hG
            clear hG HC HRS HEnt HYs
            have hown4 := HO4.out
            have q2 : ∀ o, (w4.alloc o).cell? ⟨w.heap.size + 1, 2, none⟩ = some (.slice a k cap) := fun o => (((Below.refl _ _).alloc (Nat.le_refl _) o).cell (p := ⟨w.heap.size + 1, 2, none⟩) (by simp; omega)).trans k2
            clear HO4
            go_wp2_with (at_builtin; refine wpList_append_own _ rfl (.tmp 64) (.tmp 66) 78 rfl (w.heap.size + 2) 221 i0 (.agg #[.int .i64 0, .int .i64 0, .string ByteArray.empty]) 3 32 Tryz.underlying78 hi hz0 hz1' hz2' rfl (by decide) (.slice a k cap) k (entCells ys) rfl ((hown4.alloc _).alloc _) ⟨w4.heap.size + 1, 0, none⟩ 1 1 [.int .i64 Kx, .int .i64 Ux, .string gx] rfl rfl ?c1 ?c2 ?c3 ?c4 ?c5 ?_)
            case c1 => exact fun j u hj => new_cells w4 _ _ _ _ _ j u hj
            case c2 => intro u hu; simp only [List.mem_cons, List.not_mem_nil, or_false] at hu; rcases hu with rfl | rfl | rfl <;> rfl
            case c3 => unfold maxLen; omega
            case c4 => omega
            case c5 => simp; omega
            intro v' w5 hown5 hgrow5 hnil5
            obtain ⟨gg, cap', hv', hgg⟩ := owns_form hown5 hnil5
            have hrow : ∀ j, (Value.slice a k cap).ownBlock = some j → w.heap.size + 2 ≤ j := owns_row_ge hown4
            have hMr : some (w.heap.size + 1) ≠ (Value.slice a k cap).ownBlock := fun h => by have := hrow _ h.symm; omega
            have hblkM := hgrow5.block (w.heap.size + 1) (by simp; omega) hMr
            have hB4 : Below w4.heap.size w4 ((w4.alloc (.cells #[.int .i64 Kx, .int .i64 Ux, .string gx] 221)).alloc (.cells #[.int .i64 Kx, .int .i64 Ux, .string gx] 221)) := ((Below.refl _ _).alloc (Nat.le_refl _) _).alloc (by simp) _
            have m0 := (World.cell?_of_block (a := ⟨w.heap.size + 1, 0, none⟩) hblkM).trans ((hB4.cell (p := ⟨w.heap.size + 1, 0, none⟩) (by simp; omega)).trans k0)
            have m1 := (World.cell?_of_block (a := ⟨w.heap.size + 1, 1, none⟩) hblkM).trans ((hB4.cell (p := ⟨w.heap.size + 1, 1, none⟩) (by simp; omega)).trans k1)
            have m2 := (World.cell?_of_block (a := ⟨w.heap.size + 1, 2, none⟩) hblkM).trans ((hB4.cell (p := ⟨w.heap.size + 1, 2, none⟩) (by simp; omega)).trans k2)
            have mf := (World.frozen?_of_block (a := ⟨w.heap.size + 1, 2, none⟩) hblkM).trans ((hB4.frozen (p := ⟨w.heap.size + 1, 2, none⟩) (by simp; omega)).trans kf)
            have HB5 : Hid (Below (w.heap.size + 1) w' w5) := ((HBL4.out.alloc (by omega) _).alloc (by simp; omega) _).grown hgrow5 (by simp; omega) (fun j hj => by have := hrow j hj; omega)
            have hes : entCells (ys ++ [(⟨Kx, Ux, gx.data.toList⟩ : Mb.Ent)]) = entCells ys ++ [.int .i64 Kx, .int .i64 Ux, .string gx] := entCells_snoc ys ⟨Kx, Ux, gx.data.toList⟩
            rw [← hes] at hown5
            rw [hv'] at hown5 ⊢
            have Hown5 := Lib.hid hown5
            clear hown5 hgrow5 hnil5 hv' hown4 hrow hMr hblkM hB4 k0 k1 k2 kf q2 hes HBL4
            go_wp2
            go_roundw
            case rel =>
              exact ⟨rs, k + 1, some ⟨gg, 0, none⟩, cap', _, rfl, by omega, HF, HFl, (World.cell?_setCell_other _ _ _ _ (by simp)).trans m0, (World.cell?_setCell_other _ _ _ _ (by simp)).trans m1, World.cell?_setCell_same _ _ _ m2, by simpa using mf, ownsRow_setCell_below Hown5.out (by simp) _, HB5.out.setCell (by simp) _⟩
            case measure => exact hlt
          · have HF : Hid (Mb.readL s.data.toList = none) := HP1.out (by rw [HEnt.out, Mb.entsL_bad HC.out HRS.out hG]; rfl)
            clear hG HC HRS HEnt HYs
            have hq : ∀ o, Below w4.heap.size w4 (w4.alloc o) := fun o => (Below.refl _ _).alloc (Nat.le_refl _) o
            have c0 : ∀ o, (w4.alloc o).cell? ⟨w.heap.size, 0, none⟩ = some (.int .i64 0) := fun o => ((hq o).cell (p := ⟨w.heap.size, 0, none⟩) (by simp; omega)).trans r0
            have c1 : ∀ o, (w4.alloc o).cell? ⟨w.heap.size, 1, none⟩ = some (.int .i64 0) := fun o => ((hq o).cell (p := ⟨w.heap.size, 1, none⟩) (by simp; omega)).trans r1
            have c2 : ∀ o, (w4.alloc o).cell? ⟨w.heap.size, 2, none⟩ = some (.slice none 0 0) := fun o => ((hq o).cell (p := ⟨w.heap.size, 2, none⟩) (by simp; omega)).trans r2
            have d0 : ∀ o, (w4.alloc o).frozen? ⟨w.heap.size, 0, none⟩ = false := fun o => ((hq o).frozen (p := ⟨w.heap.size, 0, none⟩) (by simp; omega)).trans f0
            have d1 : ∀ o, (w4.alloc o).frozen? ⟨w.heap.size, 1, none⟩ = false := fun o => ((hq o).frozen (p := ⟨w.heap.size, 1, none⟩) (by simp; omega)).trans f1
            have d2 : ∀ o, (w4.alloc o).frozen? ⟨w.heap.size, 2, none⟩ = false := fun o => ((hq o).frozen (p := ⟨w.heap.size, 2, none⟩) (by simp; omega)).trans f2
            clear hq r0 r1 r2 f0 f1 f2
            go_wp2
            obtain ⟨b0, b1, b2⟩ := box3 (c0 (.cells #[.int .i64 Kx, .int .i64 Ux, .string gx] 221)) (c1 _) (c2 _) (.int .i64 0) (.int .i64 0) (.slice none 0 0)
            refine bodyPost_ret (v := .tuple #[.agg #[.int .i64 0, .int .i64 0, .slice none 0 0], .int .i64 3]) (by simp [results, Tryz.results113, go_sem, b0, b1, b2]) rfl ?_
            rw [HF.out]
            exact ⟨rfl, (((HB4.out.alloc (by omega) _).setCell (by simp) _).setCell (by simp) _).setCell (by simp) _⟩
      · have HF : Hid (Mb.readL s.data.toList = none) := HP1.out (by rw [HEnt.out, Mb.entsL_none hC]; rfl)
        clear hC HEnt
        go_wp2
        obtain ⟨b0, b1, b2⟩ := box3 r0 r1 r2 (.int .i64 0) (.int .i64 0) (.slice none 0 0)
        refine bodyPost_ret (v := .tuple #[.agg #[.int .i64 0, .int .i64 0, .slice none 0 0], .int .i64 3]) (by simp [results, Tryz.results113, go_sem, b0, b1, b2]) rfl ?_
        rw [HF.out]
        exact ⟨rfl, ((HB3.out.setCell (by simp) _).setCell (by simp) _).setCell (by simp) _⟩
  · have HPn := Lib.hid hp
    clear hp HP
    rcases hh with rfl | ⟨rfl, rfl⟩
    all_goals go_wp2_with (first
      | (go_at_call_of 179 (be); refine (g4 _).mono ?_; rintro e w' ⟨rfl, rfl⟩)
      | (go_at_call_of 179 (bn); refine (g5 _).mono ?_; rintro e w' ⟨rfl, rfl⟩))
    all_goals have hq : ∀ j, ((w'.setCell ⟨w.heap.size + 1, 0, none⟩ (.int .i64 E)).setCell ⟨w.heap.size + 1, 1, none⟩ (.int .i64 F)).cell? ⟨w.heap.size, j, none⟩ = w'.cell? ⟨w.heap.size, j, none⟩ := fun j => (World.cell?_setCell_other _ _ _ _ (by simp)).trans (World.cell?_setCell_other _ _ _ _ (by simp))
    all_goals obtain ⟨b0, b1, b2⟩ := box3 ((hq 0).trans r0) ((hq 1).trans r1) ((hq 2).trans r2) (.int .i64 0) (.int .i64 0) (.slice none 0 0)
    all_goals refine bodyPost_ret (v := .tuple #[.agg #[.int .i64 0, .int .i64 0, .slice none 0 0], .int .i64 3]) (by simp [results, Tryz.results113, go_sem, b0, b1, b2]) rfl ?_
    all_goals rw [HPn.out]
    all_goals exact ⟨rfl, ((((HB2.out.setCell (by simp) _).setCell (by simp) _).setCell (by simp) _).setCell (by simp) _).setCell (by simp) _⟩

end Go.Proofs.YtldgiecjnmkajaaGreatDoor
