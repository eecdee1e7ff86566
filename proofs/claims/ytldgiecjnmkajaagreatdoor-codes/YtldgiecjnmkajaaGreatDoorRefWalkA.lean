/-
  OWN TEXT: strconv.FormatInt at base 16.
-/
import Derived.Test.YtldgiecjnmkajaaGreatDoorNameWalkC
namespace Go.Proofs.YtldgiecjnmkajaaGreatDoor
open Go.RowKit Go.Sort Go.Lib

set_option maxHeartbeats 12800000 in
set_option maxRecDepth 100000 in
theorem formatBits_str (u : Nat) (hu : u < 18446744073709551616) (w : World)
    (htz : w.cell? ⟨4, 15, none⟩ = some (.int .u8 4)) :
    Calls Tryz.prog 199 #[.slice none 0 0, .int .u64 u, .int .i64 16, .bool false, .bool false] w fun e w' => e = .returned (.tuple #[.slice none 0 0, .string ⟨(Mb.hexL u).toArray⟩]) ∧ Below w.heap.size w w' := by
  have hH := holds65 w 385
  have hgl : 4 < w.heap.size := Lib.lt_of_cell htz
  have htz1 : (w.alloc (.cells zeros65 385)).cell? ⟨4, 15, none⟩ = some (.int .u8 4) := by
    rw [World.cell?_alloc_past _ _ _ hgl]; exact htz
  go_enter Tryz.func199, Tryz.ntmps199
  go_wp2_with (first
    | (go_at_call 251; refine (pow_sixteen _).mono ?_; rintro e w' ⟨rfl, rfl⟩)
    | (go_at_call 252; refine (tz_sixteen _ htz1).mono ?_; rintro e w' ⟨rfl, rfl⟩))
  go_loopw [1, 13] (fun vu vi wr => ∃ (v i n : Nat) (dk : Array UInt8), vu = .int .u64 v ∧ vi = .int .i64 (i + 1 : Nat) ∧ wr = (putRow (fun (b : UInt8) => Value.int .u8 (b.toNat : Int)) (w.alloc (.cells zeros65 385)) w.heap.size 0 dk).drewN n ∧ Hid (HexInv u v (i + 1) dk ∧ v < 18446744073709551616)) (fun vu _ _ => (RowKit.intOf vu).toNat)
  case atStart => exact ⟨u, 64, 0, Array.replicate 65 0, rfl, rfl, (putRow_self _ _ _ _ _ hH).symm, HexInv.start u hu, hu⟩
  case round =>
    obtain ⟨v, i, k, dk, rfl, rfl, hw0, HI⟩ := hrel
    rename World => W0
    have AH := Lib.hid hH
    clear hH
    have hv64 := HI.out.2
    have hs0 := HI.out.1.size
    have hlo := HI.out.1.lo
    have hhi := HI.out.1.hi
    have hH0 : Holds (fun (b : UInt8) => Value.int .u8 (b.toNat : Int)) W0 w.heap.size 0 dk := by rw [hw0]; exact holds_putRow _ _ _ _ _ dk AH.out (by rw [hs0]; simp)
    obtain ⟨G0, hG0⟩ : ∃ G : Nat → Int, ∀ t, G t = (dk[t]!.toNat : Int) := ⟨_, fun _ => rfl⟩
    have hc0 : W0.cell? ⟨w.heap.size, i, none⟩ = some (.int .u8 (G0 i)) := by rw [hG0]; have := (hH0 i (by omega)).1; rwa [Nat.zero_add] at this
    have hf0 : W0.frozen? ⟨w.heap.size, i, none⟩ = false := by have := (hH0 i (by omega)).2; rwa [Nat.zero_add] at this
    have AW := Lib.hid hw0
    clear hw0 hG0 hH0
    by_cases h16 : 16 ≤ v
    · have hX : ∀ W, (Instr.index 9 (.string ⟨#[48, 49, 50, 51, 52, 53, 54, 55, 56, 57, 97, 98, 99, 100, 101, 102, 103, 104, 105, 106, 107, 108, 109, 110, 111, 112, 113, 114, 115, 116, 117, 118, 119, 120, 121, 122]⟩) (.int .u64 ((v % 16 : Nat) : Int))).run Tryz.prog W = .ok (.int .u8 ((Mb.hexByte (v % 16)).toNat : Int)) W := fun W => idx_dig .u64 _ (v % 16) rfl (by omega) W
      have hA := and15 v hv64
      generalize hz : ((v % 16 : Nat) : Int) = z at hX hA
      clear hz
      go_wp2
      have hst := HI.out.1.step h16
      have hpos := hst.lo
      have hi1 : i - 1 + 1 = i := by omega
      refine ⟨⟨v / 16, i - 1, k, dk.setIfInBounds i (Mb.hexByte (v % 16)), by congr 1, by rw [hi1], ?_, ?_⟩, ?_⟩
      · rw [AW.out]
        have := store1_world (w.alloc (.cells zeros65 385)) w.heap.size 0 dk k i (Mb.hexByte (v % 16)) (by omega)
        rw [Nat.zero_add] at this
        exact this
      · rw [hi1]; exact Lib.hid ⟨hst, by omega⟩
      · simp [RowKit.intOf]; omega
    · have hX : ∀ W, (Instr.index 9 (.string ⟨#[48, 49, 50, 51, 52, 53, 54, 55, 56, 57, 97, 98, 99, 100, 101, 102, 103, 104, 105, 106, 107, 108, 109, 110, 111, 112, 113, 114, 115, 116, 117, 118, 119, 120, 121, 122]⟩) (.int .u64 (v : Int))).run Tryz.prog W = .ok (.int .u8 ((Mb.hexByte v).toNat : Int)) W := fun W => idx_dig .u64 _ v rfl (by omega) W
      have HL := Lib.hid (HI.out.1.last (by omega))
      have hlast : W0.setCell ⟨w.heap.size, i, none⟩ (.int .u8 ((Mb.hexByte v).toNat : Int)) = (putRow (fun (b : UInt8) => Value.int .u8 (b.toNat : Int)) (w.alloc (.cells zeros65 385)) w.heap.size 0 (dk.setIfInBounds i (Mb.hexByte v))).drewN k := by
        rw [AW.out]
        have := store1_world (w.alloc (.cells zeros65 385)) w.heap.size 0 dk k i (Mb.hexByte v) (by omega)
        rw [Nat.zero_add] at this
        exact this
      have hd2 : (dk.setIfInBounds i (Mb.hexByte v)).size = 65 := by simp [hs0]
      generalize dk.setIfInBounds i (Mb.hexByte v) = dk2 at HL hlast hd2
      have hlenH : (Mb.hexL u).length = 65 - i := by rw [← HL.out, List.length_drop]; simp [hd2]
      have hcells : ∀ j u', (Lib.byteCells (Mb.hexL u))[j]? = some u' → (W0.setCell ⟨w.heap.size, i, none⟩ (.int .u8 ((Mb.hexByte v).toNat : Int))).cell? ((⟨w.heap.size, i, none⟩ : Addr).add j) = some u' := by
        intro j u' hj
        have hjl : j < (Mb.hexL u).length := by
          have h5 := (List.getElem?_eq_some_iff.1 hj).1
          rwa [Lib.byteCells_length] at h5
        have e5 : (Lib.byteCells (Mb.hexL u))[j]? = some (Value.int .u8 ((Mb.hexL u)[j].toNat : Int)) := by simp [Lib.byteCells, hjl]
        rw [e5] at hj
        cases hj
        have e6 : (Mb.hexL u)[j] = dk2[i + j]! := by
          have e7 : (Mb.hexL u)[j]? = some dk2[i + j]! := by
            rw [← HL.out, List.getElem?_drop, getElem!_pos dk2 (i + j) (by omega)]
            simp
          rw [List.getElem?_eq_getElem hjl] at e7
          exact Option.some.inj e7
        rw [e6, Lib.add_plain, hlast, World.cell?_drewN]
        have := cell?_putRow (fun (b : UInt8) => Value.int .u8 (b.toNat : Int)) (w.alloc (.cells zeros65 385)) w.heap.size 0 _ dk2 AH.out (by rw [hd2]; simp) (i + j) (by omega)
        rw [Nat.zero_add] at this
        exact this
      obtain ⟨os, eo⟩ := Lib.fin_at w (.cells zeros65 385) dk2 k 0
      rw [eo] at hlast
      have hnx2 : Below w.heap.size w (W0.setCell ⟨w.heap.size, i, none⟩ (.int .u8 ((Mb.hexByte v).toNat : Int))) := by rw [hlast]; exact Lib.below_grow w.heap.size w (Nat.le_refl _) k os
      have hal : Tryz.prog.arrayLen 385 = 65 := by simp [Program.arrayLen, Tryz.underlying385]
      have iv : (v : Int) < 16 := by omega
      have hsl := slice65 w.heap.size i (by omega)
      have hcv : (convert 181 9 (.slice (some ⟨w.heap.size, i, none⟩) (65 - i) (65 - i))).run Tryz.prog (W0.setCell ⟨w.heap.size, i, none⟩ (.int .u8 ((Mb.hexByte v).toNat : Int))) = .ok (.string ⟨(Mb.hexL u).toArray⟩) (W0.setCell ⟨w.heap.size, i, none⟩ (.int .u8 ((Mb.hexByte v).toNat : Int))) := by
        rw [← hlenH]
        refine run_convert_bytes_back _ _ _ 5 ⟨w.heap.size, i, none⟩ _ (Mb.hexL u) Tryz.underlying181 Tryz.underlying5 Tryz.underlying9 fun j hj => ?_
        exact hcells j _ (by simp [Lib.byteCells, hj])
      clear HI AW eo hlast h16 HL AH hd2 hcells hlenH
      go_wp2
      go_ret2
      exact ⟨rfl, hnx2⟩

theorem formatInt_inner (u : Nat) (hu : u < 9223372036854775808) (w : World)
    (htz : w.cell? ⟨4, 15, none⟩ = some (.int .u8 4)) :
    Calls Tryz.prog 138 #[.int .i64 u, .int .i64 16] w fun e w' => e = .returned (.string ⟨(Mb.hexL u).toArray⟩) ∧ Below w.heap.size w w' := by
  have h0 : 0 ≤ (u : Int) := by omega
  have hF := formatBits_str u (by omega) w htz
  go_enter Tryz.func138, Tryz.ntmps138
  go_wp2_with fail
  go_at_call 199
  refine hF.mono (fun e w2 hpost => ?_)
  obtain ⟨rfl, hb2⟩ := hpost
  go_wp2
  go_ret
  exact ⟨rfl, hb2⟩

/-- strconv.FormatInt(.., 16) of a number that is not negative -/
theorem formatInt_any (u : Nat) (hu : u < 9223372036854775808) (w : World)
    (htz : w.cell? ⟨4, 15, none⟩ = some (.int .u8 4)) :
    Calls Tryz.prog 169 #[.int .i64 u, .int .i64 16] w fun e w' => e = .returned (.string ⟨(Mb.hexL u).toArray⟩) ∧ Below w.heap.size w w' := by
  have hF := formatInt_inner u hu w htz
  go_enter Tryz.func169, Tryz.ntmps169
  go_wp2_with fail
  go_at_call 138
  refine hF.mono (fun e w2 hpost => ?_)
  obtain ⟨rfl, hb2⟩ := hpost
  go_wp2
  go_ret
  exact ⟨rfl, hb2⟩

end Go.Proofs.YtldgiecjnmkajaaGreatDoor
