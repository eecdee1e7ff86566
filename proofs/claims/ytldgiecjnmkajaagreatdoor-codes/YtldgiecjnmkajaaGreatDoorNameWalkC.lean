/-
  OWN TEXT: strconv.AppendInt at base 16.
-/
import Derived.Test.YtldgiecjnmkajaaGreatDoorNameWalkB
import Derived.Lib.ItoaWalk
import Derived.Lib.ItoaMem
import Derived.Lib.AppendIntMem
import Derived.Lib.BufferKept
import Derived.Lib.OwnKind
import Derived.Lib.Slices
import Derived.Laws.Bits64b
import Derived.OwnWalk
import Derived.CellFam
import Derived.LoopTactic
namespace Go.Proofs.YtldgiecjnmkajaaGreatDoor
open Go.RowKit Go.Sort Go.Lib

/-- besides, what the table of trailing zeros holds for 16 -/
structure EnvN (w : World) : Prop where
  env : Env w
  tz : w.cell? ⟨4, 15, none⟩ = some (.int .u8 4)

theorem EnvN.below {w w' : World} {B : Nat} (h : EnvN w) (hb : Below B w w') (hB : w.heap.size ≤ B) : EnvN w' :=
  ⟨h.env.below hb hB, (hb.cell (by have := Lib.lt_of_cell h.tz; omega)).trans h.tz⟩

theorem tz_key : IntKind.u64.wrap (bits BinOp.and IntKind.u64 (16 : Int) (IntKind.u64.wrap (-(16 : Int))) * 285870213051353865) / 288230376151711744 = (15 : Int) := by
  have e1 : IntKind.u64.wrap (-(16 : Int)) = ((18446744073709551600 : Nat) : Int) := by rw [IntKind.wrap_u64]; decide
  have e2 : (16 : Int) = ((16 : Nat) : Int) := rfl
  rw [e1, e2, bits_and_u64_nat 16 _ (by omega) (by omega), IntKind.wrap_u64]
  have e3 : (16 &&& 18446744073709551600 : Nat) = 16 := by decide
  rw [e3]
  decide

theorem tz64_sixteen (w : World) (h : w.cell? ⟨4, 15, none⟩ = some (.int .u8 4)) :
    Calls Tryz.prog 318 #[.int .u64 16] w fun e w' => e = .returned (.int .i64 4) ∧ w' = w := by
  have key := tz_key
  go_enter Tryz.func318, Tryz.ntmps318
  go_wp2_with (simp only [key])
  go_ret
  exact ⟨rfl, rfl⟩

theorem tz_sixteen (w : World) (h : w.cell? ⟨4, 15, none⟩ = some (.int .u8 4)) :
    Calls Tryz.prog 252 #[.int .u64 16] w fun e w' => e = .returned (.int .i64 4) ∧ w' = w := by
  go_enter Tryz.func252, Tryz.ntmps252
  go_wp2_with (go_at_call 318; refine (tz64_sixteen _ h).mono ?_; rintro e w' ⟨rfl, rfl⟩)
  go_ret
  exact ⟨rfl, rfl⟩

theorem pow_key : bits BinOp.and IntKind.i64 16 15 = 0 := by decide +kernel
theorem pow_sixteen (w : World) :
    Calls Tryz.prog 251 #[.int .i64 16] w fun e w' => e = .returned (.bool true) ∧ w' = w := by
  have key := pow_key
  go_enter Tryz.func251, Tryz.ntmps251
  go_wp2_with (simp only [key])
  go_ret
  exact ⟨rfl, rfl⟩

/-! ### the digits -/

def digStr : ByteArray := ⟨#[48, 49, 50, 51, 52, 53, 54, 55, 56, 57, 97, 98, 99, 100, 101, 102, 103, 104, 105, 106, 107, 108, 109, 110, 111, 112, 113, 114, 115, 116, 117, 118, 119, 120, 121, 122]⟩
theorem digStr_at (i : Nat) (hi : i < 16) : digStr[i]'(show i < digStr.size by have : digStr.size = 36 := rfl; omega) = Mb.hexByte i := by
  have hall : ∀ i : Fin 16, digStr.data.toList[i.val]? = some (Mb.hexByte i.val) := by decide
  have h := hall ⟨i, hi⟩
  have hs : i < digStr.data.toList.length := by have : digStr.data.toList.length = 36 := rfl; omega
  rw [List.getElem?_eq_getElem hs, Option.some.injEq] at h
  exact h
theorem idx_dig (k : IntKind) (z : Int) (i : Nat) (hz : z = (i : Int)) (hi : i < 16) (w : World) :
    (Instr.index 9 (.string digStr) (.int k z)).run Tryz.prog w = .ok (.int .u8 ((Mb.hexByte i).toNat : Int)) w := by
  subst hz
  have hs : digStr.size = 36 := rfl
  rw [run_index_string w 9 digStr k _ Tryz.underlying9, dif_pos ⟨by omega, by omega⟩]
  have e : ((i : Int)).toNat = i := by omega
  simp only [e]
  rw [digStr_at i hi]

theorem and15 (v : Nat) (h : v < 18446744073709551616) : bits .and .u64 (v : Int) 15 = ((v % 16 : Nat) : Int) := by
  have e : (15 : Int) = ((15 : Nat) : Int) := rfl
  rw [e, bits_and_u64_nat v 15 h (by omega)]
  congr 1
  exact Nat.and_two_pow_sub_one_eq_mod v 4

structure HexInv (u v i : Nat) (dk : Array UInt8) : Prop where
  size : dk.size = 65
  lo : 50 ≤ i
  hi : i ≤ 65
  small : v < 16 ^ (i - 49)
  is : Mb.hexL u = Mb.hexF (i - 49) v ++ dk.toList.drop i

theorem HexInv.start (u : Nat) (h : u < 18446744073709551616) : HexInv u u 65 (Array.replicate 65 0) :=
  ⟨by simp, by omega, by omega, by omega, by simp [Mb.hexL]⟩

theorem drop_setL (x : UInt8) : ∀ (l : List UInt8) (i : Nat), i < l.length → (l.set i x).drop i = x :: l.drop (i + 1)
  | [], i, h => by simp at h
  | _ :: l, 0, _ => rfl
  | _ :: l, i + 1, h => by
    simp only [List.set_cons_succ, List.drop_succ_cons]
    exact drop_setL x l i (by simpa using h)
theorem drop_set (dk : Array UInt8) (i : Nat) (x : UInt8) (h : i < dk.size) : (dk.setIfInBounds i x).toList.drop i = x :: dk.toList.drop (i + 1) := by
  rw [Array.toList_setIfInBounds]
  exact drop_setL x _ i (by simpa using h)
theorem HexInv.step {u v i : Nat} {dk : Array UInt8} (h : HexInv u v (i + 1) dk) (h16 : 16 ≤ v) : HexInv u (v / 16) i (dk.setIfInBounds i (Mb.hexByte (v % 16))) := by
  obtain ⟨h1, h2, h3, h4, h5⟩ := h
  have hi : 50 ≤ i := by
    rcases Nat.lt_or_ge i 50 with hlt | hge
    · have : i = 49 := by omega
      subst this
      simp at h4; omega
    · exact hge
  have e : i + 1 - 49 = (i - 49) + 1 := by omega
  rw [e, Nat.pow_succ] at h4
  rw [e, Mb.hexF, if_neg (by omega)] at h5
  refine ⟨by simp [h1], hi, by omega, by omega, ?_⟩
  rw [h5, drop_set _ _ _ (by omega), List.append_assoc]; rfl
theorem HexInv.last {u v i : Nat} {dk : Array UInt8} (h : HexInv u v (i + 1) dk) (h16 : v < 16) : (dk.setIfInBounds i (Mb.hexByte v)).toList.drop i = Mb.hexL u := by
  obtain ⟨h1, h2, h3, h4, h5⟩ := h
  have e : i + 1 - 49 = (i - 49) + 1 := by omega
  rw [e, Mb.hexF, if_pos h16] at h5
  rw [h5, drop_set _ _ _ (by omega)]; rfl

def zeros65 : Array Value := Array.replicate 65 (.int .u8 0)

theorem holds65 (w : World) (T : TypeId) : Holds (fun (b : UInt8) => Value.int .u8 (b.toNat : Int)) (w.alloc (.cells zeros65 T)) w.heap.size 0 (Array.replicate 65 (0 : UInt8)) := fun j hj => by
  have hj' : j < 65 := by simpa using hj
  refine ⟨?_, World.frozen?_alloc_new _ _ _ _⟩
  rw [World.cell?_alloc_new, getElem!_pos _ j hj]
  simp [zeros65, hj']

theorem slice65 (g i : Nat) (hi : i < 65) (W : World) : (Instr.sliceAt 385 (.pointer (some ⟨g, 0, none⟩)) (some (.int .i64 (i : Int))) none none).run Tryz.prog W = .ok (.slice (some ⟨g, i, none⟩) (65 - i) (65 - i)) W := by
  have hal : Tryz.prog.arrayLen 385 = 65 := by simp [Program.arrayLen, Tryz.underlying385]
  have hel : Tryz.prog.elem 385 = 5 := by simp [Program.elem, Tryz.underlying385]
  rw [run_sliceAt_array_l W 385 ⟨g, 0, none⟩ (by rw [hal, hel]; exact Tryz.underlying385) .i64 (i : Int) (by omega) (by rw [hal]; omega), hal, hel, Tryz.sizeOf5]
  simp only [Result.andThen, slicedAt, Int.toNat_natCast]
  have h1 : ¬ 65 = i := by omega
  simp [Addr.add, h1]
  intro h; rw [h]

set_option maxHeartbeats 12800000 in
set_option maxRecDepth 100000 in
theorem formatBits_any (B n u : Nat) (hu : u < 18446744073709551616) (sv : Value) (xs : List Value) (w : World) (hown : w.ownsRow B 5 1 sv n xs) (hBw : B ≤ w.heap.size) (hlim : n + 65 ≤ 140737488355328)
    (htz : w.cell? ⟨4, 15, none⟩ = some (.int .u8 4)) :
    Calls Tryz.prog 199 #[sv, .int .u64 u, .int .i64 16, .bool false, .bool true] w fun e w' => ∃ v', e = .returned (.tuple #[v', .string ⟨#[]⟩]) ∧ w'.ownsRow B 5 1 v' (n + (Mb.hexL u).length) (xs ++ Lib.byteCells (Mb.hexL u)) ∧ Below B w w' ∧ Lib.OthersKept 5 none w w' := by
  obtain ⟨i0, hi, hz0, hz1, hz2⟩ := info_parts (P := Tryz.prog) (e := 5) (z := .int .u8 0) (size := 1) (bytes := 1) (by kernel_rfl)
  have hH := holds65 w 385
  have hgl : 4 < w.heap.size := Lib.lt_of_cell htz
  have htz1 : (w.alloc (.cells zeros65 385)).cell? ⟨4, 15, none⟩ = some (.int .u8 4) := by
    rw [World.cell?_alloc_past _ _ _ hgl]; exact htz
  go_enter Tryz.func199, Tryz.ntmps199
  go_wp2_with (first
    | (go_at_call 251; refine (pow_sixteen _).mono ?_; rintro e w' ⟨rfl, rfl⟩)
    | (go_at_call 252; refine (tz_sixteen _ htz1).mono ?_; rintro e w' ⟨rfl, rfl⟩))
  go_loopw [1, 13] (fun vu vi wr => ∃ (v i n : Nat) (dk : Array UInt8), vu = .int .u64 v ∧ vi = .int .i64 (i + 1 : Nat) ∧ wr = (putRow (fun (b : UInt8) => Value.int .u8 (b.toNat : Int)) (w.alloc (.cells zeros65 385)) w.heap.size 0 dk).drewN n ∧ Hid (HexInv u v (i + 1) dk ∧ v < 18446744073709551616)) (fun vu _ _ => (RowKit.intOf vu).toNat)
  case atStart => exact ⟨u, 64, 0, Array.replicate 65 0, rfl, rfl, (putRow_self _ _ _ _ _ hH).symm, HexInv.start u hu, hu⟩
  case round =>
    obtain ⟨v, i, k, dk, rfl, rfl, hw0, HI⟩ := hrel
    rename World => W0
    have AH := Lib.hid hH
    clear hH
    have hv64 := HI.out.2
    have hs0 := HI.out.1.size
    have hlo := HI.out.1.lo
    have hhi := HI.out.1.hi
    have hH0 : Holds (fun (b : UInt8) => Value.int .u8 (b.toNat : Int)) W0 w.heap.size 0 dk := by rw [hw0]; exact holds_putRow _ _ _ _ _ dk AH.out (by rw [hs0]; simp)
    obtain ⟨G0, hG0⟩ : ∃ G : Nat → Int, ∀ t, G t = (dk[t]!.toNat : Int) := ⟨_, fun _ => rfl⟩
    have hc0 : W0.cell? ⟨w.heap.size, i, none⟩ = some (.int .u8 (G0 i)) := by rw [hG0]; have := (hH0 i (by omega)).1; rwa [Nat.zero_add] at this
    have hf0 : W0.frozen? ⟨w.heap.size, i, none⟩ = false := by have := (hH0 i (by omega)).2; rwa [Nat.zero_add] at this
    have AW := Lib.hid hw0
    clear hw0 hG0 hH0
    by_cases h16 : 16 ≤ v
    · have hX : ∀ W, (Instr.index 9 (.string ⟨#[48, 49, 50, 51, 52, 53, 54, 55, 56, 57, 97, 98, 99, 100, 101, 102, 103, 104, 105, 106, 107, 108, 109, 110, 111, 112, 113, 114, 115, 116, 117, 118, 119, 120, 121, 122]⟩) (.int .u64 ((v % 16 : Nat) : Int))).run Tryz.prog W = .ok (.int .u8 ((Mb.hexByte (v % 16)).toNat : Int)) W := fun W => idx_dig .u64 _ (v % 16) rfl (by omega) W
      have hA := and15 v hv64
      generalize hz : ((v % 16 : Nat) : Int) = z at hX hA
      clear hz
      go_wp2
      have hst := HI.out.1.step h16
      have hpos := hst.lo
      have hi1 : i - 1 + 1 = i := by omega
      refine ⟨⟨v / 16, i - 1, k, dk.setIfInBounds i (Mb.hexByte (v % 16)), by congr 1, by rw [hi1], ?_, ?_⟩, ?_⟩
      · rw [AW.out]
        have := store1_world (w.alloc (.cells zeros65 385)) w.heap.size 0 dk k i (Mb.hexByte (v % 16)) (by omega)
        rw [Nat.zero_add] at this
        exact this
      · rw [hi1]; exact Lib.hid ⟨hst, by omega⟩
      · simp [RowKit.intOf]; omega
    · have hX : ∀ W, (Instr.index 9 (.string ⟨#[48, 49, 50, 51, 52, 53, 54, 55, 56, 57, 97, 98, 99, 100, 101, 102, 103, 104, 105, 106, 107, 108, 109, 110, 111, 112, 113, 114, 115, 116, 117, 118, 119, 120, 121, 122]⟩) (.int .u64 (v : Int))).run Tryz.prog W = .ok (.int .u8 ((Mb.hexByte v).toNat : Int)) W := fun W => idx_dig .u64 _ v rfl (by omega) W
      have HL := Lib.hid (HI.out.1.last (by omega))
      have hlast : W0.setCell ⟨w.heap.size, i, none⟩ (.int .u8 ((Mb.hexByte v).toNat : Int)) = (putRow (fun (b : UInt8) => Value.int .u8 (b.toNat : Int)) (w.alloc (.cells zeros65 385)) w.heap.size 0 (dk.setIfInBounds i (Mb.hexByte v))).drewN k := by
        rw [AW.out]
        have := store1_world (w.alloc (.cells zeros65 385)) w.heap.size 0 dk k i (Mb.hexByte v) (by omega)
        rw [Nat.zero_add] at this
        exact this
      have hd2 : (dk.setIfInBounds i (Mb.hexByte v)).size = 65 := by simp [hs0]
      generalize dk.setIfInBounds i (Mb.hexByte v) = dk2 at HL hlast hd2
      have hlenH : (Mb.hexL u).length = 65 - i := by rw [← HL.out, List.length_drop]; simp [hd2]
      have hcells : ∀ j u', (Lib.byteCells (Mb.hexL u))[j]? = some u' → (W0.setCell ⟨w.heap.size, i, none⟩ (.int .u8 ((Mb.hexByte v).toNat : Int))).cell? ((⟨w.heap.size, i, none⟩ : Addr).add j) = some u' := by
        intro j u' hj
        have hjl : j < (Mb.hexL u).length := by
          have h5 := (List.getElem?_eq_some_iff.1 hj).1
          rwa [Lib.byteCells_length] at h5
        have e5 : (Lib.byteCells (Mb.hexL u))[j]? = some (Value.int .u8 ((Mb.hexL u)[j].toNat : Int)) := by simp [Lib.byteCells, hjl]
        rw [e5] at hj
        cases hj
        have e6 : (Mb.hexL u)[j] = dk2[i + j]! := by
          have e7 : (Mb.hexL u)[j]? = some dk2[i + j]! := by
            rw [← HL.out, List.getElem?_drop, getElem!_pos dk2 (i + j) (by omega)]
            simp
          rw [List.getElem?_eq_getElem hjl] at e7
          exact Option.some.inj e7
        rw [e6, Lib.add_plain, hlast, World.cell?_drewN]
        have := cell?_putRow (fun (b : UInt8) => Value.int .u8 (b.toNat : Int)) (w.alloc (.cells zeros65 385)) w.heap.size 0 _ dk2 AH.out (by rw [hd2]; simp) (i + j) (by omega)
        rw [Nat.zero_add] at this
        exact this
      obtain ⟨os, eo⟩ := Lib.fin_at w (.cells zeros65 385) dk2 k 0
      rw [eo] at hlast
      have hown2 : (W0.setCell ⟨w.heap.size, i, none⟩ (.int .u8 ((Mb.hexByte v).toNat : Int))).ownsRow B 5 1 sv n xs := by rw [hlast]; exact Lib.ownsRow_grow hown k os
      have hnx2 : Below B w (W0.setCell ⟨w.heap.size, i, none⟩ (.int .u8 ((Mb.hexByte v).toNat : Int))) := by rw [hlast]; exact Lib.below_grow B w hBw k os
      have hok2 : Lib.OthersKept 5 none w (W0.setCell ⟨w.heap.size, i, none⟩ (.int .u8 ((Mb.hexByte v).toNat : Int))) := by rw [hlast]; exact (Lib.OthersKept.refl _ _ w).below (Lib.below_grow w.heap.size w (Nat.le_refl _) k os)
      have hsz2 : w.heap.size ≤ (W0.setCell ⟨w.heap.size, i, none⟩ (.int .u8 ((Mb.hexByte v).toNat : Int))).heap.size := by rw [hlast]; exact Lib.size_grow w k os
      have hal : Tryz.prog.arrayLen 385 = 65 := by simp [Program.arrayLen, Tryz.underlying385]
      have iv : (v : Int) < 16 := by omega
      clear HI AW eo hlast h16 HL AH hd2
      have hsz3 : w.heap.size ≤ W0.heap.size := by simpa using hsz2
      have hsl := slice65 w.heap.size i (by omega)
      go_wp2_with (at_builtin; refine wpList_append_own _ rfl _ _ 181 rfl B 5 i0 (.int .u8 0) 1 1 Tryz.underlying181 hi hz0 hz1 hz2 rfl (by decide) _ _ _ rfl hown2 ⟨w.heap.size, i, none⟩ (65 - i) (65 - i) (Lib.byteCells (Mb.hexL u)) rfl ?c0 hcells ?c2 ?c3 ?c4 ?c5 ?_)
      case c0 => rw [Lib.byteCells_length, hlenH]
      case c2 => intro u' hu'; simp only [Lib.byteCells, List.mem_map] at hu'; obtain ⟨b, _, rfl⟩ := hu'; rfl
      case c3 => unfold maxLen; omega
      case c4 => omega
      case c5 => omega
      intro v2 w3 hown' hgrow _
      go_wp2
      go_ret2
      refine ⟨v2, rfl, ?_, hnx2.grown hgrow (by omega) (fun k hk => (hown2.lt k hk).1), hok2.grown hgrow (Lib.ownsRow_kind hown2)⟩
      rw [hlenH]
      exact hown'

theorem appendUint_any (B n u : Nat) (hu : u < 18446744073709551616) (sv : Value) (xs : List Value) (w : World) (hown : w.ownsRow B 5 1 sv n xs) (hBw : B ≤ w.heap.size) (hlim : n + 65 ≤ 140737488355328)
    (htz : w.cell? ⟨4, 15, none⟩ = some (.int .u8 4)) :
    Calls Tryz.prog 417 #[sv, .int .u64 u, .int .i64 16] w fun e w' => ∃ v', e = .returned v' ∧ w'.ownsRow B 5 1 v' (n + (Mb.hexL u).length) (xs ++ Lib.byteCells (Mb.hexL u)) ∧ Below B w w' ∧ Lib.OthersKept 5 none w w' := by
  go_enter Tryz.func417, Tryz.ntmps417
  go_wp2_with (go_at_call 199; refine (formatBits_any B n u hu sv xs _ hown hBw hlim htz).mono ?_)
  rintro e w1 ⟨v', rfl, h1, h2, h3⟩
  go_wp2
  go_ret
  exact ⟨v', rfl, h1, h2, h3⟩

theorem appendInt_inner (B n u : Nat) (hu : u < 9223372036854775808) (sv : Value) (xs : List Value) (w : World) (hown : w.ownsRow B 5 1 sv n xs) (hBw : B ≤ w.heap.size) (hlim : n + 65 ≤ 140737488355328)
    (htz : w.cell? ⟨4, 15, none⟩ = some (.int .u8 4)) :
    Calls Tryz.prog 374 #[sv, .int .i64 u, .int .i64 16] w fun e w' => ∃ v', e = .returned v' ∧ w'.ownsRow B 5 1 v' (n + (Mb.hexL u).length) (xs ++ Lib.byteCells (Mb.hexL u)) ∧ Below B w w' ∧ Lib.OthersKept 5 none w w' := by
  have h0 : 0 ≤ (u : Int) := by omega
  have hneg : ((u : Int) < 0) = False := by simp
  go_enter Tryz.func374, Tryz.ntmps374
  go_wp2_with (go_at_call 417; refine (appendUint_any B n u (by omega) sv xs _ hown hBw hlim htz).mono ?_)
  rintro e w1 ⟨v', rfl, h1, h2, h3⟩
  go_wp2
  go_ret
  exact ⟨v', rfl, h1, h2, h3⟩

/-- strconv.AppendInt(.., 16) of a number that is not negative -/
theorem appendInt_any (B n u : Nat) (hu : u < 9223372036854775808) (sv : Value) (xs : List Value) (w : World) (hown : w.ownsRow B 5 1 sv n xs) (hBw : B ≤ w.heap.size) (hlim : n + 65 ≤ 140737488355328)
    (htz : w.cell? ⟨4, 15, none⟩ = some (.int .u8 4)) :
    Calls Tryz.prog 311 #[sv, .int .i64 u, .int .i64 16] w fun e w' => ∃ v', e = .returned v' ∧ w'.ownsRow B 5 1 v' (n + (Mb.hexL u).length) (xs ++ Lib.byteCells (Mb.hexL u)) ∧ Below B w w' ∧ Lib.OthersKept 5 none w w' := by
  go_enter Tryz.func311, Tryz.ntmps311
  go_wp2_with (go_at_call 374; refine (appendInt_inner B n u hu sv xs _ hown hBw hlim htz).mono ?_)
  rintro e w1 ⟨v', rfl, h1, h2, h3⟩
  go_wp2
  go_ret
  exact ⟨v', rfl, h1, h2, h3⟩

end Go.Proofs.YtldgiecjnmkajaaGreatDoor
