/-
  OWN TEXT: strconv.AppendInt at base 16.
  OWN TEXT: names.isName and the small functions under it; names.appendCode.
  OWN TEXT: names.appendCode and names.Encode.
-/
import Derived.Test.YtamglanahpcedaaGreatDoorNameWA
import Derived.Lib.ItoaWalk
import Derived.Lib.ItoaMem
import Derived.Lib.AppendIntMem
import Derived.Lib.BufferKept
import Derived.Lib.OwnKind
import Derived.Lib.Slices
import Derived.Laws.Bits64b
import Derived.OwnWalk
import Derived.CellFam
import Derived.LoopTactic
import Derived.Lib.OthersKept
import Derived.Laws.RangeString
import Derived.Laws.RangeAny
import Derived.Lib.AppendStr
namespace Go.Proofs.YtamglanahpcedaaGreatDoor
open Go.RowKit Go.Sort Go.Lib

/-- besides, what the table of trailing zeros holds for 16 -/
structure EnvN (w : World) : Prop where
  env : Env w
  tz : w.cell? ⟨2, 15, none⟩ = some (.int .u8 4)

theorem EnvN.below {w w' : World} {B : Nat} (h : EnvN w) (hb : Below B w w') (hB : w.heap.size ≤ B) : EnvN w' :=
  ⟨h.env.below hb hB, (hb.cell (by have := Lib.lt_of_cell h.tz; omega)).trans h.tz⟩

theorem tz_key : IntKind.u64.wrap (bits BinOp.and IntKind.u64 (16 : Int) (IntKind.u64.wrap (-(16 : Int))) * 285870213051353865) / 288230376151711744 = (15 : Int) := by
  have e1 : IntKind.u64.wrap (-(16 : Int)) = ((18446744073709551600 : Nat) : Int) := by rw [IntKind.wrap_u64]; decide
  have e2 : (16 : Int) = ((16 : Nat) : Int) := rfl
  rw [e1, e2, bits_and_u64_nat 16 _ (by omega) (by omega), IntKind.wrap_u64]
  have e3 : (16 &&& 18446744073709551600 : Nat) = 16 := by decide
  rw [e3]
  decide

theorem tz64_sixteen (w : World) (h : w.cell? ⟨2, 15, none⟩ = some (.int .u8 4)) :
    Calls Tryz.prog 153 #[.int .u64 16] w fun e w' => e = .returned (.int .i64 4) ∧ w' = w := by
  have key := tz_key
  go_enter Tryz.func153, Tryz.ntmps153
  go_wp2_with (simp only [key])
  go_ret
  exact ⟨rfl, rfl⟩

theorem tz_sixteen (w : World) (h : w.cell? ⟨2, 15, none⟩ = some (.int .u8 4)) :
    Calls Tryz.prog 121 #[.int .u64 16] w fun e w' => e = .returned (.int .i64 4) ∧ w' = w := by
  go_enter Tryz.func121, Tryz.ntmps121
  go_wp2_with (go_at_call 153; refine (tz64_sixteen _ h).mono ?_; rintro e w' ⟨rfl, rfl⟩)
  go_ret
  exact ⟨rfl, rfl⟩

theorem pow_key : bits BinOp.and IntKind.i64 16 15 = 0 := by decide +kernel
theorem pow_sixteen (w : World) :
    Calls Tryz.prog 120 #[.int .i64 16] w fun e w' => e = .returned (.bool true) ∧ w' = w := by
  have key := pow_key
  go_enter Tryz.func120, Tryz.ntmps120
  go_wp2_with (simp only [key])
  go_ret
  exact ⟨rfl, rfl⟩

/-! ### the digits -/

def digStr : ByteArray := ⟨#[48, 49, 50, 51, 52, 53, 54, 55, 56, 57, 97, 98, 99, 100, 101, 102, 103, 104, 105, 106, 107, 108, 109, 110, 111, 112, 113, 114, 115, 116, 117, 118, 119, 120, 121, 122]⟩
theorem digStr_at (i : Nat) (hi : i < 16) : digStr[i]'(show i < digStr.size by have : digStr.size = 36 := rfl; omega) = Mb.hexByte i := by
  have hall : ∀ i : Fin 16, digStr.data.toList[i.val]? = some (Mb.hexByte i.val) := by decide
  have h := hall ⟨i, hi⟩
  have hs : i < digStr.data.toList.length := by have : digStr.data.toList.length = 36 := rfl; omega
  rw [List.getElem?_eq_getElem hs, Option.some.injEq] at h
  exact h
theorem idx_dig (k : IntKind) (z : Int) (i : Nat) (hz : z = (i : Int)) (hi : i < 16) (w : World) :
    (Instr.index 9 (.string digStr) (.int k z)).run Tryz.prog w = .ok (.int .u8 ((Mb.hexByte i).toNat : Int)) w := by
  subst hz
  have hs : digStr.size = 36 := rfl
  rw [run_index_string w 9 digStr k _ Tryz.underlying9, dif_pos ⟨by omega, by omega⟩]
  have e : ((i : Int)).toNat = i := by omega
  simp only [e]
  rw [digStr_at i hi]

theorem and15 (v : Nat) (h : v < 18446744073709551616) : bits .and .u64 (v : Int) 15 = ((v % 16 : Nat) : Int) := by
  have e : (15 : Int) = ((15 : Nat) : Int) := rfl
  rw [e, bits_and_u64_nat v 15 h (by omega)]
  congr 1
  exact Nat.and_two_pow_sub_one_eq_mod v 4

structure HexInv (u v i : Nat) (dk : Array UInt8) : Prop where
  size : dk.size = 65
  lo : 50 ≤ i
  hi : i ≤ 65
  small : v < 16 ^ (i - 49)
  is : Mb.hexL u = Mb.hexF (i - 49) v ++ dk.toList.drop i

theorem HexInv.start (u : Nat) (h : u < 18446744073709551616) : HexInv u u 65 (Array.replicate 65 0) :=
  ⟨by simp, by omega, by omega, by omega, by simp [Mb.hexL]⟩

theorem drop_setL (x : UInt8) : ∀ (l : List UInt8) (i : Nat), i < l.length → (l.set i x).drop i = x :: l.drop (i + 1)
  | [], i, h => by simp at h
  | _ :: l, 0, _ => rfl
  | _ :: l, i + 1, h => by
    simp only [List.set_cons_succ, List.drop_succ_cons]
    exact drop_setL x l i (by simpa using h)
theorem drop_set (dk : Array UInt8) (i : Nat) (x : UInt8) (h : i < dk.size) : (dk.setIfInBounds i x).toList.drop i = x :: dk.toList.drop (i + 1) := by
  rw [Array.toList_setIfInBounds]
  exact drop_setL x _ i (by simpa using h)
theorem HexInv.step {u v i : Nat} {dk : Array UInt8} (h : HexInv u v (i + 1) dk) (h16 : 16 ≤ v) : HexInv u (v / 16) i (dk.setIfInBounds i (Mb.hexByte (v % 16))) := by
  obtain ⟨h1, h2, h3, h4, h5⟩ := h
  have hi : 50 ≤ i := by
    rcases Nat.lt_or_ge i 50 with hlt | hge
    · have : i = 49 := by omega
      subst this
      simp at h4; omega
    · exact hge
  have e : i + 1 - 49 = (i - 49) + 1 := by omega
  rw [e, Nat.pow_succ] at h4
  rw [e, Mb.hexF, if_neg (by omega)] at h5
  refine ⟨by simp [h1], hi, by omega, by omega, ?_⟩
  rw [h5, drop_set _ _ _ (by omega), List.append_assoc]; rfl
theorem HexInv.last {u v i : Nat} {dk : Array UInt8} (h : HexInv u v (i + 1) dk) (h16 : v < 16) : (dk.setIfInBounds i (Mb.hexByte v)).toList.drop i = Mb.hexL u := by
  obtain ⟨h1, h2, h3, h4, h5⟩ := h
  have e : i + 1 - 49 = (i - 49) + 1 := by omega
  rw [e, Mb.hexF, if_pos h16] at h5
  rw [h5, drop_set _ _ _ (by omega)]; rfl

def zeros65 : Array Value := Array.replicate 65 (.int .u8 0)

theorem holds65 (w : World) (T : TypeId) : Holds (fun (b : UInt8) => Value.int .u8 (b.toNat : Int)) (w.alloc (.cells zeros65 T)) w.heap.size 0 (Array.replicate 65 (0 : UInt8)) := fun j hj => by
  have hj' : j < 65 := by simpa using hj
  refine ⟨?_, World.frozen?_alloc_new _ _ _ _⟩
  rw [World.cell?_alloc_new, getElem!_pos _ j hj]
  simp [zeros65, hj']

theorem slice65 (g i : Nat) (hi : i < 65) (W : World) : (Instr.sliceAt 212 (.pointer (some ⟨g, 0, none⟩)) (some (.int .i64 (i : Int))) none none).run Tryz.prog W = .ok (.slice (some ⟨g, i, none⟩) (65 - i) (65 - i)) W := by
  have hal : Tryz.prog.arrayLen 212 = 65 := by simp [Program.arrayLen, Tryz.underlying212]
  have hel : Tryz.prog.elem 212 = 5 := by simp [Program.elem, Tryz.underlying212]
  rw [run_sliceAt_array_l W 212 ⟨g, 0, none⟩ (by rw [hal, hel]; exact Tryz.underlying212) .i64 (i : Int) (by omega) (by rw [hal]; omega), hal, hel, Tryz.sizeOf5]
  simp only [Result.andThen, slicedAt, Int.toNat_natCast]
  have h1 : ¬ 65 = i := by omega
  simp [Addr.add, h1]
  intro h; rw [h]

set_option maxHeartbeats 12800000 in
set_option maxRecDepth 100000 in
theorem formatBits_any (B n u : Nat) (hu : u < 18446744073709551616) (sv : Value) (xs : List Value) (w : World) (hown : w.ownsRow B 5 1 sv n xs) (hBw : B ≤ w.heap.size) (hlim : n + 65 ≤ 140737488355328)
    (htz : w.cell? ⟨2, 15, none⟩ = some (.int .u8 4)) :
    Calls Tryz.prog 87 #[sv, .int .u64 u, .int .i64 16, .bool false, .bool true] w fun e w' => ∃ v', e = .returned (.tuple #[v', .string ⟨#[]⟩]) ∧ w'.ownsRow B 5 1 v' (n + (Mb.hexL u).length) (xs ++ Lib.byteCells (Mb.hexL u)) ∧ Below B w w' ∧ Lib.OthersKept 5 none w w' := by
  obtain ⟨i0, hi, hz0, hz1, hz2⟩ := info_parts (P := Tryz.prog) (e := 5) (z := .int .u8 0) (size := 1) (bytes := 1) (by kernel_rfl)
  have hH := holds65 w 212
  have hgl : 2 < w.heap.size := Lib.lt_of_cell htz
  have htz1 : (w.alloc (.cells zeros65 212)).cell? ⟨2, 15, none⟩ = some (.int .u8 4) := by
    rw [World.cell?_alloc_past _ _ _ hgl]; exact htz
  go_enter Tryz.func87, Tryz.ntmps87
  go_wp2_with (first
    | (go_at_call 120; refine (pow_sixteen _).mono ?_; rintro e w' ⟨rfl, rfl⟩)
    | (go_at_call 121; refine (tz_sixteen _ htz1).mono ?_; rintro e w' ⟨rfl, rfl⟩))
  go_loopw [1, 13] (fun vu vi wr => ∃ (v i n : Nat) (dk : Array UInt8), vu = .int .u64 v ∧ vi = .int .i64 (i + 1 : Nat) ∧ wr = (putRow (fun (b : UInt8) => Value.int .u8 (b.toNat : Int)) (w.alloc (.cells zeros65 212)) w.heap.size 0 dk).drewN n ∧ Hid (HexInv u v (i + 1) dk ∧ v < 18446744073709551616)) (fun vu _ _ => (RowKit.intOf vu).toNat)
  case atStart => exact ⟨u, 64, 0, Array.replicate 65 0, rfl, rfl, (putRow_self _ _ _ _ _ hH).symm, HexInv.start u hu, hu⟩
  case round =>
    obtain ⟨v, i, k, dk, rfl, rfl, hw0, HI⟩ := hrel
    rename World => W0
    have AH := Lib.hid hH
    clear hH
    have hv64 := HI.out.2
    have hs0 := HI.out.1.size
    have hlo := HI.out.1.lo
    have hhi := HI.out.1.hi
    have hH0 : Holds (fun (b : UInt8) => Value.int .u8 (b.toNat : Int)) W0 w.heap.size 0 dk := by rw [hw0]; exact holds_putRow _ _ _ _ _ dk AH.out (by rw [hs0]; simp)
    obtain ⟨G0, hG0⟩ : ∃ G : Nat → Int, ∀ t, G t = (dk[t]!.toNat : Int) := ⟨_, fun _ => rfl⟩
    have hc0 : W0.cell? ⟨w.heap.size, i, none⟩ = some (.int .u8 (G0 i)) := by rw [hG0]; have := (hH0 i (by omega)).1; rwa [Nat.zero_add] at this
    have hf0 : W0.frozen? ⟨w.heap.size, i, none⟩ = false := by have := (hH0 i (by omega)).2; rwa [Nat.zero_add] at this
    have AW := Lib.hid hw0
    clear hw0 hG0 hH0
    by_cases h16 : 16 ≤ v
    · have hX : ∀ W, (Instr.index 9 (.string ⟨#[48, 49, 50, 51, 52, 53, 54, 55, 56, 57, 97, 98, 99, 100, 101, 102, 103, 104, 105, 106, 107, 108, 109, 110, 111, 112, 113, 114, 115, 116, 117, 118, 119, 120, 121, 122]⟩) (.int .u64 ((v % 16 : Nat) : Int))).run Tryz.prog W = .ok (.int .u8 ((Mb.hexByte (v % 16)).toNat : Int)) W := fun W => idx_dig .u64 _ (v % 16) rfl (by omega) W
      have hA := and15 v hv64
      generalize hz : ((v % 16 : Nat) : Int) = z at hX hA
      clear hz
      go_wp2
      have hst := HI.out.1.step h16
      have hpos := hst.lo
      have hi1 : i - 1 + 1 = i := by omega
      refine ⟨⟨v / 16, i - 1, k, dk.setIfInBounds i (Mb.hexByte (v % 16)), by congr 1, by rw [hi1], ?_, ?_⟩, ?_⟩
      · rw [AW.out]
        have := store1_world (w.alloc (.cells zeros65 212)) w.heap.size 0 dk k i (Mb.hexByte (v % 16)) (by omega)
        rw [Nat.zero_add] at this
        exact this
      · rw [hi1]; exact Lib.hid ⟨hst, by omega⟩
      · simp [RowKit.intOf]; omega
    · have hX : ∀ W, (Instr.index 9 (.string ⟨#[48, 49, 50, 51, 52, 53, 54, 55, 56, 57, 97, 98, 99, 100, 101, 102, 103, 104, 105, 106, 107, 108, 109, 110, 111, 112, 113, 114, 115, 116, 117, 118, 119, 120, 121, 122]⟩) (.int .u64 (v : Int))).run Tryz.prog W = .ok (.int .u8 ((Mb.hexByte v).toNat : Int)) W := fun W => idx_dig .u64 _ v rfl (by omega) W
      have HL := Lib.hid (HI.out.1.last (by omega))
      have hlast : W0.setCell ⟨w.heap.size, i, none⟩ (.int .u8 ((Mb.hexByte v).toNat : Int)) = (putRow (fun (b : UInt8) => Value.int .u8 (b.toNat : Int)) (w.alloc (.cells zeros65 212)) w.heap.size 0 (dk.setIfInBounds i (Mb.hexByte v))).drewN k := by
        rw [AW.out]
        have := store1_world (w.alloc (.cells zeros65 212)) w.heap.size 0 dk k i (Mb.hexByte v) (by omega)
        rw [Nat.zero_add] at this
        exact this
      have hd2 : (dk.setIfInBounds i (Mb.hexByte v)).size = 65 := by simp [hs0]
      generalize dk.setIfInBounds i (Mb.hexByte v) = dk2 at HL hlast hd2
      have hlenH : (Mb.hexL u).length = 65 - i := by rw [← HL.out, List.length_drop]; simp [hd2]
      have hcells : ∀ j u', (Lib.byteCells (Mb.hexL u))[j]? = some u' → (W0.setCell ⟨w.heap.size, i, none⟩ (.int .u8 ((Mb.hexByte v).toNat : Int))).cell? ((⟨w.heap.size, i, none⟩ : Addr).add j) = some u' := by
        intro j u' hj
        have hjl : j < (Mb.hexL u).length := by
          have h5 := (List.getElem?_eq_some_iff.1 hj).1
          rwa [Lib.byteCells_length] at h5
        have e5 : (Lib.byteCells (Mb.hexL u))[j]? = some (Value.int .u8 ((Mb.hexL u)[j].toNat : Int)) := by simp [Lib.byteCells, hjl]
        rw [e5] at hj
        cases hj
        have e6 : (Mb.hexL u)[j] = dk2[i + j]! := by
          have e7 : (Mb.hexL u)[j]? = some dk2[i + j]! := by
            rw [← HL.out, List.getElem?_drop, getElem!_pos dk2 (i + j) (by omega)]
            simp
          rw [List.getElem?_eq_getElem hjl] at e7
          exact Option.some.inj e7
        rw [e6, Lib.add_plain, hlast, World.cell?_drewN]
        have := cell?_putRow (fun (b : UInt8) => Value.int .u8 (b.toNat : Int)) (w.alloc (.cells zeros65 212)) w.heap.size 0 _ dk2 AH.out (by rw [hd2]; simp) (i + j) (by omega)
        rw [Nat.zero_add] at this
        exact this
      obtain ⟨os, eo⟩ := Lib.fin_at w (.cells zeros65 212) dk2 k 0
      rw [eo] at hlast
      have hown2 : (W0.setCell ⟨w.heap.size, i, none⟩ (.int .u8 ((Mb.hexByte v).toNat : Int))).ownsRow B 5 1 sv n xs := by rw [hlast]; exact Lib.ownsRow_grow hown k os
      have hnx2 : Below B w (W0.setCell ⟨w.heap.size, i, none⟩ (.int .u8 ((Mb.hexByte v).toNat : Int))) := by rw [hlast]; exact Lib.below_grow B w hBw k os
      have hok2 : Lib.OthersKept 5 none w (W0.setCell ⟨w.heap.size, i, none⟩ (.int .u8 ((Mb.hexByte v).toNat : Int))) := by rw [hlast]; exact (Lib.OthersKept.refl _ _ w).below (Lib.below_grow w.heap.size w (Nat.le_refl _) k os)
      have hsz2 : w.heap.size ≤ (W0.setCell ⟨w.heap.size, i, none⟩ (.int .u8 ((Mb.hexByte v).toNat : Int))).heap.size := by rw [hlast]; exact Lib.size_grow w k os
      have hal : Tryz.prog.arrayLen 212 = 65 := by simp [Program.arrayLen, Tryz.underlying212]
      have iv : (v : Int) < 16 := by omega
      clear HI AW eo hlast h16 HL AH hd2
      have hsz3 : w.heap.size ≤ W0.heap.size := by simpa using hsz2
      have hsl := slice65 w.heap.size i (by omega)
      go_wp2_with (at_builtin; refine wpList_append_own _ rfl _ _ 103 rfl B 5 i0 (.int .u8 0) 1 1 Tryz.underlying103 hi hz0 hz1 hz2 rfl (by decide) _ _ _ rfl hown2 ⟨w.heap.size, i, none⟩ (65 - i) (65 - i) (Lib.byteCells (Mb.hexL u)) rfl ?c0 hcells ?c2 ?c3 ?c4 ?c5 ?_)
      case c0 => rw [Lib.byteCells_length, hlenH]
      case c2 => intro u' hu'; simp only [Lib.byteCells, List.mem_map] at hu'; obtain ⟨b, _, rfl⟩ := hu'; rfl
      case c3 => unfold maxLen; omega
      case c4 => omega
      case c5 => omega
      intro v2 w3 hown' hgrow _
      go_wp2
      go_ret2
      refine ⟨v2, rfl, ?_, hnx2.grown hgrow (by omega) (fun k hk => (hown2.lt k hk).1), hok2.grown hgrow (Lib.ownsRow_kind hown2)⟩
      rw [hlenH]
      exact hown'

theorem appendUint_any (B n u : Nat) (hu : u < 18446744073709551616) (sv : Value) (xs : List Value) (w : World) (hown : w.ownsRow B 5 1 sv n xs) (hBw : B ≤ w.heap.size) (hlim : n + 65 ≤ 140737488355328)
    (htz : w.cell? ⟨2, 15, none⟩ = some (.int .u8 4)) :
    Calls Tryz.prog 214 #[sv, .int .u64 u, .int .i64 16] w fun e w' => ∃ v', e = .returned v' ∧ w'.ownsRow B 5 1 v' (n + (Mb.hexL u).length) (xs ++ Lib.byteCells (Mb.hexL u)) ∧ Below B w w' ∧ Lib.OthersKept 5 none w w' := by
  go_enter Tryz.func214, Tryz.ntmps214
  go_wp2_with (go_at_call 87; refine (formatBits_any B n u hu sv xs _ hown hBw hlim htz).mono ?_)
  rintro e w1 ⟨v', rfl, h1, h2, h3⟩
  go_wp2
  go_ret
  exact ⟨v', rfl, h1, h2, h3⟩

theorem appendInt_inner (B n u : Nat) (hu : u < 9223372036854775808) (sv : Value) (xs : List Value) (w : World) (hown : w.ownsRow B 5 1 sv n xs) (hBw : B ≤ w.heap.size) (hlim : n + 65 ≤ 140737488355328)
    (htz : w.cell? ⟨2, 15, none⟩ = some (.int .u8 4)) :
    Calls Tryz.prog 207 #[sv, .int .i64 u, .int .i64 16] w fun e w' => ∃ v', e = .returned v' ∧ w'.ownsRow B 5 1 v' (n + (Mb.hexL u).length) (xs ++ Lib.byteCells (Mb.hexL u)) ∧ Below B w w' ∧ Lib.OthersKept 5 none w w' := by
  have h0 : 0 ≤ (u : Int) := by omega
  have hneg : ((u : Int) < 0) = False := by simp
  go_enter Tryz.func207, Tryz.ntmps207
  go_wp2_with (go_at_call 214; refine (appendUint_any B n u (by omega) sv xs _ hown hBw hlim htz).mono ?_)
  rintro e w1 ⟨v', rfl, h1, h2, h3⟩
  go_wp2
  go_ret
  exact ⟨v', rfl, h1, h2, h3⟩

/-- strconv.AppendInt(.., 16) of a number that is not negative -/
theorem appendInt_any (B n u : Nat) (hu : u < 9223372036854775808) (sv : Value) (xs : List Value) (w : World) (hown : w.ownsRow B 5 1 sv n xs) (hBw : B ≤ w.heap.size) (hlim : n + 65 ≤ 140737488355328)
    (htz : w.cell? ⟨2, 15, none⟩ = some (.int .u8 4)) :
    Calls Tryz.prog 196 #[sv, .int .i64 u, .int .i64 16] w fun e w' => ∃ v', e = .returned v' ∧ w'.ownsRow B 5 1 v' (n + (Mb.hexL u).length) (xs ++ Lib.byteCells (Mb.hexL u)) ∧ Below B w w' ∧ Lib.OthersKept 5 none w w' := by
  go_enter Tryz.func196, Tryz.ntmps196
  go_wp2_with (go_at_call 207; refine (appendInt_inner B n u hu sv xs _ hown hBw hlim htz).mono ?_)
  rintro e w1 ⟨v', rfl, h1, h2, h3⟩
  go_wp2
  go_ret
  exact ⟨v', rfl, h1, h2, h3⟩

end Go.Proofs.YtamglanahpcedaaGreatDoor
namespace Go.Proofs.YtamglanahpcedaaGreatDoor
open Go.RowKit Go.Lib

theorem isNameRune_any (r : Nat) (w : World) :
    Calls Tryz.prog 194 #[.int .i32 r] w fun e w' => e = .returned (.bool (Mb.fineRune r)) ∧ w' = w := by
  obtain ⟨x, hx⟩ : ∃ x : Int, x = (r : Int) := ⟨_, rfl⟩
  by_cases h1 : r < 33
  · have hf : Mb.fineRune r = false := by unfold Mb.fineRune; simp; omega
    have i1 : x < 33 := by omega
    rw [hf, ← hx]
    clear hf hx h1
    go_enter Tryz.func194, Tryz.ntmps194
    go_wp2
    go_ret
    exact ⟨rfl, rfl⟩
  · by_cases h2 : r = 127
    · subst h2
      go_enter Tryz.func194, Tryz.ntmps194
      go_wp2
      go_ret
      exact ⟨rfl, rfl⟩
    · by_cases h3 : r = 65533
      · subst h3
        go_enter Tryz.func194, Tryz.ntmps194
        go_wp2
        go_ret
        exact ⟨rfl, rfl⟩
      · have hf : Mb.fineRune r = true := by unfold Mb.fineRune; simp; omega
        have i1 : 33 ≤ x := by omega
        have i2 : (x != 127) = true := by simp; omega
        have i3 : (x != 65533) = true := by simp; omega
        rw [hf, ← hx]
        clear hf hx h1 h2 h3
        go_enter Tryz.func194, Tryz.ntmps194
        go_wp2
        go_ret
        exact ⟨by simp, rfl⟩

theorem stands_any (r : Nat) (w : World) :
    Calls Tryz.prog 195 #[.int .i32 r] w fun e w' => e = .returned (.bool (Mb.plainRune r)) ∧ w' = w := by
  obtain ⟨x, hx⟩ : ∃ x : Int, x = (r : Int) := ⟨_, rfl⟩
  have hp : Mb.plainRune r = ((decide (97 ≤ x) && decide (x ≤ 122)) || (decide (48 ≤ x) && decide (x ≤ 57))) := by
    unfold Mb.plainRune; rw [hx, Bool.eq_iff_iff]; simp; omega
  rw [hp, ← hx]
  clear hp hx
  by_cases h1 : 97 ≤ x
  · by_cases h2 : x ≤ 122
    · go_enter Tryz.func195, Tryz.ntmps195
      go_wp2
      go_ret
      exact ⟨by simp [h1, h2], rfl⟩
    · go_enter Tryz.func195, Tryz.ntmps195
      go_wp2
      go_ret
      refine ⟨?_, rfl⟩
      show Ending.returned (Value.bool _) = Ending.returned (Value.bool _)
      congr 2
      rw [Bool.eq_iff_iff]
      simp
      omega
  · by_cases h2 : 48 ≤ x
    · go_enter Tryz.func195, Tryz.ntmps195
      go_wp2
      go_ret
      refine ⟨?_, rfl⟩
      show Ending.returned (Value.bool _) = Ending.returned (Value.bool _)
      congr 2
      rw [Bool.eq_iff_iff]
      simp
      omega
    · go_enter Tryz.func195, Tryz.ntmps195
      go_wp2
      go_ret
      refine ⟨?_, rfl⟩
      show Ending.returned (Value.bool _) = Ending.returned (Value.bool _)
      congr 2
      rw [Bool.eq_iff_iff]
      simp
      omega

/-- where a loop over a text's runes stands -/
def NameAt (l : List UInt8) (acc : Nat) (r : List UInt8) : Prop :=
  Mb.nameOk l = (decide (0 < acc + (Mb.runes r).length) && decide (acc + (Mb.runes r).length ≤ 8) && (Mb.runes r).all Mb.fineRune)

theorem NameAt.start (l : List UInt8) : NameAt l 0 l := by unfold NameAt Mb.nameOk; simp
theorem NameAt.bad {l r : List UInt8} {acc : Nat} (h : NameAt l acc r) (hr : r ≠ []) (hb : 8 ≤ acc ∨ Mb.fineRune (Mb.dec r).1 = false) : Mb.nameOk l = false := by
  unfold NameAt at h
  rw [h, Mb.runes_step r hr]
  rcases hb with hb | hb
  · have : ¬ acc + ((Mb.dec r).1 :: Mb.runes (r.drop (Mb.dec r).2)).length ≤ 8 := by simp only [List.length_cons]; omega
    rw [decide_eq_false this]; simp
  · simp [hb]
theorem NameAt.go {l r : List UInt8} {acc : Nat} (h : NameAt l acc r) (hr : r ≠ []) (hb : Mb.fineRune (Mb.dec r).1 = true) : NameAt l (acc + 1) (r.drop (Mb.dec r).2) := by
  unfold NameAt at h ⊢
  rw [h, Mb.runes_step r hr, List.all_cons, hb, Bool.true_and, List.length_cons]
  have e : acc + ((Mb.runes (r.drop (Mb.dec r).2)).length + 1) = acc + 1 + (Mb.runes (r.drop (Mb.dec r).2)).length := by omega
  rw [e]
theorem NameAt.last {l : List UInt8} {acc : Nat} (h : NameAt l acc []) (h8 : acc ≤ 8) : Mb.nameOk l = decide (0 < acc) := by
  unfold NameAt at h
  rw [h, Mb.runes_nil]; simp [h8]

theorem drop_ne {s : ByteArray} {pos : Nat} (h : pos < s.size) : s.data.toList.drop pos ≠ [] := by
  intro e
  have := congrArg List.length e
  rw [List.length_drop, ← Lib.size_eq, List.length_nil] at this
  omega

set_option maxHeartbeats 4000000 in
set_option maxRecDepth 1000000 in
theorem isName_any (s : ByteArray) (w : World) :
    Calls Tryz.prog 177 #[.string s] w fun e w' => e = .returned (.bool (Mb.nameOk s.data.toList)) ∧ ∃ pos, w' = w.iter s pos := by
  go_enter Tryz.func177, Tryz.ntmps177
  go_wp2
  go_loopw [3] (fun n w' => ∃ (pos acc : Nat), w' = w.iter s pos ∧ n = .int .i64 acc ∧ acc ≤ 8 ∧ Hid (NameAt s.data.toList acc (s.data.toList.drop pos))) (fun _ w' => s.size - w'.iterPos w.heap.size)
  case atStart => exact ⟨0, 0, rfl, rfl, by omega, NameAt.start _⟩
  case round =>
    obtain ⟨pos, acc, rfl, rfl, h8, hh⟩ := hrel
    by_cases hp : pos < s.size
    · have hnx : ∀ ty, (Instr.next (.pointer (some ⟨w.heap.size, 0, none⟩)) true ty).run Tryz.prog (w.iter s pos) = _ := fun ty => run_next_any w s pos ty hp
      have hne := drop_ne hp
      have hw := Mb.dec_width (s.data.toList.drop pos)
      have hd := Mb.decode_is s pos
      rw [hd] at hnx
      clear hd
      by_cases hb : 8 ≤ acc ∨ Mb.fineRune (Mb.dec (s.data.toList.drop pos)).1 = false
      · have HN := Lib.hid (hh.out.bad hne hb)
        generalize (Mb.dec (s.data.toList.drop pos)).1 = r at hnx hb
        have hr := isNameRune_any r
        rcases hb with hb | hb
        · have ib : (8 : Int) < acc + 1 := by omega
          clear hh
          go_wp2
          go_ret
          exact ⟨by rw [HN.out]; rfl, _, rfl⟩
        · rw [hb] at hr
          clear hh
          go_wp2_with (go_at_call 194; refine (hr _).mono ?_; rintro e w' ⟨rfl, rfl⟩)
          all_goals go_ret
          all_goals exact ⟨by rw [HN.out]; rfl, _, rfl⟩
      · have hb1 : ¬ 8 ≤ acc := fun h => hb (Or.inl h)
        have hb2 : Mb.fineRune (Mb.dec (s.data.toList.drop pos)).1 = true := by
          cases h : Mb.fineRune (Mb.dec (s.data.toList.drop pos)).1
          · exact absurd (Or.inr h) hb
          · rfl
        have HN := Lib.hid (hh.out.go hne hb2)
        rw [List.drop_drop] at HN
        have hr := isNameRune_any (Mb.dec (s.data.toList.drop pos)).1
        rw [hb2] at hr
        generalize (Mb.dec (s.data.toList.drop pos)).1 = r at hnx hr
        generalize (Mb.dec (s.data.toList.drop pos)).2 = k at hnx HN hw
        have ib : ¬ (8 : Int) < acc + 1 := by omega
        clear hh hb hb2
        go_wp2_with (go_at_call 194; refine (hr _).mono ?_; rintro e w' ⟨rfl, rfl⟩)
        go_roundw
        case rel => exact ⟨pos + k, acc + 1, rfl, by go_num, by omega, HN⟩
        case measure =>
          simp
          omega
    · have hnx : ∀ ty, (Instr.next (.pointer (some ⟨w.heap.size, 0, none⟩)) true ty).run Tryz.prog (w.iter s pos) = _ := fun ty => run_next_end w s pos ty hp
      have HN := hh.out
      rw [List.drop_eq_nil_of_le (by rw [← Lib.size_eq]; omega)] at HN
      have HR := Lib.hid (HN.last h8)
      clear HN hh
      go_wp2
      go_ret
      refine ⟨?_, _, rfl⟩
      rw [HR.out]
      congr 2

end Go.Proofs.YtamglanahpcedaaGreatDoor
namespace Go.Proofs.YtamglanahpcedaaGreatDoor
open Go.RowKit Go.Lib

theorem codeOf_cells_plain {r : Nat} (h : Mb.plainRune r = true) : Lib.runeCells (r : Int) = Lib.byteCells (Mb.codeOf r) := by
  have hp := h
  simp only [Mb.plainRune, Bool.or_eq_true, Bool.and_eq_true, decide_eq_true_eq] at hp
  rw [← Lib.byteCells_encodeRune, Mb.codeOf_plain h]
  congr 1
  unfold Lib.encodeRune
  rw [Lib.encodeRuneZ_one (by omega) (by omega)]
  simp only [List.map_cons, List.map_nil, Int.toNat_natCast]

theorem cells_app (a b : List UInt8) : Lib.byteCells (a ++ b) = Lib.byteCells a ++ Lib.byteCells b := by simp [Lib.byteCells]

/-- names.appendCode -/
theorem appendCode_any (B n r : Nat) (hr : r ≤ 1114111) (sv : Value) (xs : List Value) (w : World) (hown : w.ownsRow B 5 1 sv n xs) (hBw : B ≤ w.heap.size) (hlim : n + 80 ≤ 140737488355328)
    (htz : w.cell? ⟨2, 15, none⟩ = some (.int .u8 4)) (hgB : 2 < B) :
    Calls Tryz.prog 178 #[sv, .int .i32 r] w fun e w' => ∃ v', e = .returned v' ∧ w'.ownsRow B 5 1 v' (n + (Mb.codeOf r).length) (xs ++ Lib.byteCells (Mb.codeOf r)) ∧ Below B w w' := by
  obtain ⟨i0, hi, hz0, hz1, hz2⟩ := info_parts (P := Tryz.prog) (e := 5) (z := .int .u8 0) (size := 1) (bytes := 1) (by kernel_rfl)
  have hst := stands_any r
  by_cases hp : Mb.plainRune r = true
  · rw [hp] at hst
    have hc := codeOf_cells_plain hp
    have hl : (Lib.runeCells (r : Int)).length = (Mb.codeOf r).length := by rw [hc, Lib.byteCells_length]
    have hA := Tryz.utf8_AppendRune_plain B sv n xs (r : Int) (by omega) (by omega) w hown (by omega) hBw
    rw [hl, hc] at hA
    clear hc hl
    go_enter Tryz.func178, Tryz.ntmps178
    go_wp2_with (go_at_call 195; refine (hst _).mono ?_; rintro e w' ⟨rfl, hw'⟩; subst w')
    go_at_call 176
    refine hA.mono ?_
    rintro e w1 ⟨v', rfl, h1, o, h2⟩
    go_wp2
    go_ret
    exact ⟨v', rfl, h1, ((Below.refl B w).alloc hBw o).grown h2 (by simp; omega) (fun k hk => (hown.lt k hk).1)⟩
  · have hpf : Mb.plainRune r = false := by simpa using hp
    rw [hpf] at hst
    have hlen : (Mb.hexL r).length ≤ 6 := by
      have := Mb.code_len r hr
      rw [Mb.codeOf_hex hp] at this
      simp only [List.length_cons, List.length_append, List.length_nil] at this
      omega
    go_enter Tryz.func178, Tryz.ntmps178
    go_wp2_with (first
      | (go_at_call 195; refine (hst _).mono ?_; rintro e w' ⟨rfl, hw'⟩; subst w')
      | (at_builtin; refine Lib.wpList_append_own_string _ rfl _ _ 103 9 rfl B 5 i0 Tryz.underlying103 Tryz.underlying9 hi hz0 hz1 hz2 _ _ _ rfl hown ⟨#[61]⟩ rfl ?c1 ?c2 hBw ?_))
    case c1 => show n + 1 ≤ maxLen; unfold maxLen; omega
    case c2 => show n + 1 ≤ _; omega
    intro v1 w1 hown1 hg1 _
    have hb1 := (Below.refl B w).grown hg1 hBw (fun k hk => (hown.lt k hk).1)
    have htz1 : w1.cell? ⟨2, 15, none⟩ = some (.int .u8 4) := (hb1.cell hgB).trans htz
    have hB1 : B ≤ w1.heap.size := Nat.le_trans hBw hb1.size
    have hA := appendInt_any B (n + 1) r (by omega) v1 _ w1 hown1 hB1 (by omega) htz1
    go_wp2_with (go_at_call 196; refine hA.mono ?_)
    rintro e w2 ⟨v2, rfl, hown2, hb2, _⟩
    have hB2 : B ≤ w2.heap.size := Nat.le_trans hB1 hb2.size
    go_wp2_with (at_builtin; refine Lib.wpList_append_own_string _ rfl _ _ 103 9 rfl B 5 i0 Tryz.underlying103 Tryz.underlying9 hi hz0 hz1 hz2 _ _ _ rfl hown2 ⟨#[61]⟩ rfl ?d1 ?d2 hB2 ?_)
    case d1 => show n + 1 + _ + 1 ≤ maxLen; unfold maxLen; omega
    case d2 => show n + 1 + _ + 1 ≤ _; omega
    intro v3 w3 hown3 hg3 _
    go_wp2
    go_ret
    refine ⟨v3, rfl, ?_, (hb1.trans hb2).grown hg3 hB2 (fun k hk => (hown2.lt k hk).1)⟩
    rw [Mb.codeOf_hex hp]
    have e1 : n + (61 :: (Mb.hexL r ++ [61])).length = n + 1 + (Mb.hexL r).length + 1 := by
      simp only [List.length_cons, List.length_append, List.length_nil]; omega
    have e2 : xs ++ Lib.byteCells (61 :: (Mb.hexL r ++ [61])) = xs ++ (Lib.strCells ⟨#[61]⟩ ++ (Lib.byteCells (Mb.hexL r) ++ Lib.strCells ⟨#[61]⟩)) := by
      have hs : Lib.strCells ⟨#[61]⟩ = Lib.byteCells [61] := rfl
      rw [hs, ← cells_app, ← cells_app]
      rfl
    rw [e1, e2]
    exact hown3

/-- where Encode's loop stands: what is told so far, and the text that is still to come -/
def CodeAt (l acc r : List UInt8) : Prop := Mb.encL l = acc ++ Mb.encL r
theorem CodeAt.start (l : List UInt8) : CodeAt l [] l := rfl
theorem CodeAt.go {l acc r : List UInt8} (h : CodeAt l acc r) (hr : r ≠ []) : CodeAt l (acc ++ Mb.codeOf (Mb.dec r).1) (r.drop (Mb.dec r).2) := by
  unfold CodeAt at h ⊢
  rw [h, List.append_assoc]
  congr 1
  unfold Mb.encL
  rw [Mb.runes_step r hr, List.flatMap_cons]
theorem CodeAt.last {l acc : List UInt8} (h : CodeAt l acc []) : Mb.encL l = acc := by
  unfold CodeAt at h
  rw [h]
  show acc ++ [] = acc
  simp

theorem dec_le (l : List UInt8) (h : l ≠ []) : (Mb.dec l).1 ≤ 1114111 := by
  by_cases he : (Mb.dec l).1 = 65533
  · rw [he]; omega
  · exact (Mb.enc_dec l h he).2

theorem codeAt_len {l acc r : List UInt8} (h : CodeAt l acc r) (hn : Mb.nameOk l = true) : acc.length ≤ 64 := by
  have h1 := Mb.enc_len l hn
  unfold CodeAt at h
  rw [h, List.length_append] at h1
  omega

/-- string(v), v a row of bytes that the call owns -/
theorem convert_own (W : World) (B : Nat) (v : Value) (acc : List UInt8) (h : W.ownsRow B 5 1 v acc.length (Lib.byteCells acc)) :
    (convert 103 9 v).run Tryz.prog W = .ok (.string ⟨acc.toArray⟩) W := by
  have h' := h
  rcases h.2 with ⟨rfl, hn⟩ | ⟨g, cap, cur, rfl, _⟩
  · have : acc = [] := List.eq_nil_of_length_eq_zero hn
    subst this
    rw [run_convert_bytes_string W _ _ 5 none 0 0 Tryz.underlying103 Tryz.underlying5 Tryz.underlying9]
    simp [Conv.bytesToString]
    rfl
  · refine run_convert_bytes_back W _ _ 5 ⟨g, 0, none⟩ cap acc Tryz.underlying103 Tryz.underlying5 Tryz.underlying9 fun j hj => ?_
    exact h'.cells rfl j _ (by simp [Lib.byteCells, hj])

theorem own_iterAt {W : World} {K : Nat} {v : Value} {n : Nat} {xs : List Value} (h : W.ownsRow (K + 1) 5 1 v n xs) (s : ByteArray) (pos : Nat) : (W.iterAt K s pos).ownsRow (K + 1) 5 1 v n xs := by
  refine ⟨h.1, ?_⟩
  rcases h.2 with hn | ⟨g, cap, cur, hv, hb, hg, rest⟩
  · exact .inl hn
  · exact .inr ⟨g, cap, cur, hv, hb, (Lib.iterAt_other W K g s pos (by omega)).trans hg, rest⟩

set_option maxHeartbeats 8000000 in
set_option maxRecDepth 1000000 in
/-- names.Encode of a name -/
theorem encode_name (s : ByteArray) (w : World) (hn : Mb.nameOk s.data.toList = true)
    (htz : w.cell? ⟨2, 15, none⟩ = some (.int .u8 4)) :
    Calls Tryz.prog 147 #[.string s] w fun e w' => e = .returned (.tuple #[.string ⟨(Mb.encL s.data.toList).toArray⟩, .int .i64 0]) ∧ Below w.heap.size w w' := by
  have hI := isName_any s w
  rw [hn] at hI
  have hgl : 2 < w.heap.size := Lib.lt_of_cell htz
  go_enter Tryz.func147, Tryz.ntmps147
  go_wp2_with (go_at_call 177; refine hI.mono ?_)
  rintro e w1 ⟨rfl, p1, hw1⟩
  have hb1 : Below w.heap.size w w1 := by rw [hw1]; exact (Below.refl _ _).alloc (Nat.le_refl _) _
  clear hw1 hI
  go_wp2
  have hk0 : (w1.iter s 0).heap[w1.heap.size]? = some (.stringIter s 0) := World.iter_heap w1 s 0
  have hb0 : Below w1.heap.size w1 (w1.iter s 0) := (Below.refl _ _).alloc (Nat.le_refl _) _
  have hsz0 : w1.heap.size + 1 ≤ (w1.iter s 0).heap.size := by simp [World.iter]
  have htz0 : (w1.iter s 0).cell? ⟨2, 15, none⟩ = some (.int .u8 4) := ((hb1.trans (hb0.mono hb1.size)).cell hgl).trans htz
  obtain ⟨K, hK⟩ : ∃ K, K = w1.heap.size := ⟨_, rfl⟩
  have hb0' := hb1.trans (hb0.mono hb1.size)
  have hwK : w.heap.size ≤ K := by rw [hK]; exact hb1.size
  rw [← hK] at hk0 hsz0 ⊢
  generalize w1.iter s 0 = W0 at hk0 hsz0 hb0' htz0 ⊢
  clear hb0 hb1 hK htz w1
  go_loopw [4] (fun v wr => ∃ (pos : Nat) (acc : List UInt8), wr.ownsRow (K + 1) 5 1 v acc.length (Lib.byteCells acc) ∧ wr.heap[K]? = some (.stringIter s pos) ∧ Below w.heap.size w wr ∧ K + 1 ≤ wr.heap.size ∧ wr.cell? ⟨2, 15, none⟩ = some (.int .u8 4) ∧ Hid (CodeAt s.data.toList acc (s.data.toList.drop pos))) (fun _ wr => s.size - wr.iterPos K)
  case atStart => exact ⟨0, [], World.ownsRow_nil _ _ _ _, hk0, hb0', hsz0, htz0, CodeAt.start _⟩
  case round =>
    clear hk0 hb0' hsz0 htz0
    obtain ⟨pos, acc, hown, hk, hb, hsz, htz, hh⟩ := hrel
    have hlen := codeAt_len hh.out hn
    by_cases hp : pos < s.size
    · have hnx : ∀ ty, (Instr.next (.pointer (some ⟨K, 0, none⟩)) true ty).run Tryz.prog wr = _ := fun ty => Lib.run_next_any_at wr K s pos ty hk hp
      have hne := drop_ne hp
      have hw := Mb.dec_width (s.data.toList.drop pos)
      have hd := Mb.decode_is s pos
      rw [hd] at hnx
      clear hd
      have HN := Lib.hid (hh.out.go hne)
      rw [List.drop_drop] at HN
      have hrle := dec_le _ hne
      generalize (Mb.dec (s.data.toList.drop pos)).1 = r at hnx HN hrle
      generalize (Mb.dec (s.data.toList.drop pos)).2 = k at hnx HN hw
      have hip : wr.iterPos K = pos := by simp [World.iterPos, hk]
      have hk1 := Lib.iterAt_heap wr K s pos (pos + k) hk
      have hb1 := Lib.below_iterAt hb hwK s (pos + k)
      have hs1 : K + 1 ≤ (wr.iterAt K s (pos + k)).heap.size := by rw [Lib.iterAt_size]; exact hsz
      have hown1 := own_iterAt hown s (pos + k)
      have htz1 : (wr.iterAt K s (pos + k)).cell? ⟨2, 15, none⟩ = some (.int .u8 4) :=
        (World.cell?_of_block (Lib.iterAt_other wr K 2 s (pos + k) (by omega))).trans htz
      generalize wr.iterAt K s (pos + k) = W1 at hnx hk1 hb1 hs1 hown1 htz1
      have hA := appendCode_any (K + 1) acc.length r hrle u4 _ W1 hown1 hs1 (by omega) htz1 (by omega)
      clear hh hk hb hsz hown htz
      go_wp2_with (go_at_call 178; refine hA.mono ?_)
      rintro e W2 ⟨v', rfl, hown2, hb2⟩
      go_wp2
      have hk2 : W2.heap[K]? = some (.stringIter s (pos + k)) := (hb2.block K (by omega)).trans hk1
      have hip2 : W2.iterPos K = pos + k := by simp [World.iterPos, hk2]
      refine ⟨⟨pos + k, acc ++ Mb.codeOf r, ?_, hk2, ?_, Nat.le_trans hs1 hb2.size, (hb2.cell (p := ⟨2, 15, none⟩) (show 2 < K + 1 by omega)).trans htz1, HN⟩, ?_⟩
      · rw [List.length_append, cells_app]; exact hown2
      · exact hb1.trans (hb2.mono (by omega))
      · rw [hip, hip2]; omega
    · have hnx : ∀ ty, (Instr.next (.pointer (some ⟨K, 0, none⟩)) true ty).run Tryz.prog wr = _ := fun ty => Lib.run_next_end_at wr K s pos ty hk hp
      have HN := hh.out
      rw [List.drop_eq_nil_of_le (by rw [← Lib.size_eq]; omega)] at HN
      have HR := Lib.hid HN.last
      have hcv := convert_own wr _ _ _ hown
      clear HN hh
      go_wp2
      go_ret2
      exact ⟨by rw [HR.out]; rfl, hb⟩

set_option maxRecDepth 100000 in
/-- names.Encode of what is no name -/
theorem encode_bad (s : ByteArray) (w : World) (hn : Mb.nameOk s.data.toList = false) :
    Calls Tryz.prog 147 #[.string s] w fun e w' => e = .returned (.tuple #[.string ⟨#[]⟩, .int .i64 2]) ∧ Below w.heap.size w w' := by
  have hI := isName_any s w
  rw [hn] at hI
  go_enter Tryz.func147, Tryz.ntmps147
  go_wp2_with (go_at_call 177; refine hI.mono ?_)
  rintro e w1 ⟨rfl, p1, hw1⟩
  have hb1 : Below w.heap.size w w1 := by rw [hw1]; exact (Below.refl _ _).alloc (Nat.le_refl _) _
  clear hw1 hI
  go_wp2
  go_ret2
  exact ⟨rfl, hb1⟩

end Go.Proofs.YtamglanahpcedaaGreatDoor
