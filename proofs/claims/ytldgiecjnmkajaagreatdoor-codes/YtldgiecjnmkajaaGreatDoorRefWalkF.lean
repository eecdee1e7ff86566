/-
  OWN TEXT: mailbagref's hex and bytesOf.
-/
import Derived.Test.YtldgiecjnmkajaaGreatDoorRefWalkB
namespace Go.Proofs.YtldgiecjnmkajaaGreatDoor
open Go.RowKit Go.Lib

theorem hexVal_cases (c : UInt8) : (∃ d : Nat, Mb.hexVal c = some d ∧ d < 16 ∧ ((48 ≤ (c.toNat : Int) ∧ (c.toNat : Int) ≤ 57 ∧ (d : Int) = (c.toNat : Int) - 48) ∨ (97 ≤ (c.toNat : Int) ∧ (c.toNat : Int) ≤ 102 ∧ (d : Int) = (c.toNat : Int) - 97 + 10))) ∨
    (Mb.hexVal c = none ∧ ((c.toNat : Int) < 48 ∨ (57 < (c.toNat : Int) ∧ (c.toNat : Int) < 97) ∨ 102 < (c.toNat : Int))) := by
  unfold Mb.hexVal
  by_cases h1 : 48 ≤ c.toNat ∧ c.toNat ≤ 57
  · left
    rw [if_pos h1]
    exact ⟨_, rfl, by omega, Or.inl ⟨by omega, by omega, by omega⟩⟩
  · rw [if_neg h1]
    by_cases h2 : 97 ≤ c.toNat ∧ c.toNat ≤ 102
    · left
      rw [if_pos h2]
      exact ⟨_, rfl, by omega, Or.inr ⟨by omega, by omega, by omega⟩⟩
    · right
      rw [if_neg h2]
      exact ⟨rfl, by omega⟩

set_option maxRecDepth 100000 in
theorem hex_low (z : Int) (w : World) (h1 : 48 ≤ z) (h2 : z ≤ 57) :
    Calls Tryz.prog 171 #[.int .u8 z] w fun e w' => e = .returned (.int .i64 (z - 48)) ∧ w' = w := by
  go_enter Tryz.func171, Tryz.ntmps171
  go_wp2
  go_ret
  exact ⟨rfl, rfl⟩
set_option maxRecDepth 100000 in
theorem hex_high (z : Int) (w : World) (h1 : 97 ≤ z) (h2 : z ≤ 102) :
    Calls Tryz.prog 171 #[.int .u8 z] w fun e w' => e = .returned (.int .i64 (z - 97 + 10)) ∧ w' = w := by
  go_enter Tryz.func171, Tryz.ntmps171
  go_wp2
  go_ret
  exact ⟨rfl, rfl⟩
set_option maxRecDepth 100000 in
theorem hex_no (z : Int) (w : World) (h : z < 48 ∨ (57 < z ∧ z < 97) ∨ 102 < z) :
    Calls Tryz.prog 171 #[.int .u8 z] w fun e w' => e = .returned (.int .i64 (-1)) ∧ w' = w := by
  rcases h with h | ⟨h, h2⟩ | h
  all_goals go_enter Tryz.func171, Tryz.ntmps171
  all_goals go_wp2
  all_goals go_ret
  all_goals exact ⟨rfl, rfl⟩

theorem hex_some (c : UInt8) (d : Nat) (h : Mb.hexVal c = some d) (w : World) :
    Calls Tryz.prog 171 #[.int .u8 (c.toNat : Int)] w fun e w' => e = .returned (.int .i64 d) ∧ w' = w := by
  rcases hexVal_cases c with ⟨e, he, _, hx⟩ | ⟨he, _⟩
  · rw [h] at he
    cases he
    rcases hx with ⟨h1, h2, h3⟩ | ⟨h1, h2, h3⟩
    · rw [h3]; exact hex_low _ w h1 h2
    · rw [h3]; exact hex_high _ w h1 h2
  · rw [h] at he; cases he
theorem hex_none (c : UInt8) (h : Mb.hexVal c = none) (w : World) :
    Calls Tryz.prog 171 #[.int .u8 (c.toNat : Int)] w fun e w' => e = .returned (.int .i64 (-1)) ∧ w' = w := by
  rcases hexVal_cases c with ⟨e, he, _, hx⟩ | ⟨he, hx⟩
  · rw [h] at he; cases he
  · exact hex_no _ w hx

/-- a row of bytes just made, as a string -/
theorem convert_new (w : World) (zs : List Int) (h : ∀ z ∈ zs, 0 ≤ z ∧ z < 256) (t : TypeId) (cs : Array Value) (hcs : cs = (zs.map fun z => Value.int .u8 z).toArray) :
    (convert 181 9 (.slice (some ⟨w.heap.size, 0, none⟩) zs.length zs.length)).run Tryz.prog (w.alloc (.cells cs t)) = .ok (.string ⟨(zs.map fun z => z.toNat.toUInt8).toArray⟩) (w.alloc (.cells cs t)) := by
  have hl : zs.length = (zs.map fun z => z.toNat.toUInt8).length := by simp
  rw [hl]
  refine run_convert_bytes_back _ _ _ 5 ⟨w.heap.size, 0, none⟩ _ _ Tryz.underlying181 Tryz.underlying5 Tryz.underlying9 fun j hj => ?_
  have hj' : j < zs.length := by simpa using hj
  have hz := h zs[j] (List.getElem_mem hj')
  rw [Lib.add_plain, Nat.zero_add, World.cell?_alloc_new, hcs]
  simp [hj']
  omega

theorem encodeRune_small (r : Nat) : (Lib.encodeRune (r : Int)).length ≤ 4 := by
  unfold Lib.encodeRune
  rw [List.length_map]
  exact (Lib.encodeRuneZ_length _).2

set_option maxHeartbeats 4000000 in
set_option maxRecDepth 100000 in
theorem bytesOf_one (z : Int) (i0 : 0 ≤ z) (i1 : z < 128) (w : World) :
    Calls Tryz.prog 172 #[.int .i64 z] w fun e w' => e = .returned (.string ⟨(([z] : List Int).map fun z => z.toNat.toUInt8).toArray⟩) ∧ Below w.heap.size w w' := by
  have hcv : (convert 181 9 (.slice (some ⟨w.heap.size, 0, none⟩) 1 1)).run Tryz.prog (w.alloc (.cells #[.int .u8 (z)] 5)) = .ok (.string ⟨(([z] : List Int).map fun z => z.toNat.toUInt8).toArray⟩) (w.alloc (.cells #[.int .u8 (z)] 5)) := convert_new w [z] (by intro y hy; simp at hy; omega) 5 _ rfl
  generalize (⟨(([z] : List Int).map fun z => z.toNat.toUInt8).toArray⟩ : ByteArray) = out at hcv ⊢
  go_enter Tryz.func172, Tryz.ntmps172
  go_wp2
  go_ret
  exact ⟨rfl, (Below.refl _ _).alloc (Nat.le_refl _) _⟩

set_option maxHeartbeats 4000000 in
set_option maxRecDepth 100000 in
theorem bytesOf_two (z : Int) (i0 : 128 ≤ z) (i1 : z < 2048) (w : World) :
    Calls Tryz.prog 172 #[.int .i64 z] w fun e w' => e = .returned (.string ⟨(([192 + z / 64, 128 + z % 64] : List Int).map fun z => z.toNat.toUInt8).toArray⟩) ∧ Below w.heap.size w w' := by
  have hcv : (convert 181 9 (.slice (some ⟨w.heap.size, 0, none⟩) 2 2)).run Tryz.prog (w.alloc (.cells #[.int .u8 (192 + z / 64), .int .u8 (128 + z % 64)] 5)) = .ok (.string ⟨(([192 + z / 64, 128 + z % 64] : List Int).map fun z => z.toNat.toUInt8).toArray⟩) (w.alloc (.cells #[.int .u8 (192 + z / 64), .int .u8 (128 + z % 64)] 5)) := convert_new w [192 + z / 64, 128 + z % 64] (by intro y hy; simp at hy; omega) 5 _ rfl
  generalize (⟨(([192 + z / 64, 128 + z % 64] : List Int).map fun z => z.toNat.toUInt8).toArray⟩ : ByteArray) = out at hcv ⊢
  go_enter Tryz.func172, Tryz.ntmps172
  go_wp2
  go_ret
  exact ⟨rfl, (Below.refl _ _).alloc (Nat.le_refl _) _⟩

set_option maxHeartbeats 4000000 in
set_option maxRecDepth 100000 in
theorem bytesOf_three (z : Int) (i0 : 2048 ≤ z) (i1 : z < 65536) (w : World) :
    Calls Tryz.prog 172 #[.int .i64 z] w fun e w' => e = .returned (.string ⟨(([224 + z / 4096, 128 + z / 64 % 64, 128 + z % 64] : List Int).map fun z => z.toNat.toUInt8).toArray⟩) ∧ Below w.heap.size w w' := by
  have hcv : (convert 181 9 (.slice (some ⟨w.heap.size, 0, none⟩) 3 3)).run Tryz.prog (w.alloc (.cells #[.int .u8 (224 + z / 4096), .int .u8 (128 + z / 64 % 64), .int .u8 (128 + z % 64)] 5)) = .ok (.string ⟨(([224 + z / 4096, 128 + z / 64 % 64, 128 + z % 64] : List Int).map fun z => z.toNat.toUInt8).toArray⟩) (w.alloc (.cells #[.int .u8 (224 + z / 4096), .int .u8 (128 + z / 64 % 64), .int .u8 (128 + z % 64)] 5)) := convert_new w [224 + z / 4096, 128 + z / 64 % 64, 128 + z % 64] (by intro y hy; simp at hy; omega) 5 _ rfl
  generalize (⟨(([224 + z / 4096, 128 + z / 64 % 64, 128 + z % 64] : List Int).map fun z => z.toNat.toUInt8).toArray⟩ : ByteArray) = out at hcv ⊢
  go_enter Tryz.func172, Tryz.ntmps172
  go_wp2
  go_ret
  exact ⟨rfl, (Below.refl _ _).alloc (Nat.le_refl _) _⟩

set_option maxHeartbeats 4000000 in
set_option maxRecDepth 100000 in
theorem bytesOf_four (z : Int) (i0 : 65536 ≤ z) (i1 : z < 1114112) (w : World) :
    Calls Tryz.prog 172 #[.int .i64 z] w fun e w' => e = .returned (.string ⟨(([240 + z / 262144, 128 + z / 4096 % 64, 128 + z / 64 % 64, 128 + z % 64] : List Int).map fun z => z.toNat.toUInt8).toArray⟩) ∧ Below w.heap.size w w' := by
  have hcv : (convert 181 9 (.slice (some ⟨w.heap.size, 0, none⟩) 4 4)).run Tryz.prog (w.alloc (.cells #[.int .u8 (240 + z / 262144), .int .u8 (128 + z / 4096 % 64), .int .u8 (128 + z / 64 % 64), .int .u8 (128 + z % 64)] 5)) = .ok (.string ⟨(([240 + z / 262144, 128 + z / 4096 % 64, 128 + z / 64 % 64, 128 + z % 64] : List Int).map fun z => z.toNat.toUInt8).toArray⟩) (w.alloc (.cells #[.int .u8 (240 + z / 262144), .int .u8 (128 + z / 4096 % 64), .int .u8 (128 + z / 64 % 64), .int .u8 (128 + z % 64)] 5)) := convert_new w [240 + z / 262144, 128 + z / 4096 % 64, 128 + z / 64 % 64, 128 + z % 64] (by intro y hy; simp at hy; omega) 5 _ rfl
  generalize (⟨(([240 + z / 262144, 128 + z / 4096 % 64, 128 + z / 64 % 64, 128 + z % 64] : List Int).map fun z => z.toNat.toUInt8).toArray⟩ : ByteArray) = out at hcv ⊢
  go_enter Tryz.func172, Tryz.ntmps172
  go_wp2
  go_ret
  exact ⟨rfl, (Below.refl _ _).alloc (Nat.le_refl _) _⟩

theorem bytesOf_any (r : Nat) (hr : Mb.runeOkB r = true) (w : World) :
    Calls Tryz.prog 172 #[.int .i64 r] w fun e w' => e = .returned (.string ⟨(Lib.encodeRune (r : Int)).toArray⟩) ∧ Below w.heap.size w w' := by
  have hrle := Mb.ok_le hr
  simp only [Mb.runeOkB, Bool.or_eq_true, Bool.and_eq_true, decide_eq_true_eq] at hr
  unfold Lib.encodeRune
  by_cases h1 : r < 128
  · rw [Lib.encodeRuneZ_one (by omega) (by omega)]
    exact bytesOf_one _ (by omega) (by omega) w
  · by_cases h2 : r < 2048
    · rw [Lib.encodeRuneZ_two (by omega) (by omega)]
      exact bytesOf_two _ (by omega) (by omega) w
    · by_cases h3 : r < 65536
      · rw [Lib.encodeRuneZ_three (by omega)]
        exact bytesOf_three _ (by omega) (by omega) w
      · rw [Lib.encodeRuneZ_four (by omega) (by omega)]
        exact bytesOf_four _ (by omega) (by omega) w

end Go.Proofs.YtldgiecjnmkajaaGreatDoor
