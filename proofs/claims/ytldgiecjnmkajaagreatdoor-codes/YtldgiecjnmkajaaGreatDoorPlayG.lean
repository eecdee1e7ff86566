/-
  OWN TEXT: a step of the kinds up to Decode.
-/
import Derived.Test.YtldgiecjnmkajaaGreatDoorPlayE
import Derived.Test.YtldgiecjnmkajaaGreatDoorPlayF
namespace Go.Proofs.YtldgiecjnmkajaaGreatDoor
open Go.RowKit Go.Lib

theorem owner_any {w0 W : World} {H : Obj} {N : Nat} (h : WI w0 H N W) (hN : N ≤ 2814749767106) (k a b : Int) (s t : ByteArray) (hk : k < 7) :
    Calls Tryz.prog 58 #[.pointer (some ⟨w0.heap.size, 0, none⟩), .agg #[.int .i64 k, .int .i64 a, .int .i64 b, .string s, .string t]] W fun e w' => e = .returned (.tuple #[]) ∧ WI w0 H (N + 1) w' := by
  have more : ∀ {e : Ending} {w' : World}, (e = .returned (.tuple #[]) ∧ WI w0 H N w') → (e = .returned (.tuple #[]) ∧ WI w0 H (N + 1) w') := fun ⟨he, hw⟩ => ⟨he, hw.more (by omega)⟩
  have hc : (k < 1 ∨ k = 6) ∨ k = 1 ∨ k = 2 ∨ k = 3 ∨ k = 4 ∨ k = 5 := by omega
  rcases hc with hc | rfl | rfl | rfl | rfl | rfl
  · exact (owner_none h k a b s t hc).mono fun _ _ => more
  · exact (owner_head h a b s t).mono fun _ _ => more
  · exact owner_entry h hN a b s t
  · exact (owner_bare h a b s t).mono fun _ _ => more
  · exact owner_file h hN a b s t
  · exact (owner_nofiles h a b s t).mono fun _ _ => more

theorem words_any {w0 W : World} {H : Obj} {N : Nat} (h : WI w0 H N W) (hE0 : EnvN w0) (hL0 : LeastIs w0) (k a b : Int) (s t : ByteArray) (hs : s.size ≤ 281474976710656) (hk : k = 7 ∨ k = 8) :
    Calls Tryz.prog 59 #[.pointer (some ⟨w0.heap.size, 0, none⟩), .agg #[.int .i64 k, .int .i64 a, .int .i64 b, .string s, .string t]] W fun e w' => e = .returned (.bool true) ∧ WI w0 H N w' := by
  rcases hk with rfl | rfl
  · exact words_encode h hE0 hL0 a b s t hs
  · exact words_decode h hE0 hL0 a b s t hs

set_option maxHeartbeats 4000000 in
set_option maxRecDepth 100000 in
theorem step_own {w0 W : World} {H : Obj} {N : Nat} (h : WI w0 H N W) (hN : N ≤ 2814749767106) (k a b : Int) (s t : ByteArray) (hk : k < 7) :
    Calls Tryz.prog 33 #[.pointer (some ⟨w0.heap.size, 0, none⟩), .agg #[.int .i64 k, .int .i64 a, .int .i64 b, .string s, .string t]] W fun e w' => e = .returned (.bool true) ∧ WI w0 H (N + 1) w' := by
  have hO := owner_any (h.box (boxOf k a b s t)) hN k a b s t hk
  clear h
  go_enter Tryz.func33, Tryz.ntmps33
  go_wp2_with fail
  go_at_call 58
  refine hO.mono (fun e w2 hpost => ?_)
  obtain ⟨rfl, hw2⟩ := hpost
  have H2 := Lib.hid hw2
  clear hw2 hO
  go_wp2
  go_ret
  exact ⟨rfl, H2.out⟩

set_option maxHeartbeats 4000000 in
set_option maxRecDepth 100000 in
theorem step_words {w0 W : World} {H : Obj} {N : Nat} (h : WI w0 H N W) (hE0 : EnvN w0) (hL0 : LeastIs w0) (k a b : Int) (s t : ByteArray) (hs : s.size ≤ 281474976710656) (hk : k = 7 ∨ k = 8) :
    Calls Tryz.prog 33 #[.pointer (some ⟨w0.heap.size, 0, none⟩), .agg #[.int .i64 k, .int .i64 a, .int .i64 b, .string s, .string t]] W fun e w' => e = .returned (.bool true) ∧ WI w0 H (N + 1) w' := by
  have hO := words_any (h.box (boxOf k a b s t)) hE0 hL0 k a b s t hs hk
  have k0 : 7 ≤ k := by omega
  have k1 : k ≤ 10 := by omega
  clear h hE0 hL0 hk
  go_enter Tryz.func33, Tryz.ntmps33
  go_wp2_with fail
  go_at_call 59
  refine hO.mono (fun e w2 hpost => ?_)
  obtain ⟨rfl, hw2⟩ := hpost
  have H2 := Lib.hid (hw2.more (N' := N + 1) (by omega))
  clear hw2 hO
  go_wp2
  go_ret
  exact ⟨rfl, H2.out⟩

/-- a step of the caller's own, Encode or Decode -/
theorem step_codes {w0 W : World} {H : Obj} {N : Nat} (h : WI w0 H N W) (hE0 : EnvN w0) (hL0 : LeastIs w0) (hN : N ≤ 2814749767106) (k a b : Int) (s t : ByteArray) (hs : s.size ≤ 281474976710656) (hk : k ≤ 8) :
    Calls Tryz.prog 33 #[.pointer (some ⟨w0.heap.size, 0, none⟩), .agg #[.int .i64 k, .int .i64 a, .int .i64 b, .string s, .string t]] W fun e w' => e = .returned (.bool true) ∧ WI w0 H (N + 1) w' := by
  by_cases h7 : k < 7
  · exact step_own h hN k a b s t h7
  · exact step_words h hE0 hL0 k a b s t hs (by omega)

end Go.Proofs.YtldgiecjnmkajaaGreatDoor
