/-
  OWN TEXT: settle and looks over nothing.
-/
import Derived.Test.YtldgiecjnmkajaaGreatDoorPlayA
namespace Go.Proofs.YtldgiecjnmkajaaGreatDoor
open Go.RowKit Go.Lib

set_option maxHeartbeats 4000000 in
set_option maxRecDepth 100000 in
theorem settle_none {w0 W : World} {H : Obj} {N : Nat} (h : WI w0 H N W) :
    Calls Tryz.prog 34 #[.pointer (some ⟨w0.heap.size, 0, none⟩)] W fun e w' => e = .returned (.bool true) ∧ WI w0 H N w' := by
  have hW := were_none w0.heap.size W h.noneOut
  obtain ⟨c9, f9⟩ := h.cells 9 (.slice none 0 0) (by omega) (fun _ _ _ _ => rfl)
  obtain ⟨c10, f10⟩ := h.cells 10 (.slice none 0 0) (by omega) (fun _ _ _ _ => rfl)
  obtain ⟨c11, f11⟩ := h.cells 11 (.slice none 0 0) (by omega) (fun _ _ _ _ => rfl)
  obtain ⟨c12, f12⟩ := h.cells 12 (.slice none 0 0) (by omega) (fun _ _ _ _ => rfl)
  obtain ⟨c13, f13⟩ := h.cells 13 (.slice none 0 0) (by omega) (fun _ _ _ _ => rfl)
  obtain ⟨c14, f14⟩ := h.cells 14 (.slice none 0 0) (by omega) (fun _ _ _ _ => rfl)
  have HW := Lib.hid (((((h.setSame 9 (.slice none 0 0) (fun _ _ _ _ => rfl)).setSame 10 (.slice none 0 0) (fun _ _ _ _ => rfl)).setSame 11 (.slice none 0 0) (fun _ _ _ _ => rfl)).setSame 12 (.slice none 0 0) (fun _ _ _ _ => rfl)).setSame 13 (.slice none 0 0) (fun _ _ _ _ => rfl) |>.setSame 14 (.slice none 0 0) (fun _ _ _ _ => rfl))
  generalize w0.heap.size = K at hW c9 c10 c11 c12 c13 c14 f9 f10 f11 f12 f13 f14 HW ⊢
  clear h
  go_enter Tryz.func34, Tryz.ntmps34
  go_wp2_with fail
  go_at_call 62
  refine hW.mono (fun e w1 hpost => ?_)
  obtain ⟨rfl, hw1⟩ := hpost
  subst w1
  go_wp2
  go_loop [4] (fun i => i = .int .i64 0) (fun _ => 0)
  case atStart => rfl
  case round =>
    subst hrel
    go_wp2
    go_loop [5] (fun i => i = .int .i64 0) (fun _ => 0)
    case atStart => rfl
    case round =>
      subst hrel
      go_wp2
      go_loop [6] (fun i => i = .int .i64 0) (fun _ => 0)
      case atStart => rfl
      case round =>
        subst hrel
        go_wp2
        go_ret
        exact ⟨rfl, HW.out⟩

set_option maxRecDepth 100000 in
theorem looksActs_none (K : Nat) (W : World) (h : NoneOut K W) :
    Calls Tryz.prog 66 #[.pointer (some ⟨K, 0, none⟩)] W fun e w' => e = .returned (.bool true) ∧ w' = W := by
  have c6 := h.c6
  clear h
  go_enter Tryz.func66, Tryz.ntmps66
  go_wp2
  go_loop [3] (fun i => i = .int .i64 0) (fun _ => 0)
  case atStart => rfl
  case round =>
    subst hrel
    go_wp2
    go_ret
    exact ⟨rfl, rfl⟩
set_option maxRecDepth 100000 in
theorem looksFiles_none (K : Nat) (W : World) (h : NoneOut K W) :
    Calls Tryz.prog 67 #[.pointer (some ⟨K, 0, none⟩)] W fun e w' => e = .returned (.bool true) ∧ w' = W := by
  have c7 := h.c7
  clear h
  go_enter Tryz.func67, Tryz.ntmps67
  go_wp2
  go_loop [3] (fun i => i = .int .i64 0) (fun _ => 0)
  case atStart => rfl
  case round =>
    subst hrel
    go_wp2
    go_ret
    exact ⟨rfl, rfl⟩
set_option maxRecDepth 100000 in
theorem looksEntries_none (K : Nat) (W : World) (h : NoneOut K W) :
    Calls Tryz.prog 68 #[.pointer (some ⟨K, 0, none⟩)] W fun e w' => e = .returned (.bool true) ∧ w' = W := by
  have c8 := h.c8
  clear h
  go_enter Tryz.func68, Tryz.ntmps68
  go_wp2
  go_loop [3] (fun i => i = .int .i64 0) (fun _ => 0)
  case atStart => rfl
  case round =>
    subst hrel
    go_wp2
    go_ret
    exact ⟨rfl, rfl⟩

set_option maxRecDepth 100000 in
theorem looks_none (K : Nat) (W : World) (h : NoneOut K W) :
    Calls Tryz.prog 35 #[.pointer (some ⟨K, 0, none⟩)] W fun e w' => e = .returned (.bool true) ∧ w' = W := by
  have h1 := looksActs_none K W h
  have h2 := looksFiles_none K W h
  have h3 := looksEntries_none K W h
  clear h
  go_enter Tryz.func35, Tryz.ntmps35
  go_wp2_with fail
  go_at_call 66
  refine h1.mono (fun e w1 hpost => ?_)
  obtain ⟨rfl, hw1⟩ := hpost
  subst w1
  go_wp2_with fail
  go_at_call 67
  refine h2.mono (fun e w1 hpost => ?_)
  obtain ⟨rfl, hw1⟩ := hpost
  subst w1
  go_wp2_with fail
  go_at_call 68
  refine h3.mono (fun e w1 hpost => ?_)
  obtain ⟨rfl, hw1⟩ := hpost
  subst w1
  go_wp2
  go_ret
  exact ⟨rfl, rfl⟩

end Go.Proofs.YtldgiecjnmkajaaGreatDoor
