/-
  OWN TEXT: a script of which the caller's own steps, Encode and Decode are played.
-/
import Derived.Test.YtldgiecjnmkajaaGreatDoorPlayG
import Derived.Test.YtldgiecjnmkajaaGreatDoorPlayO
namespace Go.Proofs.YtldgiecjnmkajaaGreatDoor
open Go.RowKit Go.Lib

theorem WI.headOpsAt {w0 W : World} {N : Nat} (h : WI w0 headObj N W) : OpsAt W (w0.heap.size + 1) 0 headOps := by
  intro i o ho
  have hh := h.head
  have key : ∀ j x, j < 5 → (opCells o)[j]? = some x → W.cell? ⟨w0.heap.size + 1, 0 + i * 5 + j, none⟩ = some x := fun j x hj hx => by
    have := head_cells i o ho j hj
    rw [hx] at this
    rw [Nat.zero_add]
    simp [World.cell?, hh, headObj, this]
  exact ⟨key 0 _ (by omega) rfl, key 1 _ (by omega) rfl, key 2 _ (by omega) rfl, key 3 _ (by omega) rfl, key 4 _ (by omega) rfl⟩

theorem head_small : ∀ o ∈ headOps, o.s.size ≤ 281474976710656 := by
  intro o ho
  have hall : headOps.all (fun o => decide (o.s.size ≤ 281474976710656)) = true := by decide
  simpa using List.all_eq_true.1 hall o ho

theorem WI.start (w : World) : WI w headObj 0 ((w.alloc (.cells (worldCells 0 0 (.slice none 0 0) (.slice none 0 0)) 89)).alloc headObj) := by
  refine ⟨((Below.refl _ _).alloc (Nat.le_refl _) _).alloc (by simp) _, ?_, by simp, ⟨0, 0, .slice none 0 0, .slice none 0 0, ?_, RowOk.nil _ _ _ _ _, RowOk.nil _ _ _ _ _⟩⟩
  · have := Go.heap_alloc_new (w.alloc (.cells (worldCells 0 0 (.slice none 0 0) (.slice none 0 0)) 89)) headObj
    simpa using this
  · rw [Go.heap_alloc_old _ _ (by simp)]
    exact Go.heap_alloc_new w _

set_option maxHeartbeats 16000000 in
set_option maxRecDepth 100000 in
theorem plays_codes (a0 : Option Addr) (cap : Nat) (xs : List OpT) (w : World) (hE : EnvN w) (hL : LeastIs w) (hx : OpsSl w a0 xs) (hlen : xs.length ≤ 2513169434895) (hcap : xs.length ≤ cap) (hs : ∀ o ∈ xs, o.s.size ≤ 281474976710656) :
    Calls Tryz.prog 13 #[.slice a0 xs.length cap, .int .i64 7, .int .i64 8, .int .i64 9223372036854775807] w fun e w' => e = .returned (.bool true) ∧ Below w.heap.size w w' := by
  have HE := Lib.hid hE
  have HL := Lib.hid hL
  have HX := Lib.hid hx
  have HS := Lib.hid hs
  have ilen : (xs.length : Int) ≤ 2513169434895 := by omega
  have H0 := Lib.hid (WI.start w)
  have hO := opening_any (w.alloc (.cells (worldCells 0 0 (.slice none 0 0) (.slice none 0 0)) 89))
  clear hE hL hx hs
  go_enter Tryz.func13, Tryz.ntmps13
  go_wp2_with fail
  go_at_call 32
  refine hO.mono (fun e w2 hpost => ?_)
  obtain ⟨rfl, hw2⟩ := hpost
  rw [← hw2] at H0
  have hsz : (w.alloc (.cells (worldCells 0 0 (.slice none 0 0) (.slice none 0 0)) 89)).heap.size = w.heap.size + 1 := by simp
  rw [hsz]
  clear hw2 hO hsz
  go_wp2
  go_loopw [11] (fun vi wr => ∃ i : Nat, vi = .int .i64 i ∧ i ≤ 19 ∧ Hid (WI w headObj i wr)) (fun vi _ => 19 - (RowKit.intOf vi).toNat)
  case atStart => exact ⟨0, rfl, by omega, H0⟩
  case round =>
    obtain ⟨i, rfl, hi, hW⟩ := hrel
    by_cases hlt : i < 19
    · obtain ⟨o, ho⟩ : ∃ o, headOps[i]? = some o := ⟨_, List.getElem?_eq_getElem (show i < headOps.length from hlt)⟩
      have HSM := head_small o (List.mem_of_getElem? ho)
      obtain ⟨d0, d1, d2, d3, d4⟩ := hW.out.headOpsAt i o ho
      simp only [Nat.zero_add] at d0 d1 d2 d3 d4
      obtain ⟨k, a, b, s, t⟩ := o
      simp only at d0 d1 d2 d3 d4 HSM
      have ilt : (i : Int) < 19 := by omega
      clear ho
      by_cases hk : k ≤ 8
      · have hS := step_codes hW.out HE.out HL.out (by omega) k a b s t HSM hk
        have HW := hW
        clear hW
        have hk' : k < 7 ∨ (7 ≤ k ∧ k ≤ 8) := by omega
        rcases hk' with hk7 | ⟨hk7, hk8⟩
        all_goals go_wp2_with fail
        all_goals go_at_call 33
        all_goals refine hS.mono (fun e w3 hpost => ?_)
        all_goals obtain ⟨rfl, hw3⟩ := hpost
        all_goals have HW3 := Lib.hid hw3
        all_goals clear hw3 hS HW
        all_goals go_wp2
        all_goals refine ⟨⟨i + 1, by first | rfl | (congr 1; omega), by omega, HW3⟩, by simp [RowKit.intOf]; omega⟩
      · have hk9 : 8 < k := by omega
        have hk7 : 7 ≤ k := by omega
        have HW := Lib.hid (hW.out.more (N' := i + 1) (by omega))
        clear hW hk
        go_wp2
        refine ⟨⟨i + 1, by first | rfl | (congr 1; omega), by omega, HW⟩, by simp [RowKit.intOf]; omega⟩
    · have hii : i = 19 := by omega
      subst hii
      clear hlt hi
      go_wp2
      go_loopw [13] (fun vi wr => ∃ i : Nat, vi = .int .i64 i ∧ i ≤ xs.length ∧ Hid (WI w headObj (19 + i) wr)) (fun vi _ => xs.length - (RowKit.intOf vi).toNat)
      case atStart => exact ⟨0, rfl, by omega, hW⟩
      case round =>
        clear hW
        obtain ⟨i, rfl, hi, hW⟩ := hrel
        have iu : decide ((i : Int) < 1152921504606846976) = true := by rw [decide_eq_true_eq]; omega
        by_cases hlt : i < xs.length
        · obtain ⟨b0, off, rfl, hb0, hops⟩ : ∃ b off, a0 = some ⟨b, off, none⟩ ∧ b < w.heap.size ∧ OpsAt w b off xs := by
            rcases HX.out with h | h
            · rw [h] at hlt; simp at hlt
            · exact h
          have ho : xs[i]? = some xs[i] := List.getElem?_eq_getElem hlt
          have HSM := HS.out xs[i] (List.getElem_mem hlt)
          obtain ⟨d0, d1, d2, d3, d4⟩ := (hops.below hW.out.low hb0) i xs[i] ho
          clear ho hops
          generalize xs[i] = o at d0 d1 d2 d3 d4 HSM
          obtain ⟨k, a, b, s, t⟩ := o
          simp only at d0 d1 d2 d3 d4 HSM
          have ilt : (i : Int) < xs.length := by omega
          have icap : (i : Int) < cap := by omega
          by_cases hk : k ≤ 8
          · have hS := step_codes (hW.out.box (boxOf k a b s t)) HE.out HL.out (by omega) k a b s t HSM hk
            have hk14 : (k == 14) = false := by simp; omega
            have HW := hW
            clear hW
            have hk' : (k < 7 ∧ ¬ 7 ≤ k) ∨ (7 ≤ k ∧ k ≤ 8 ∧ ¬ k < 7 ∧ ¬ 8 < k) := by omega
            rcases hk' with ⟨hk7, hk7n⟩ | ⟨hk7, hk8, hk7n, hk8n⟩
            all_goals go_wp2_with fail
            all_goals go_at_call 33
            all_goals refine hS.mono (fun e w3 hpost => ?_)
            all_goals obtain ⟨rfl, hw3⟩ := hpost
            all_goals clear hS HW
            all_goals have HW3 := Lib.hid hw3
            all_goals clear hw3
            all_goals by_cases hm : i % 3 = 2
            · have h3a : ((i : Int) % 3 == 2) = true := by simp; omega
              have hSe := settle_none HW3.out
              clear hm
              go_wp2_with fail
              go_at_call 34
              refine hSe.mono (fun e w4 hpost => ?_)
              obtain ⟨rfl, hw4⟩ := hpost
              have HW4 := Lib.hid hw4
              have hLo := looks_none _ _ hw4.noneOut
              clear hw4 hSe HW3
              go_wp2_with fail
              go_at_call 35
              refine hLo.mono (fun e w5 hpost => ?_)
              obtain ⟨rfl, hw5⟩ := hpost
              subst w5
              go_wp2
              simp [RowKit.intOf]
              exact ⟨⟨i + 1, by omega, by omega, HW4⟩, by omega⟩
            · have h3a : ((i : Int) % 3 == 2) = false := by simp; omega
              have hLo := looks_none _ _ HW3.out.noneOut
              clear hm
              go_wp2_with fail
              go_at_call 35
              refine hLo.mono (fun e w5 hpost => ?_)
              obtain ⟨rfl, hw5⟩ := hpost
              subst w5
              go_wp2
              simp [RowKit.intOf]
              exact ⟨⟨i + 1, by omega, by omega, HW3⟩, by omega⟩
            · have h3a : ((i : Int) % 3 == 2) = true := by simp; omega
              have hSe := settle_none HW3.out
              clear hm
              go_wp2_with fail
              go_at_call 34
              refine hSe.mono (fun e w4 hpost => ?_)
              obtain ⟨rfl, hw4⟩ := hpost
              have HW4 := Lib.hid hw4
              have hLo := looks_none _ _ hw4.noneOut
              clear hw4 hSe HW3
              go_wp2_with fail
              go_at_call 35
              refine hLo.mono (fun e w5 hpost => ?_)
              obtain ⟨rfl, hw5⟩ := hpost
              subst w5
              go_wp2
              simp [RowKit.intOf]
              exact ⟨⟨i + 1, by omega, by omega, HW4⟩, by omega⟩
            · have h3a : ((i : Int) % 3 == 2) = false := by simp; omega
              have hLo := looks_none _ _ HW3.out.noneOut
              clear hm
              go_wp2_with fail
              go_at_call 35
              refine hLo.mono (fun e w5 hpost => ?_)
              obtain ⟨rfl, hw5⟩ := hpost
              subst w5
              go_wp2
              simp [RowKit.intOf]
              exact ⟨⟨i + 1, by omega, by omega, HW3⟩, by omega⟩
          · have hk9 : 8 < k := by omega
            have hk7 : 7 ≤ k := by omega
            have hk7n : ¬ k < 7 := by omega
            have hk8n : ¬ k ≤ 8 := by omega
            have HW := Lib.hid ((hW.out.box (boxOf k a b s t)).more (N' := 19 + (i + 1)) (by omega))
            clear hW hk
            go_wp2
            simp [RowKit.intOf]
            exact ⟨⟨i + 1, by omega, by omega, HW⟩, by omega⟩
        · have hii : i = xs.length := by omega
          subst hii
          have hSe := settle_none hW.out
          clear hlt hi
          go_wp2_with fail
          go_at_call 34
          refine hSe.mono (fun e w4 hpost => ?_)
          obtain ⟨rfl, hw4⟩ := hpost
          have HW4 := Lib.hid hw4.low
          have hLo := looks_none _ _ hw4.noneOut
          clear hw4 hSe hW
          go_wp2_with fail
          go_at_call 35
          refine hLo.mono (fun e w5 hpost => ?_)
          obtain ⟨rfl, hw5⟩ := hpost
          subst w5
          go_wp2
          go_ret
          exact ⟨rfl, HW4.out⟩

set_option maxRecDepth 100000 in
theorem codes_any (a0 : Option Addr) (cap : Nat) (xs : List OpT) (w : World) (hE : EnvN w) (hL : LeastIs w) (hx : OpsSl w a0 xs) (hlen : xs.length ≤ 2513169434895) (hcap : xs.length ≤ cap) (hs : ∀ o ∈ xs, o.s.size ≤ 281474976710656) :
    Calls Tryz.prog 3 #[.slice a0 xs.length cap] w fun e w' => e = .returned (.bool true) ∧ Below w.heap.size w w' := by
  have hP := plays_codes a0 cap xs w hE hL hx hlen hcap hs
  clear hE hL hx hs
  go_enter Tryz.func3, Tryz.ntmps3
  go_wp2_with fail
  go_at_call 13
  refine hP.mono (fun e w2 hpost => ?_)
  obtain ⟨rfl, hb⟩ := hpost
  go_wp2
  go_ret
  exact ⟨rfl, hb⟩

end Go.Proofs.YtldgiecjnmkajaaGreatDoor
