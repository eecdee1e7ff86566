/-
  OWN TEXT: a step of the caller's own, Write or Read; the World at the begin.
  OWN TEXT: a script of which the caller's own steps, Write and Read are played.
-/
import Derived.Test.YtldgiecjnmkajaaGreatDoorOwnerL
import Derived.Test.YtldgiecjnmkajaaGreatDoorWordM
import Derived.Test.YtldgiecjnmkajaaGreatDoorMarkM
import Derived.Test.YtldgiecjnmkajaaGreatDoorPlayO
namespace Go.Proofs.YtldgiecjnmkajaaGreatDoor
open Go.RowKit Go.Lib

set_option maxHeartbeats 4000000 in
set_option maxRecDepth 100000 in
theorem stepL_own {w0 W : World} {H : Obj} {N : Nat} (h : WX w0 H N W) (hN : N ≤ 2097151) (k a b : Int) (s t : ByteArray) (hs : s.size ≤ 1048576) (hk : k < 7) :
    Calls Tryz.prog 33 #[.pointer (some ⟨w0.heap.size, 0, none⟩), .agg #[.int .i64 k, .int .i64 a, .int .i64 b, .string s, .string t]] W fun e w' => e = .returned (.bool true) ∧ WX w0 H (N + 1) w' := by
  have hO := ownerL (h.box (boxOf k a b s t)) (by omega) k a b s t hs hk
  clear h
  go_enter Tryz.func33, Tryz.ntmps33
  go_wp2_with fail
  go_at_call 58
  refine hO.mono (fun e w2 hpost => ?_)
  obtain ⟨rfl, hw2⟩ := hpost
  have H2 := Lib.hid hw2
  clear hw2 hO
  go_wp2
  go_ret
  exact ⟨rfl, H2.out⟩

theorem wordsL_any {w0 W : World} {H : Obj} {N : Nat} (h : WX w0 H N W) (hE0 : Env w0) (hN : N ≤ 2097151) (k a b : Int) (s t : ByteArray) (hs : s.size ≤ 1048576) (hk : k = 9 ∨ k = 10) :
    Calls Tryz.prog 59 #[.pointer (some ⟨w0.heap.size, 0, none⟩), .agg #[.int .i64 k, .int .i64 a, .int .i64 b, .string s, .string t]] W fun e w' => e = .returned (.bool true) ∧ WX w0 H (N + 1) w' := by
  rcases hk with rfl | rfl
  · exact (words_writeL h hE0 (by omega) a b s t).mono fun e w' ⟨h1, h2⟩ => ⟨h1, h2.more (by omega)⟩
  · exact words_readL h hE0 hN a b s t hs

set_option maxHeartbeats 4000000 in
set_option maxRecDepth 100000 in
theorem stepL_words {w0 W : World} {H : Obj} {N : Nat} (h : WX w0 H N W) (hE0 : Env w0) (hN : N ≤ 2097151) (k a b : Int) (s t : ByteArray) (hs : s.size ≤ 1048576) (hk : k = 9 ∨ k = 10) :
    Calls Tryz.prog 33 #[.pointer (some ⟨w0.heap.size, 0, none⟩), .agg #[.int .i64 k, .int .i64 a, .int .i64 b, .string s, .string t]] W fun e w' => e = .returned (.bool true) ∧ WX w0 H (N + 1) w' := by
  have hO := wordsL_any (h.box (boxOf k a b s t)) hE0 hN k a b s t hs hk
  have k0 : 7 ≤ k := by omega
  have k1 : k ≤ 10 := by omega
  clear h hE0 hk
  go_enter Tryz.func33, Tryz.ntmps33
  go_wp2_with fail
  go_at_call 59
  refine hO.mono (fun e w2 hpost => ?_)
  obtain ⟨rfl, hw2⟩ := hpost
  have H2 := Lib.hid hw2
  clear hw2 hO
  go_wp2
  go_ret
  exact ⟨rfl, H2.out⟩

/-- a step of the caller's own, Write or Read -/
theorem stepL {w0 W : World} {H : Obj} {N : Nat} (h : WX w0 H N W) (hE0 : Env w0) (hN : N ≤ 2097151) (k a b : Int) (s t : ByteArray) (hs : s.size ≤ 1048576) (hk : k < 7 ∨ (9 ≤ k ∧ k ≤ 10)) :
    Calls Tryz.prog 33 #[.pointer (some ⟨w0.heap.size, 0, none⟩), .agg #[.int .i64 k, .int .i64 a, .int .i64 b, .string s, .string t]] W fun e w' => e = .returned (.bool true) ∧ WX w0 H (N + 1) w' := by
  rcases hk with hk | hk
  · exact stepL_own h hN k a b s t hs hk
  · exact stepL_words h hE0 hN k a b s t hs (by omega)

theorem looksX {w0 W : World} {H : Obj} {N : Nat} (h : WX w0 H N W) (hN : N ≤ 2097152) :
    Calls Tryz.prog 35 #[.pointer (some ⟨w0.heap.size, 0, none⟩)] W fun e w' => e = .returned (.bool true) ∧ WX w0 H N w' := by
  obtain ⟨role, D, h⟩ := h
  exact (looksL h hN).mono fun e w' ⟨h1, h2⟩ => ⟨h1, role, D, h.below h2⟩

/-- the World's cells at the begin -/
def startCells : Array Value :=
  #[.int .i64 0, .int .i64 0, .slice none 0 0, .slice none 0 0, .slice none 0 0, .int .i64 0, .slice none 0 0, .slice none 0 0, .slice none 0 0, .slice none 0 0, .slice none 0 0, .slice none 0 0, .slice none 0 0, .slice none 0 0, .slice none 0 0]

theorem WX.start (w : World) : WX w headObj 0 ((w.alloc (.cells startCells 89)).alloc headObj) := by
  refine ⟨fun b => if b = w.heap.size then 1 else 0, ⟨0, 0, .slice none 0 0, .slice none 0 0, 0, .slice none 0 0, .slice none 0 0, .slice none 0 0, [], 0, [], [], []⟩, ?_⟩
  exact
    { low := ((Below.refl _ _).alloc (Nat.le_refl _) _).alloc (by simp) _
      head := by
        have := Go.heap_alloc_new (w.alloc (.cells startCells 89)) headObj
        simpa using this
      size := by simp
      blk := by
        rw [Go.heap_alloc_old _ _ (by simp)]
        exact Go.heap_alloc_new w _
      rlow := fun k hk => if_neg (by omega)
      rworld := if_pos rfl
      rhead := if_neg (by omega)
      ov := OwnR.nil _ _ _ _ _ _
      fv := fun x hx => absurd hx List.not_mem_nil
      nv := Nat.le_refl _
      of := OwnR.nil _ _ _ _ _ _
      nf := Nat.le_refl _
      ob := OwnR.nil _ _ _ _ _ _
      ow := OwnR.nil _ _ _ _ _ _
      oe := OwnR.nil _ _ _ _ _ _
      books := fun b hb => absurd hb List.not_mem_nil
      waits := fun i x _ hx => by simp at hx
      dn := Nat.le_refl _
      nb := Nat.le_refl _
      m := rfl }

theorem WX.headOpsAt {w0 W : World} {N : Nat} (h : WX w0 headObj N W) : OpsAt W (w0.heap.size + 1) 0 headOps := by
  intro i o ho
  have hh := h.head
  have key : ∀ j x, j < 5 → (opCells o)[j]? = some x → W.cell? ⟨w0.heap.size + 1, 0 + i * 5 + j, none⟩ = some x := fun j x hj hx => by
    have := head_cells i o ho j hj
    rw [hx] at this
    rw [Nat.zero_add]
    simp [World.cell?, hh, headObj, this]
  exact ⟨key 0 _ (by omega) rfl, key 1 _ (by omega) rfl, key 2 _ (by omega) rfl, key 3 _ (by omega) rfl, key 4 _ (by omega) rfl⟩

theorem head_small2 : ∀ o ∈ headOps, o.s.size ≤ 1048576 := by
  intro o ho
  have hall : headOps.all (fun o => decide (o.s.size ≤ 1048576)) = true := by decide
  simpa using List.all_eq_true.1 hall o ho

end Go.Proofs.YtldgiecjnmkajaaGreatDoor
namespace Go.Proofs.YtldgiecjnmkajaaGreatDoor
open Go.RowKit Go.Lib

set_option maxHeartbeats 16000000 in
set_option maxRecDepth 100000 in
theorem plays_lists (a0 : Option Addr) (cap : Nat) (xs : List OpT) (w : World) (hE : Env w) (hx : OpsSl w a0 xs) (hlen : xs.length ≤ 1048576) (hcap : xs.length ≤ cap) (hs : ∀ o ∈ xs, o.s.size ≤ 1048576) :
    Calls Tryz.prog 13 #[.slice a0 xs.length cap, .int .i64 9, .int .i64 10, .int .i64 9223372036854775807] w fun e w' => e = .returned (.bool true) ∧ Below w.heap.size w w' := by
  have HE := Lib.hid hE
  have HX := Lib.hid hx
  have HS := Lib.hid hs
  have ilen : (xs.length : Int) ≤ 1048576 := by omega
  have H0 := Lib.hid (WX.start w)
  have hO := opening_any (w.alloc (.cells startCells 89))
  clear hE hx hs
  go_enter Tryz.func13, Tryz.ntmps13
  go_wp2_with fail
  go_at_call 32
  refine hO.mono (fun e w2 hpost => ?_)
  obtain ⟨rfl, hw2⟩ := hpost
  rw [← hw2] at H0
  have hsz : (w.alloc (.cells startCells 89)).heap.size = w.heap.size + 1 := by simp
  rw [hsz]
  clear hw2 hO hsz
  go_wp2
  go_loopw [11] (fun vi wr => ∃ i : Nat, vi = .int .i64 i ∧ i ≤ 19 ∧ Hid (WX w headObj i wr)) (fun vi _ => 19 - (RowKit.intOf vi).toNat)
  case atStart => exact ⟨0, rfl, by omega, H0⟩
  case round =>
    obtain ⟨i, rfl, hi, hW⟩ := hrel
    by_cases hlt : i < 19
    · obtain ⟨o, ho⟩ : ∃ o, headOps[i]? = some o := ⟨_, List.getElem?_eq_getElem (show i < headOps.length from hlt)⟩
      have HSM := head_small2 o (List.mem_of_getElem? ho)
      obtain ⟨d0, d1, d2, d3, d4⟩ := hW.out.headOpsAt i o ho
      simp only [Nat.zero_add] at d0 d1 d2 d3 d4
      obtain ⟨k, a, b, s, t⟩ := o
      simp only at d0 d1 d2 d3 d4 HSM
      have ilt : (i : Int) < 19 := by omega
      clear ho
      by_cases hk : k < 7 ∨ (9 ≤ k ∧ k ≤ 10)
      · have hS := stepL hW.out HE.out (by omega) k a b s t HSM hk
        have HW := hW
        clear hW
        rcases hk with hk7 | ⟨hk9, hk10⟩
        all_goals go_wp2_with fail
        all_goals go_at_call 33
        all_goals refine hS.mono (fun e w3 hpost => ?_)
        all_goals obtain ⟨rfl, hw3⟩ := hpost
        all_goals have HW3 := Lib.hid hw3
        all_goals clear hw3 hS HW
        all_goals go_wp2
        all_goals refine ⟨⟨i + 1, by first | rfl | (congr 1; omega), by omega, HW3⟩, by simp [RowKit.intOf]; omega⟩
      · have HW := Lib.hid (hW.out.more (N' := i + 1) (by omega))
        have hk' : (7 ≤ k ∧ k < 9) ∨ (9 ≤ k ∧ 10 < k) := by omega
        clear hW hk
        rcases hk' with ⟨q1, q2⟩ | ⟨q1, q2⟩
        · have q3 : ¬ k < 7 := by omega
          have q4 : ¬ 9 ≤ k := by omega
          go_wp2
          refine ⟨⟨i + 1, by first | rfl | (congr 1; omega), by omega, HW⟩, by simp [RowKit.intOf]; omega⟩
        · have q3 : ¬ k < 7 := by omega
          have q4 : ¬ k ≤ 10 := by omega
          go_wp2
          refine ⟨⟨i + 1, by first | rfl | (congr 1; omega), by omega, HW⟩, by simp [RowKit.intOf]; omega⟩
    · have hii : i = 19 := by omega
      subst hii
      clear hlt hi
      go_wp2
      go_loopw [13] (fun vi wr => ∃ i : Nat, vi = .int .i64 i ∧ i ≤ xs.length ∧ Hid (WX w headObj (19 + i) wr)) (fun vi _ => xs.length - (RowKit.intOf vi).toNat)
      case atStart => exact ⟨0, rfl, by omega, hW⟩
      case round =>
        clear hW
        obtain ⟨i, rfl, hi, hW⟩ := hrel
        have iu : decide ((i : Int) < 1152921504606846976) = true := by rw [decide_eq_true_eq]; omega
        by_cases hlt : i < xs.length
        · obtain ⟨b0, off, rfl, hb0, hops⟩ : ∃ b off, a0 = some ⟨b, off, none⟩ ∧ b < w.heap.size ∧ OpsAt w b off xs := by
            rcases HX.out with h | h
            · rw [h] at hlt; simp at hlt
            · exact h
          have ho : xs[i]? = some xs[i] := List.getElem?_eq_getElem hlt
          have HSM := HS.out xs[i] (List.getElem_mem hlt)
          obtain ⟨d0, d1, d2, d3, d4⟩ := (hops.below hW.out.low hb0) i xs[i] ho
          clear ho hops
          generalize xs[i] = o at d0 d1 d2 d3 d4 HSM
          obtain ⟨k, a, b, s, t⟩ := o
          simp only at d0 d1 d2 d3 d4 HSM
          have ilt : (i : Int) < xs.length := by omega
          have icap : (i : Int) < cap := by omega
          by_cases hk : k < 7 ∨ (9 ≤ k ∧ k ≤ 10)
          · have hS := stepL (hW.out.box (boxOf k a b s t)) HE.out (by omega) k a b s t HSM hk
            have hk14 : (k == 14) = false := by simp; omega
            have HW := hW
            clear hW
            have hk' : (k < 7 ∧ ¬ 7 ≤ k) ∨ (9 ≤ k ∧ k ≤ 10 ∧ 7 ≤ k ∧ ¬ k < 7 ∧ ¬ k < 9 ∧ ¬ 10 < k) := by omega
            clear hk
            rcases hk' with ⟨hk7, hk7n⟩ | ⟨hk9, hk10, hk7, hk7n, hk9n, hk10n⟩
            all_goals go_wp2_with fail
            all_goals go_at_call 33
            all_goals refine hS.mono (fun e w3 hpost => ?_)
            all_goals obtain ⟨rfl, hw3⟩ := hpost
            all_goals clear hS HW
            all_goals have HW3 := Lib.hid hw3
            all_goals clear hw3
            all_goals by_cases hm : i % 3 = 2
            · have h3a : ((i : Int) % 3 == 2) = true := by simp; omega
              have hSe := settleL HW3.out (by omega)
              clear hm
              go_wp2_with fail
              go_at_call 34
              refine hSe.mono (fun e w4 hpost => ?_)
              obtain ⟨rfl, hw4⟩ := hpost
              have hLo := looksX hw4 (by omega)
              clear hw4 hSe HW3
              go_wp2_with fail
              go_at_call 35
              refine hLo.mono (fun e w5 hpost => ?_)
              obtain ⟨rfl, hw5⟩ := hpost
              have HW5 := Lib.hid hw5
              clear hw5 hLo
              go_wp2
              simp [RowKit.intOf]
              exact ⟨⟨i + 1, by omega, by omega, HW5⟩, by omega⟩
            · have h3a : ((i : Int) % 3 == 2) = false := by simp; omega
              have hLo := looksX HW3.out (by omega)
              clear hm HW3
              go_wp2_with fail
              go_at_call 35
              refine hLo.mono (fun e w5 hpost => ?_)
              obtain ⟨rfl, hw5⟩ := hpost
              have HW5 := Lib.hid hw5
              clear hw5 hLo
              go_wp2
              simp [RowKit.intOf]
              exact ⟨⟨i + 1, by omega, by omega, HW5⟩, by omega⟩
            · have h3a : ((i : Int) % 3 == 2) = true := by simp; omega
              have hSe := settleL HW3.out (by omega)
              clear hm
              go_wp2_with fail
              go_at_call 34
              refine hSe.mono (fun e w4 hpost => ?_)
              obtain ⟨rfl, hw4⟩ := hpost
              have hLo := looksX hw4 (by omega)
              clear hw4 hSe HW3
              go_wp2_with fail
              go_at_call 35
              refine hLo.mono (fun e w5 hpost => ?_)
              obtain ⟨rfl, hw5⟩ := hpost
              have HW5 := Lib.hid hw5
              clear hw5 hLo
              go_wp2
              simp [RowKit.intOf]
              exact ⟨⟨i + 1, by omega, by omega, HW5⟩, by omega⟩
            · have h3a : ((i : Int) % 3 == 2) = false := by simp; omega
              have hLo := looksX HW3.out (by omega)
              clear hm HW3
              go_wp2_with fail
              go_at_call 35
              refine hLo.mono (fun e w5 hpost => ?_)
              obtain ⟨rfl, hw5⟩ := hpost
              have HW5 := Lib.hid hw5
              clear hw5 hLo
              go_wp2
              simp [RowKit.intOf]
              exact ⟨⟨i + 1, by omega, by omega, HW5⟩, by omega⟩
          · have HW := Lib.hid ((hW.out.box (boxOf k a b s t)).more (N' := 19 + (i + 1)) (by omega))
            have hk7 : 7 ≤ k := by omega
            have hk7n : ¬ k < 7 := by omega
            have hk' : (k < 9) ∨ (9 ≤ k ∧ ¬ k < 9 ∧ 10 < k ∧ ¬ k ≤ 10) := by omega
            clear hW hk
            rcases hk' with q1 | ⟨q1, q2, q3, q4⟩
            · go_wp2
              simp [RowKit.intOf]
              exact ⟨⟨i + 1, by omega, by omega, HW⟩, by omega⟩
            · go_wp2
              simp [RowKit.intOf]
              exact ⟨⟨i + 1, by omega, by omega, HW⟩, by omega⟩
        · have hii : i = xs.length := by omega
          subst hii
          have hSe := settleL hW.out (by omega)
          clear hlt hi
          go_wp2_with fail
          go_at_call 34
          refine hSe.mono (fun e w4 hpost => ?_)
          obtain ⟨rfl, hw4⟩ := hpost
          have hLo := looksX hw4 (by omega)
          clear hw4 hSe hW
          go_wp2_with fail
          go_at_call 35
          refine hLo.mono (fun e w5 hpost => ?_)
          obtain ⟨rfl, hw5⟩ := hpost
          have HW5 := Lib.hid hw5.low
          clear hw5 hLo
          go_wp2
          go_ret
          exact ⟨rfl, HW5.out⟩

set_option maxRecDepth 100000 in
theorem lists_any (a0 : Option Addr) (cap : Nat) (xs : List OpT) (w : World) (hE : Env w) (hx : OpsSl w a0 xs) (hlen : xs.length ≤ 1048576) (hcap : xs.length ≤ cap) (hs : ∀ o ∈ xs, o.s.size ≤ 1048576) :
    Calls Tryz.prog 4 #[.slice a0 xs.length cap] w fun e w' => e = .returned (.bool true) ∧ Below w.heap.size w w' := by
  have hP := plays_lists a0 cap xs w hE hx hlen hcap hs
  clear hE hx hs
  go_enter Tryz.func4, Tryz.ntmps4
  go_wp2_with fail
  go_at_call 13
  refine hP.mono (fun e w2 hpost => ?_)
  obtain ⟨rfl, hb⟩ := hpost
  go_wp2
  go_ret
  exact ⟨rfl, hb⟩

end Go.Proofs.YtldgiecjnmkajaaGreatDoor
