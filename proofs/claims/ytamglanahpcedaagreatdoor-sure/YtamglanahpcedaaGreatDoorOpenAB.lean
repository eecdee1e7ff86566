/-
  OWN TEXT: what the names of files say: the list's, a message's.
  OWN TEXT: filenames.Read at the list's name and at a message's.
-/
import Derived.Test.YtamglanahpcedaaGreatDoorServeM
import Derived.Test.YtamglanahpcedaaGreatDoorFolderDE
import Derived.Test.YtamglanahpcedaaGreatDoorNameWF
import Derived.Test.YtamglanahpcedaaGreatDoorShelf2
namespace Go.Proofs.YtamglanahpcedaaGreatDoor
open Go.RowKit Go.Lib

/-- the folder's code is one -/
theorem isCode_in (w : World) (hE : EnvN w) : Calls Tryz.prog 101 #[.string ⟨#[105, 110]⟩] w fun e w' => e = .returned (.bool true) ∧ Below w.heap.size w w' := by
  have g : Calls Tryz.prog 112 #[.string ⟨#[105, 110]⟩] w fun e w' => e = .returned (.tuple #[.string ⟨#[105, 110]⟩, .int .i64 0]) ∧ Below w.heap.size w w' := by
    refine (decode_any ⟨#[105, 110]⟩ w hE).mono ?_
    rintro e w' ⟨⟨v, rfl, hv⟩, hb⟩
    have hd : Mb.decL [105, 110] = some [105, 110] := by decide +kernel
    rcases hv with ⟨n, h1, h2⟩ | ⟨h1, _⟩
    · have h1' : Mb.decL [105, 110] = some n := h1
      rw [hd] at h1'
      injection h1' with h1'
      subst h1'
      exact ⟨by rw [h2], hb⟩
    · have h1' : Mb.decL [105, 110] = none := h1
      rw [hd] at h1'
      cases h1'
  go_enter Tryz.func101, Tryz.ntmps101
  go_wp2_with (go_at_call 112; refine g.mono ?_; rintro e w1 ⟨rfl, hb⟩; have HB := Lib.hid hb; clear hb g)
  go_ret
  exact ⟨rfl, HB.out⟩
/-- a number's own text -/
theorem numRead_ok (n lo hi : Int) (h0 : 0 ≤ n) (h1 : n ≤ 999) (hlo : lo ≤ n) (hhi : n ≤ hi) (b : ByteArray) (hb : b.data.toList = Lib.itoa n) (w : World) (hE : Env w) :
    Calls Tryz.prog 104 #[.string b, .int .i64 lo, .int .i64 hi] w fun e w' => e = .returned (.tuple #[.int .i64 n, .bool true]) ∧ Below w.heap.size w w' := by
  have hlen := Mb.itoa_len 3 n (by decide) h0 (by omega)
  have gA := atoi_ok b (by rw [Lib.size_eq, hb]; omega) n (by rw [hb]; exact Mb.atoi_itoa n h0 (by omega)) w
  have gI : ∀ w1, Below w.heap.size w w1 → Calls Tryz.prog 18 #[.int .i64 n] w1 fun e w' => e = .returned (.string b) ∧ Below w1.heap.size w1 w' := fun w1 hb1 => by
    rw [bytes_is hb]; exact itoa_any n (by omega) (by omega) w1 (hE.below hb1 (Nat.le_refl _))
  have e1 : decide (n < lo) = false := by simp; omega
  have e2 : decide (n > hi) = false := by simp; omega
  clear hlen hb hlo hhi h0 h1
  go_enter Tryz.func104, Tryz.ntmps104
  go_wp2_with (first | (go_at_call 132; refine gA.mono ?_; rintro e w1 ⟨rfl, hb1⟩; have gI1 := gI w1 hb1; have HB1 := Lib.hid hb1; clear hb1 gI gA) | (go_at_call 18; refine gI1.mono ?_; rintro e w2 ⟨rfl, hb2⟩; have HB2 := Lib.hid hb2; clear hb2 gI1))
  go_ret2
  exact ⟨rfl, HB1.out.trans (HB2.out.mono HB1.out.size)⟩

/-- a message's name -/
def Mb.msgName (k : Nat) : List UInt8 := [105, 110, 47] ++ Lib.itoa (k : Int) ++ [46]
theorem below_drewN (w : World) (n : Nat) : Below w.heap.size w (w.drewN n) := ⟨rfl, rfl, rfl, Nat.le_refl _, fun _ _ => rfl⟩
theorem Mb.names8 : ∀ k : Fin 9, Lib.hasSuffix (Mb.msgName k.val) [46, 116, 109, 112] = false ∧ Lib.hasSuffix (Mb.msgName k.val) [47, 108, 105, 115, 116] = false ∧ Lib.cut (Mb.msgName k.val) [47] = ([105, 110], Lib.itoa (k.val : Int) ++ [46], true) ∧ Lib.cut (Lib.itoa (k.val : Int) ++ [46]) [46] = (Lib.itoa (k.val : Int), [], true) ∧ (Mb.msgName k.val).length ≤ 10 := by decide +kernel

set_option maxRecDepth 100000 in
set_option maxHeartbeats 2000000 in
theorem readMessage_ok (k : Nat) (h1 : 1 ≤ k) (h8 : k ≤ 8) (b : ByteArray) (hb : b.data.toList = Mb.msgName k) (w : World) (hE : EnvN w) :
    Calls Tryz.prog 102 #[.string b] w fun e w' => e = .returned (.tuple #[.agg #[.int .i64 3, .string ⟨#[105, 110]⟩, .int .i64 (k : Int), .string ⟨#[]⟩, .int .i64 0], .bool true]) ∧ Below w.heap.size w w' := by
  obtain ⟨_, _, hc1, hc2, hl⟩ := Mb.names8 ⟨k, by omega⟩
  obtain ⟨m, hm⟩ := hE.env.max
  have hl' : (Mb.msgName k).length ≤ 10 := hl
  have hbs : b.size < 4294967281 := by rw [Lib.size_eq, hb]; omega
  obtain ⟨bR, HbR, HbR'⟩ := named_bytes (Lib.itoa (k : Int) ++ [46])
  obtain ⟨bK, HbK, HbK'⟩ := named_bytes (Lib.itoa (k : Int))
  have hb1 : Below w.heap.size w (w.alloc (.cells #[.int .i64 0, .string ⟨#[]⟩, .int .i64 0, .string ⟨#[]⟩, .int .i64 0] 148)) := (Below.refl _ _).alloc (Nat.le_refl _) _
  have hR1 : (w.alloc (.cells #[.int .i64 0, .string ⟨#[]⟩, .int .i64 0, .string ⟨#[]⟩, .int .i64 0] 148)).heap[w.heap.size]? = some (.cells #[.int .i64 0, .string ⟨#[]⟩, .int .i64 0, .string ⟨#[]⟩, .int .i64 0] 148 (0, 0)) := heap_alloc_new w _
  have hsz1 : w.heap.size < (w.alloc (.cells #[.int .i64 0, .string ⟨#[]⟩, .int .i64 0, .string ⟨#[]⟩, .int .i64 0] 148)).heap.size := by simp
  have g1 : ∀ w1, Below w.heap.size w w1 → Calls Tryz.prog 129 #[.string b, .string ⟨#[47]⟩] w1 fun e w' => e = .returned (.tuple #[.string ⟨#[105, 110]⟩, .string bR, .bool true]) ∧ Below w1.heap.size w1 w' := fun w1 hw1 => by
    have := Tryz.strings_Cut b ⟨#[47]⟩ m w1 hbs ((hw1.cell (Lib.lt_of_cell hm)).trans hm)
    refine this.mono ?_
    rintro e w' ⟨rfl, n, rfl⟩
    refine ⟨?_, below_drewN _ _⟩
    have e1 : (⟨#[47]⟩ : ByteArray).data.toList = [47] := rfl
    rw [hb, e1, hc1, HbR.out]
  have hbs2 : bR.size < 4294967281 := by rw [Lib.size_eq, HbR'.out]; have := Mb.itoa_len 3 (k : Int) (by decide) (by omega) (by omega); simp; omega
  have g2 : ∀ w1, Below w.heap.size w w1 → Calls Tryz.prog 129 #[.string bR, .string ⟨#[46]⟩] w1 fun e w' => e = .returned (.tuple #[.string bK, .string ⟨#[]⟩, .bool true]) ∧ Below w1.heap.size w1 w' := fun w1 hw1 => by
    have := Tryz.strings_Cut bR ⟨#[46]⟩ m w1 hbs2 ((hw1.cell (Lib.lt_of_cell hm)).trans hm)
    refine this.mono ?_
    rintro e w' ⟨rfl, n, rfl⟩
    refine ⟨?_, below_drewN _ _⟩
    have e1 : (⟨#[46]⟩ : ByteArray).data.toList = [46] := rfl
    rw [HbR'.out, e1, hc2, HbK.out]
  have g3 : ∀ w1, Below w.heap.size w w1 → Calls Tryz.prog 104 #[.string bK, .int .i64 1, .int .i64 999] w1 fun e w' => e = .returned (.tuple #[.int .i64 (k : Int), .bool true]) ∧ Below w1.heap.size w1 w' := fun w1 hw1 => numRead_ok (k : Int) 1 999 (by omega) (by omega) (by omega) (by omega) bK HbK'.out w1 (hE.env.below hw1 (Nat.le_refl _))
  have g4 : ∀ w1, Calls Tryz.prog 130 #[.string ⟨#[]⟩] w1 fun e w' => e = .returned (.bool true) ∧ w' = w1 := fun w1 => fright_any ⟨#[]⟩ w1 (by decide)
  have g5 : ∀ w1, Below w.heap.size w w1 → Calls Tryz.prog 101 #[.string ⟨#[105, 110]⟩] w1 fun e w' => e = .returned (.bool true) ∧ Below w1.heap.size w1 w' := fun w1 hw1 => isCode_in w1 (hE.below hw1 (Nat.le_refl _))
  have HR1 := Lib.hid hR1
  have G1 := Lib.hid (And.intro g2 (And.intro g3 (And.intro g4 g5)))
  have gg1 := g1 _ hb1
  have HB1 := Lib.hid hb1
  clear hc1 hc2 hl hl' hb g1 g2 g3 g4 g5 hb1 hR1 hm
  generalize (k : Int) = kk at *
  go_enter Tryz.func102, Tryz.ntmps102
  go_wp2_with fail
  refine gg1.mono ?_
  rintro e w2 ⟨rfl, hb2⟩
  have hB2 := HB1.out.trans (hb2.mono (Nat.le_of_lt hsz1))
  have hR2 := (hb2.block _ hsz1).trans HR1.out
  have hs2 : w.heap.size < w2.heap.size := Nat.lt_of_lt_of_le hsz1 hb2.size
  have gg2 := G1.out.1 w2 hB2
  clear gg1 hb2 hsz1 HB1 HR1
  go_wp2_with fail
  refine gg2.mono ?_
  rintro e w3 ⟨rfl, hb3⟩
  have hB3 := hB2.trans (hb3.mono (Nat.le_of_lt hs2))
  have hR3 := (hb3.block _ hs2).trans hR2
  have hs3 : w.heap.size < w3.heap.size := Nat.lt_of_lt_of_le hs2 hb3.size
  have gg3 := G1.out.2.1 w3 hB3
  clear gg2 hb3 hs2 hB2 hR2
  go_wp2_with fail
  refine gg3.mono ?_
  rintro e w4 ⟨rfl, hb4⟩
  have hB4 := hB3.trans (hb4.mono (Nat.le_of_lt hs3))
  have hR4 := (hb4.block _ hs3).trans hR3
  have hs4 : w.heap.size < w4.heap.size := Nat.lt_of_lt_of_le hs3 hb4.size
  have gg4 := G1.out.2.2.1 w4
  have gg5 := G1.out.2.2.2 w4 hB4
  clear gg3 hb4 hs3 hB3 hR3
  have HR4 := Lib.hid hR4
  have HB4 := Lib.hid hB4
  clear hR4 hB4
  go_wp2_with (go_at_call 130; refine gg4.mono ?_; rintro e w' ⟨rfl, hw'⟩; subst w'; clear gg4)
  refine gg5.mono ?_
  rintro e w5 ⟨rfl, hb5⟩
  have hB5 := HB4.out.trans (hb5.mono (Nat.le_of_lt hs4))
  have hR5 := (hb5.block _ hs4).trans HR4.out
  clear gg5 hb5 HB4 HR4 hs4
  have HB5 := Lib.hid hB5
  have HR5 := Lib.hid hR5
  have q0 : w5.cell? ⟨w.heap.size, 0, none⟩ = some (.int .i64 0) := by simp [World.cell?, hR5]
  have q1 : w5.cell? ⟨w.heap.size, 1, none⟩ = some (.string ⟨#[]⟩) := by simp [World.cell?, hR5]
  have q2 : w5.cell? ⟨w.heap.size, 2, none⟩ = some (.int .i64 0) := by simp [World.cell?, hR5]
  have q3 : w5.cell? ⟨w.heap.size, 3, none⟩ = some (.string ⟨#[]⟩) := by simp [World.cell?, hR5]
  have q4 : w5.cell? ⟨w.heap.size, 4, none⟩ = some (.int .i64 0) := by simp [World.cell?, hR5]
  have qf : ∀ o, w5.frozen? ⟨w.heap.size, o, none⟩ = false := fun o => by simp [World.frozen?, hR5]
  have qf0 := qf 0
  have qf1 := qf 1
  have qf2 := qf 2
  have qf3 := qf 3
  have qf4 := qf 4
  clear hB5 hR5
  go_wp2_with fail
  have h5 := set5_at HR5.out (.int .i64 3) (.string ⟨#[105, 110]⟩) (.int .i64 kk) (.string ⟨#[]⟩) (.int .i64 0)
  have hB6 : Below w.heap.size w (set5 w5 w.heap.size (.int .i64 3) (.string ⟨#[105, 110]⟩) (.int .i64 kk) (.string ⟨#[]⟩) (.int .i64 0)) := ((((HB5.out.setCell (Nat.le_refl _) _).setCell (Nat.le_refl _) _).setCell (Nat.le_refl _) _).setCell (Nat.le_refl _) _).setCell (Nat.le_refl _) _
  refine (?_ : bodyPost _ _ _ _ _ (set5 w5 w.heap.size (.int .i64 3) (.string ⟨#[105, 110]⟩) (.int .i64 kk) (.string ⟨#[]⟩) (.int .i64 0)))
  clear q0 q1 q2 q3 q4 qf qf0 qf1 qf2 qf3 qf4
  generalize set5 w5 w.heap.size (.int .i64 3) (.string ⟨#[105, 110]⟩) (.int .i64 kk) (.string ⟨#[]⟩) (.int .i64 0) = w6 at *
  have z0 : w6.cell? ⟨w.heap.size, 0, none⟩ = some (.int .i64 3) := by simp [World.cell?, h5]
  have z1 : w6.cell? ⟨w.heap.size, 1, none⟩ = some (.string ⟨#[105, 110]⟩) := by simp [World.cell?, h5]
  have z2 : w6.cell? ⟨w.heap.size, 2, none⟩ = some (.int .i64 kk) := by simp [World.cell?, h5]
  have z3 : w6.cell? ⟨w.heap.size, 3, none⟩ = some (.string ⟨#[]⟩) := by simp [World.cell?, h5]
  have z4 : w6.cell? ⟨w.heap.size, 4, none⟩ = some (.int .i64 0) := by simp [World.cell?, h5]
  refine bodyPost_ret (v := .tuple #[.agg #[.int .i64 3, .string ⟨#[105, 110]⟩, .int .i64 kk, .string ⟨#[]⟩, .int .i64 0], .bool true]) (by simp [results, Tryz.results102, go_sem, z0, z1, z2, z3, z4]) rfl ⟨rfl, hB6⟩
end Go.Proofs.YtamglanahpcedaaGreatDoor
namespace Go.Proofs.YtamglanahpcedaaGreatDoor
open Go.RowKit Go.Lib

abbrev senseZ : Obj := .cells #[.int .i64 0, .string ⟨#[]⟩, .int .i64 0, .string ⟨#[]⟩, .int .i64 0] 148
theorem suffix_list : Lib.hasSuffix [105, 110, 47, 108, 105, 115, 116] [46, 116, 109, 112] = false ∧ Lib.hasSuffix [105, 110, 47, 108, 105, 115, 116] [47, 108, 105, 115, 116] = true ∧ Lib.trimSuffix [105, 110, 47, 108, 105, 115, 116] [47, 108, 105, 115, 116] = [105, 110] := by decide +kernel

set_option maxRecDepth 100000 in
set_option maxHeartbeats 2000000 in
theorem read_list (w : World) (hE : EnvN w) :
    Calls Tryz.prog 63 #[.string ⟨#[105, 110, 47, 108, 105, 115, 116]⟩] w fun e w' => e = .returned (.agg #[.int .i64 2, .string ⟨#[105, 110]⟩, .int .i64 0, .string ⟨#[]⟩, .int .i64 0]) ∧ Below w.heap.size w w' := by
  have hb1 : Below w.heap.size w (w.alloc senseZ) := (Below.refl _ _).alloc (Nat.le_refl _) _
  have hR1 : (w.alloc senseZ).heap[w.heap.size]? = some (.cells #[.int .i64 0, .string ⟨#[]⟩, .int .i64 0, .string ⟨#[]⟩, .int .i64 0] 148 (0, 0)) := heap_alloc_new w _
  have g1 : ∀ w1, Calls Tryz.prog 99 #[.string ⟨#[105, 110, 47, 108, 105, 115, 116]⟩, .string ⟨#[46, 116, 109, 112]⟩] w1 fun e w' => e = .returned (.bool false) ∧ w' = w1 := fun w1 => by
    have := Tryz.strings_HasSuffix ⟨#[105, 110, 47, 108, 105, 115, 116]⟩ ⟨#[46, 116, 109, 112]⟩ w1 (by decide)
    exact this.mono fun e w' ⟨h1, h2⟩ => ⟨h1.trans (by rw [show Lib.hasSuffix (⟨#[105, 110, 47, 108, 105, 115, 116]⟩ : ByteArray).data.toList (⟨#[46, 116, 109, 112]⟩ : ByteArray).data.toList = false from suffix_list.1]), h2⟩
  have g2 : ∀ w1, Calls Tryz.prog 100 #[.string ⟨#[105, 110, 47, 108, 105, 115, 116]⟩, .string ⟨#[47, 108, 105, 115, 116]⟩] w1 fun e w' => e = .returned (.tuple #[.string ⟨#[105, 110]⟩, .bool true]) ∧ w' = w1 := fun w1 => by
    have := Tryz.strings_CutSuffix ⟨#[105, 110, 47, 108, 105, 115, 116]⟩ ⟨#[47, 108, 105, 115, 116]⟩ w1 (by decide)
    refine this.mono fun e w' ⟨h1, h2⟩ => ⟨h1.trans ?_, h2⟩
    rw [show Lib.hasSuffix (⟨#[105, 110, 47, 108, 105, 115, 116]⟩ : ByteArray).data.toList (⟨#[47, 108, 105, 115, 116]⟩ : ByteArray).data.toList = true from suffix_list.2.1, show Lib.trimSuffix (⟨#[105, 110, 47, 108, 105, 115, 116]⟩ : ByteArray).data.toList (⟨#[47, 108, 105, 115, 116]⟩ : ByteArray).data.toList = [105, 110] from suffix_list.2.2]
  have g3 := isCode_in (w.alloc senseZ) (hE.below hb1 (Nat.le_refl _))
  have HB1 := Lib.hid hb1
  have HR1 := Lib.hid hR1
  have hs1 : w.heap.size < (w.alloc senseZ).heap.size := by simp
  clear hb1 hR1
  go_enter Tryz.func63, Tryz.ntmps63
  go_wp2_with (first | (go_at_call 99; refine (g1 _).mono ?_; rintro e w' ⟨rfl, hw'⟩; subst w'; clear g1) | (go_at_call 100; refine (g2 _).mono ?_; rintro e w' ⟨rfl, hw'⟩; subst w'; clear g2))
  refine g3.mono ?_
  rintro e w5 ⟨rfl, hb5⟩
  have hB5 := HB1.out.trans (hb5.mono (Nat.le_of_lt hs1))
  have hR5 := (hb5.block _ hs1).trans HR1.out
  clear g3 hb5 HB1 HR1 hs1
  have HB5 := Lib.hid hB5
  have HR5 := Lib.hid hR5
  have q0 : w5.cell? ⟨w.heap.size, 0, none⟩ = some (.int .i64 0) := by simp [World.cell?, hR5]
  have q1 : w5.cell? ⟨w.heap.size, 1, none⟩ = some (.string ⟨#[]⟩) := by simp [World.cell?, hR5]
  have q2 : w5.cell? ⟨w.heap.size, 2, none⟩ = some (.int .i64 0) := by simp [World.cell?, hR5]
  have q3 : w5.cell? ⟨w.heap.size, 3, none⟩ = some (.string ⟨#[]⟩) := by simp [World.cell?, hR5]
  have q4 : w5.cell? ⟨w.heap.size, 4, none⟩ = some (.int .i64 0) := by simp [World.cell?, hR5]
  have qf : ∀ o, w5.frozen? ⟨w.heap.size, o, none⟩ = false := fun o => by simp [World.frozen?, hR5]
  have qf0 := qf 0
  have qf1 := qf 1
  have qf2 := qf 2
  have qf3 := qf 3
  have qf4 := qf 4
  clear hB5 hR5
  go_wp2_with fail
  have h5 := set5_at HR5.out (.int .i64 2) (.string ⟨#[105, 110]⟩) (.int .i64 0) (.string ⟨#[]⟩) (.int .i64 0)
  have hB6 : Below w.heap.size w (set5 w5 w.heap.size (.int .i64 2) (.string ⟨#[105, 110]⟩) (.int .i64 0) (.string ⟨#[]⟩) (.int .i64 0)) := ((((HB5.out.setCell (Nat.le_refl _) _).setCell (Nat.le_refl _) _).setCell (Nat.le_refl _) _).setCell (Nat.le_refl _) _).setCell (Nat.le_refl _) _
  refine (?_ : bodyPost _ _ _ _ _ (set5 w5 w.heap.size (.int .i64 2) (.string ⟨#[105, 110]⟩) (.int .i64 0) (.string ⟨#[]⟩) (.int .i64 0)))
  clear q0 q1 q2 q3 q4 qf qf0 qf1 qf2 qf3 qf4
  generalize set5 w5 w.heap.size (.int .i64 2) (.string ⟨#[105, 110]⟩) (.int .i64 0) (.string ⟨#[]⟩) (.int .i64 0) = w6 at *
  have z0 : w6.cell? ⟨w.heap.size, 0, none⟩ = some (.int .i64 2) := by simp [World.cell?, h5]
  have z1 : w6.cell? ⟨w.heap.size, 1, none⟩ = some (.string ⟨#[105, 110]⟩) := by simp [World.cell?, h5]
  have z2 : w6.cell? ⟨w.heap.size, 2, none⟩ = some (.int .i64 0) := by simp [World.cell?, h5]
  have z3 : w6.cell? ⟨w.heap.size, 3, none⟩ = some (.string ⟨#[]⟩) := by simp [World.cell?, h5]
  have z4 : w6.cell? ⟨w.heap.size, 4, none⟩ = some (.int .i64 0) := by simp [World.cell?, h5]
  refine bodyPost_ret (v := .agg #[.int .i64 2, .string ⟨#[105, 110]⟩, .int .i64 0, .string ⟨#[]⟩, .int .i64 0]) (by simp [results, Tryz.results63, go_sem, z0, z1, z2, z3, z4]) rfl ⟨rfl, hB6⟩

set_option maxRecDepth 100000 in
set_option maxHeartbeats 2000000 in
theorem read_msg (k : Nat) (h1 : 1 ≤ k) (h8 : k ≤ 8) (b : ByteArray) (hb : b.data.toList = Mb.msgName k) (w : World) (hE : EnvN w) :
    Calls Tryz.prog 63 #[.string b] w fun e w' => e = .returned (.agg #[.int .i64 3, .string ⟨#[105, 110]⟩, .int .i64 (k : Int), .string ⟨#[]⟩, .int .i64 0]) ∧ Below w.heap.size w w' := by
  obtain ⟨hc1, hc2, _, _, hl⟩ := Mb.names8 ⟨k, by omega⟩
  have hl' : (Mb.msgName k).length ≤ 10 := hl
  have hbs : b.size ≤ 9223372036854775807 := by rw [Lib.size_eq, hb]; omega
  have hb1 : Below w.heap.size w (w.alloc senseZ) := (Below.refl _ _).alloc (Nat.le_refl _) _
  have hR1 : (w.alloc senseZ).heap[w.heap.size]? = some (.cells #[.int .i64 0, .string ⟨#[]⟩, .int .i64 0, .string ⟨#[]⟩, .int .i64 0] 148 (0, 0)) := heap_alloc_new w _
  have g1 : ∀ w1, Calls Tryz.prog 99 #[.string b, .string ⟨#[46, 116, 109, 112]⟩] w1 fun e w' => e = .returned (.bool false) ∧ w' = w1 := fun w1 => by
    have := Tryz.strings_HasSuffix b ⟨#[46, 116, 109, 112]⟩ w1 hbs
    exact this.mono fun e w' ⟨h1, h2⟩ => ⟨h1.trans (by rw [hb, show Lib.hasSuffix (Mb.msgName k) (⟨#[46, 116, 109, 112]⟩ : ByteArray).data.toList = false from hc1]), h2⟩
  have g2 : ∀ w1, Calls Tryz.prog 100 #[.string b, .string ⟨#[47, 108, 105, 115, 116]⟩] w1 fun e w' => (∃ c : ByteArray, e = .returned (.tuple #[.string c, .bool false])) ∧ w' = w1 := fun w1 => by
    have := Tryz.strings_CutSuffix b ⟨#[47, 108, 105, 115, 116]⟩ w1 hbs
    refine this.mono ?_
    rintro e w' ⟨rfl, rfl⟩
    refine ⟨⟨⟨(Lib.trimSuffix b.data.toList (⟨#[47, 108, 105, 115, 116]⟩ : ByteArray).data.toList).toArray⟩, ?_⟩, rfl⟩
    rw [show Lib.hasSuffix b.data.toList (⟨#[47, 108, 105, 115, 116]⟩ : ByteArray).data.toList = false by rw [hb]; exact hc2]
  have g3 := readMessage_ok k h1 h8 b hb (w.alloc senseZ) (hE.below hb1 (Nat.le_refl _))
  have HB1 := Lib.hid hb1
  have HR1 := Lib.hid hR1
  have hs1 : w.heap.size < (w.alloc senseZ).heap.size := by simp
  clear hb1 hR1 hc1 hc2 hl hl' hb
  generalize (k : Int) = kk at *
  go_enter Tryz.func63, Tryz.ntmps63
  go_wp2_with (first | (go_at_call 99; refine (g1 _).mono ?_; rintro e w' ⟨rfl, hw'⟩; subst w'; clear g1) | (go_at_call 100; refine (g2 _).mono ?_; rintro e w' ⟨⟨c, rfl⟩, hw'⟩; subst w'; clear g2))
  refine g3.mono ?_
  rintro e w5 ⟨rfl, hb5⟩
  have hB5 := HB1.out.trans (hb5.mono (Nat.le_of_lt hs1))
  have hR5 := (hb5.block _ hs1).trans HR1.out
  have hs5 : w.heap.size < w5.heap.size := Nat.lt_of_lt_of_le hs1 hb5.size
  clear g3 hb5 HB1 HR1 hs1
  have HB5 := Lib.hid hB5
  have HR5 := Lib.hid hR5
  have q0 : w5.cell? ⟨w.heap.size, 0, none⟩ = some (.int .i64 0) := by simp [World.cell?, hR5]
  have q1 : w5.cell? ⟨w.heap.size, 1, none⟩ = some (.string ⟨#[]⟩) := by simp [World.cell?, hR5]
  have q2 : w5.cell? ⟨w.heap.size, 2, none⟩ = some (.int .i64 0) := by simp [World.cell?, hR5]
  have q3 : w5.cell? ⟨w.heap.size, 3, none⟩ = some (.string ⟨#[]⟩) := by simp [World.cell?, hR5]
  have q4 : w5.cell? ⟨w.heap.size, 4, none⟩ = some (.int .i64 0) := by simp [World.cell?, hR5]
  have qf : ∀ o, w5.frozen? ⟨w.heap.size, o, none⟩ = false := fun o => by simp [World.frozen?, hR5]
  have qf0 := qf 0
  have qf1 := qf 1
  have qf2 := qf 2
  have qf3 := qf 3
  have qf4 := qf 4
  clear hB5 hR5
  go_wp2_with fail
  have h5' := set5_at HR5.out (.int .i64 3) (.string ⟨#[105, 110]⟩) (.int .i64 kk) (.string ⟨#[]⟩) (.int .i64 0)
  have hsx : w.heap.size < (set5 w5 w.heap.size (.int .i64 3) (.string ⟨#[105, 110]⟩) (.int .i64 kk) (.string ⟨#[]⟩) (.int .i64 0)).heap.size := by simpa using hs5
  have h5 : ((set5 w5 w.heap.size (.int .i64 3) (.string ⟨#[105, 110]⟩) (.int .i64 kk) (.string ⟨#[]⟩) (.int .i64 0)).alloc (.cells #[.int .i64 3, .string ⟨#[105, 110]⟩, .int .i64 kk, .string ⟨#[]⟩, .int .i64 0] 148)).heap[w.heap.size]? = some (.cells #[.int .i64 3, .string ⟨#[105, 110]⟩, .int .i64 kk, .string ⟨#[]⟩, .int .i64 0] 148 (0, 0)) := (Go.heap_alloc_old _ _ hsx).trans h5'
  have hB6 : Below w.heap.size w ((set5 w5 w.heap.size (.int .i64 3) (.string ⟨#[105, 110]⟩) (.int .i64 kk) (.string ⟨#[]⟩) (.int .i64 0)).alloc (.cells #[.int .i64 3, .string ⟨#[105, 110]⟩, .int .i64 kk, .string ⟨#[]⟩, .int .i64 0] 148)) := (((((HB5.out.setCell (Nat.le_refl _) _).setCell (Nat.le_refl _) _).setCell (Nat.le_refl _) _).setCell (Nat.le_refl _) _).setCell (Nat.le_refl _) _).alloc (Nat.le_of_lt hsx) _
  refine (?_ : bodyPost _ _ _ _ _ ((set5 w5 w.heap.size (.int .i64 3) (.string ⟨#[105, 110]⟩) (.int .i64 kk) (.string ⟨#[]⟩) (.int .i64 0)).alloc (.cells #[.int .i64 3, .string ⟨#[105, 110]⟩, .int .i64 kk, .string ⟨#[]⟩, .int .i64 0] 148)))
  clear q0 q1 q2 q3 q4 qf qf0 qf1 qf2 qf3 qf4 h5' hsx
  generalize ((set5 w5 w.heap.size (.int .i64 3) (.string ⟨#[105, 110]⟩) (.int .i64 kk) (.string ⟨#[]⟩) (.int .i64 0)).alloc (.cells #[.int .i64 3, .string ⟨#[105, 110]⟩, .int .i64 kk, .string ⟨#[]⟩, .int .i64 0] 148)) = w6 at *
  have z0 : w6.cell? ⟨w.heap.size, 0, none⟩ = some (.int .i64 3) := by simp [World.cell?, h5]
  have z1 : w6.cell? ⟨w.heap.size, 1, none⟩ = some (.string ⟨#[105, 110]⟩) := by simp [World.cell?, h5]
  have z2 : w6.cell? ⟨w.heap.size, 2, none⟩ = some (.int .i64 kk) := by simp [World.cell?, h5]
  have z3 : w6.cell? ⟨w.heap.size, 3, none⟩ = some (.string ⟨#[]⟩) := by simp [World.cell?, h5]
  have z4 : w6.cell? ⟨w.heap.size, 4, none⟩ = some (.int .i64 0) := by simp [World.cell?, h5]
  refine bodyPost_ret (v := .agg #[.int .i64 3, .string ⟨#[105, 110]⟩, .int .i64 kk, .string ⟨#[]⟩, .int .i64 0]) (by simp [results, Tryz.results63, go_sem, z0, z1, z2, z3, z4]) rfl ⟨rfl, hB6⟩
end Go.Proofs.YtamglanahpcedaaGreatDoor
