/-
  OWN TEXT: mailbagkeep.Named.
-/
import Derived.Test.YtldgiecjnmkajaaDoorNameWalkI
namespace Go.Proofs.YtldgiecjnmkajaaDoor
open Go.RowKit Go.Lib

theorem same_bytes (a : ByteArray) : (⟨a.data.toList.toArray⟩ : ByteArray) = a := by cases a; simp

theorem eqs_of {a b sa sb : ByteArray} (ha : Mb.nameOk a.data.toList = true) (hb : Mb.nameOk b.data.toList = true) (hsa : sa.data.toList = Mb.encL a.data.toList) (hsb : sb.data.toList = Mb.encL b.data.toList) :
    (sa.toList == sb.toList) = (a.toList == b.toList) := by
  rw [ByteArray.toList_eq, ByteArray.toList_eq, ByteArray.toList_eq, ByteArray.toList_eq, hsa, hsb, Bool.eq_iff_iff]
  simp only [beq_iff_eq]
  exact ⟨fun h => Mb.enc_inj ha hb h, fun h => by rw [h]⟩

theorem mEncode_ok (s : ByteArray) (w : World) (hn : Mb.nameOk s.data.toList = true) (hE : EnvN w) :
    ∃ c : ByteArray, c.data.toList = Mb.encL s.data.toList ∧ Calls Tryd.prog 6 #[.string s] w fun e w' => e = .returned (.tuple #[.string c, .int .i64 0]) ∧ Below w.heap.size w w' :=
  ⟨⟨(Mb.encL s.data.toList).toArray⟩, rfl, mEncode_name s w hn hE⟩

theorem mDecode_ok (s : ByteArray) (w : World) (hE : EnvN w) (n : ByteArray) (hn : Mb.decL s.data.toList = some n.data.toList) :
    Calls Tryd.prog 8 #[.string s] w fun e w' => e = .returned (.tuple #[.string n, .int .i64 0]) ∧ Below w.heap.size w w' :=
  (mDecode_any s w hE).mono fun e w' ⟨⟨v, he, hv⟩, hb⟩ => ⟨by
    rcases hv with ⟨m, hm, rfl⟩ | ⟨hm, rfl⟩
    · rw [hn] at hm
      have := Option.some.inj hm
      subst this
      rw [he, same_bytes]
    · rw [hn] at hm
      exact absurd hm (by simp), hb⟩
theorem mDecode_none (s : ByteArray) (w : World) (hE : EnvN w) (hn : Mb.decL s.data.toList = none) :
    Calls Tryd.prog 8 #[.string s] w fun e w' => e = .returned (.tuple #[.string ⟨#[]⟩, .int .i64 2]) ∧ Below w.heap.size w w' :=
  (mDecode_any s w hE).mono fun e w' ⟨⟨v, he, hv⟩, hb⟩ => ⟨by
    rcases hv with ⟨m, hm, rfl⟩ | ⟨hm, rfl⟩
    · rw [hn] at hm
      exact absurd hm (by simp)
    · exact he, hb⟩

theorem badS (k : Nat) : (⟨(badL k).toArray⟩ : ByteArray).data.toList = badL k := rfl
theorem badL_len (k : Nat) : (badL k).length ≤ 3 := by
  unfold badL
  split <;> simp

set_option maxHeartbeats 16000000 in
set_option maxRecDepth 1000000 in
theorem named_any (a b : ByteArray) (ha : a.size ≤ 140737488351232) (hb : b.size ≤ 140737488351232) (w : World) (hE : EnvN w) :
    Calls Tryd.prog 3 #[.string a, .string b] w fun e w' => e = .returned (.bool true) ∧ Below w.heap.size w w' := by
  have HZ : Hid (a.data.toList.length ≤ 140737488351232 ∧ b.data.toList.length ≤ 140737488351232) := by
    unfold Hid
    rw [← Lib.size_eq, ← Lib.size_eq]; exact ⟨ha, hb⟩
  have hP : ∀ W, Calls Tryd.prog 9 #[.string a] W fun e w' => e = .returned (.bool (plainL a.data.toList)) ∧ w' = W := fun W => plainName_any a W (by omega)
  go_enter Tryd.func3, Tryd.ntmps3
  go_wp2_with fail
  go_at_call 5
  refine (knows_any _ hE).mono (fun e w1 hpost => ?_)
  obtain ⟨rfl, hb1⟩ := hpost
  have hE1 := hE.below hb1 (Nat.le_refl _)
  go_wp2_with fail
  go_at_call 6
  by_cases hna : Mb.nameOk a.data.toList = true
  · obtain ⟨sa, hsa, hEa⟩ := mEncode_ok a w1 hna hE1
    refine hEa.mono (fun e w2 hpost => ?_)
    obtain ⟨rfl, hb2⟩ := hpost
    have hE2 := hE1.below hb2 (Nat.le_refl _)
    have hbw := hb1.trans (hb2.mono hb1.size)
    have hC := coded_any sa w2 (by have := Mb.enc_len _ hna; rw [Lib.size_eq, hsa]; omega)
    rw [hsa, coded_enc _ hna] at hC
    have hD := mDecode_ok sa w2 hE2 a (by rw [hsa]; exact Mb.dec_enc _ hna)
    go_wp2_with (go_at_call 7; refine hC.mono ?_; rintro e w' ⟨rfl, hw'⟩; subst w')
    go_at_call 8
    refine hD.mono (fun e w3 hpost => ?_)
    obtain ⟨rfl, hb3⟩ := hpost
    have hE3 := hE2.below hb3 (Nat.le_refl _)
    replace hbw := hbw.trans (hb3.mono hbw.size)
    clear hC hD hEa hE1 hE2 hb1 hb2 hb3
    cases hpl : plainL a.data.toList with
    | true =>
      rw [hpl] at hP
      have hsaa : sa = a := bytes_ext (by rw [hsa, (plain_name _ hpl).2])
      subst sa
      clear hpl
      go_wp2_with (go_at_call 9; refine (hP _).mono ?_; rintro e w' ⟨rfl, hw'⟩; subst w')
      go_at_call 6
      by_cases hnb : Mb.nameOk b.data.toList = true
      · obtain ⟨sb, hsb, hEb⟩ := mEncode_ok b w3 hnb hE3
        have hq := eqs_of hna hnb hsa hsb
        refine hEb.mono (fun e w4 hpost => ?_)
        obtain ⟨rfl, hb4⟩ := hpost
        have hE4 := hE3.below hb4 (Nat.le_refl _)
        have hbw4 := hbw.trans (hb4.mono hbw.size)
        clear hEb hsb
        go_wp2_with fail
        go_at_call 8
        cases hdb : Mb.decL b.data.toList with
        | none =>
          have hDb := mDecode_none b w4 hE4 hdb
          clear hdb
          refine hDb.mono (fun e w6 hpost => ?_)
          obtain ⟨rfl, hb6⟩ := hpost
          have hbw6 := hbw4.trans (hb6.mono hbw4.size)
          clear hDb
          have hrow : ∀ j, j < 6 → (w6.alloc (Obj.cells #[.string ⟨#[32]⟩, .string ⟨#[10]⟩, .string ⟨#[255]⟩, .string ⟨#[237, 160, 128]⟩, .string ⟨#[127]⟩, .string ⟨#[239, 191, 189]⟩] 9)).cell? ⟨w6.heap.size, j, none⟩ = some (.string ⟨(badL j).toArray⟩) := fun j hj => by
            rw [World.cell?_alloc_new]
            have : j = 0 ∨ j = 1 ∨ j = 2 ∨ j = 3 ∨ j = 4 ∨ j = 5 := by omega
            rcases this with rfl | rfl | rfl | rfl | rfl | rfl <;> rfl
          have hbr : Below w.heap.size w (w6.alloc (Obj.cells #[.string ⟨#[32]⟩, .string ⟨#[10]⟩, .string ⟨#[255]⟩, .string ⟨#[237, 160, 128]⟩, .string ⟨#[127]⟩, .string ⟨#[239, 191, 189]⟩] 9)) := hbw6.alloc hbw6.size _
          have hkr : w6.heap.size < (w6.alloc (Obj.cells #[.string ⟨#[32]⟩, .string ⟨#[10]⟩, .string ⟨#[255]⟩, .string ⟨#[237, 160, 128]⟩, .string ⟨#[127]⟩, .string ⟨#[239, 191, 189]⟩] 9)).heap.size := by simp
          go_wp2_with fail
          generalize w6.alloc (Obj.cells #[.string ⟨#[32]⟩, .string ⟨#[10]⟩, .string ⟨#[255]⟩, .string ⟨#[237, 160, 128]⟩, .string ⟨#[127]⟩, .string ⟨#[239, 191, 189]⟩] 9) = W0 at hrow hbr hkr ⊢
          go_loopw [17] (fun i wr => ∃ k : Nat, i = .int .i64 k ∧ k ≤ 6 ∧ Below w.heap.size w wr ∧ w6.heap.size < wr.heap.size ∧ ∀ j, j < 6 → wr.cell? ⟨w6.heap.size, j, none⟩ = some (.string ⟨(badL j).toArray⟩)) (fun i _ => 6 - (RowKit.intOf i).toNat)
          case atStart => exact ⟨0, rfl, by omega, hbr, hkr, hrow⟩
          case round =>
            clear hrow hbr hkr
            obtain ⟨k, rfl, hk, hbx, hkx, hc⟩ := hrel
            by_cases hk6 : k < 6
            · have hck := hc k hk6
              have HC := Lib.hid hc
              clear hc
              obtain ⟨bs, hbs⟩ : ∃ bs : ByteArray, bs = ⟨(badL k).toArray⟩ := ⟨_, rfl⟩
              have hbd : bs.data.toList = badL k := by rw [hbs]
              rw [← hbs] at hck
              have hbl := badL_len k
              obtain ⟨c1, hc1, hr1⟩ := cat_run Tryd.prog a bs (by rw [hbd]; have := HZ.out; omega)
              obtain ⟨c2, hc2, hr2⟩ := cat_run Tryd.prog c1 b (by rw [hc1.out, hbd, List.length_append]; have := HZ.out; omega)
              have hX := mEncode_bad c2 wr (by rw [hc2.out, hc1.out, hbd]; exact bad_in k _ _)
              clear hbs hbd hc1 hc2 hbl
              go_wp2_with fail
              go_at_call 6
              refine hX.mono (fun e w7 hpost => ?_)
              obtain ⟨rfl, hb7⟩ := hpost
              clear hX
              go_wp2
              go_roundw
              case rel => exact ⟨k + 1, by go_num, by omega, hbx.trans (hb7.mono hbx.size), Nat.lt_of_lt_of_le hkx hb7.size, fun j hj => (hb7.cell (p := ⟨w6.heap.size, j, none⟩) hkx).trans (HC.out j hj)⟩
              case measure => simp [RowKit.intOf]; omega
            · have hkk : k = 6 := by omega
              subst hkk
              clear hc
              go_wp2
              go_ret
              exact ⟨rfl, hbx⟩
        | some m =>
          obtain ⟨hm1, hm2⟩ := Mb.dec_some hdb
          obtain ⟨nb, hnbd⟩ : ∃ nb : ByteArray, nb.data.toList = m := ⟨⟨m.toArray⟩, rfl⟩
          subst hnbd
          have hDb := mDecode_ok b w4 hE4 nb hdb
          clear hdb
          refine hDb.mono (fun e w5 hpost => ?_)
          obtain ⟨rfl, hb5⟩ := hpost
          have hE5 := hE4.below hb5 (Nat.le_refl _)
          have hbw5 := hbw4.trans (hb5.mono hbw4.size)
          obtain ⟨sn, hsn, hEn⟩ := mEncode_ok nb w5 hm1 hE5
          have hsnb : sn = b := bytes_ext (by rw [hsn, hm2])
          subst sn
          clear hDb hsn hm1 hm2
          go_wp2_with fail
          go_at_call 6
          refine hEn.mono (fun e w6 hpost => ?_)
          obtain ⟨rfl, hb6⟩ := hpost
          have hbw6 := hbw5.trans (hb6.mono hbw5.size)
          clear hEn
          have hrow : ∀ j, j < 6 → (w6.alloc (Obj.cells #[.string ⟨#[32]⟩, .string ⟨#[10]⟩, .string ⟨#[255]⟩, .string ⟨#[237, 160, 128]⟩, .string ⟨#[127]⟩, .string ⟨#[239, 191, 189]⟩] 9)).cell? ⟨w6.heap.size, j, none⟩ = some (.string ⟨(badL j).toArray⟩) := fun j hj => by
            rw [World.cell?_alloc_new]
            have : j = 0 ∨ j = 1 ∨ j = 2 ∨ j = 3 ∨ j = 4 ∨ j = 5 := by omega
            rcases this with rfl | rfl | rfl | rfl | rfl | rfl <;> rfl
          have hbr : Below w.heap.size w (w6.alloc (Obj.cells #[.string ⟨#[32]⟩, .string ⟨#[10]⟩, .string ⟨#[255]⟩, .string ⟨#[237, 160, 128]⟩, .string ⟨#[127]⟩, .string ⟨#[239, 191, 189]⟩] 9)) := hbw6.alloc hbw6.size _
          have hkr : w6.heap.size < (w6.alloc (Obj.cells #[.string ⟨#[32]⟩, .string ⟨#[10]⟩, .string ⟨#[255]⟩, .string ⟨#[237, 160, 128]⟩, .string ⟨#[127]⟩, .string ⟨#[239, 191, 189]⟩] 9)).heap.size := by simp
          go_wp2_with fail
          generalize w6.alloc (Obj.cells #[.string ⟨#[32]⟩, .string ⟨#[10]⟩, .string ⟨#[255]⟩, .string ⟨#[237, 160, 128]⟩, .string ⟨#[127]⟩, .string ⟨#[239, 191, 189]⟩] 9) = W0 at hrow hbr hkr ⊢
          go_loopw [17] (fun i wr => ∃ k : Nat, i = .int .i64 k ∧ k ≤ 6 ∧ Below w.heap.size w wr ∧ w6.heap.size < wr.heap.size ∧ ∀ j, j < 6 → wr.cell? ⟨w6.heap.size, j, none⟩ = some (.string ⟨(badL j).toArray⟩)) (fun i _ => 6 - (RowKit.intOf i).toNat)
          case atStart => exact ⟨0, rfl, by omega, hbr, hkr, hrow⟩
          case round =>
            clear hrow hbr hkr
            obtain ⟨k, rfl, hk, hbx, hkx, hc⟩ := hrel
            by_cases hk6 : k < 6
            · have hck := hc k hk6
              have HC := Lib.hid hc
              clear hc
              obtain ⟨bs, hbs⟩ : ∃ bs : ByteArray, bs = ⟨(badL k).toArray⟩ := ⟨_, rfl⟩
              have hbd : bs.data.toList = badL k := by rw [hbs]
              rw [← hbs] at hck
              have hbl := badL_len k
              obtain ⟨c1, hc1, hr1⟩ := cat_run Tryd.prog a bs (by rw [hbd]; have := HZ.out; omega)
              obtain ⟨c2, hc2, hr2⟩ := cat_run Tryd.prog c1 b (by rw [hc1.out, hbd, List.length_append]; have := HZ.out; omega)
              have hX := mEncode_bad c2 wr (by rw [hc2.out, hc1.out, hbd]; exact bad_in k _ _)
              clear hbs hbd hc1 hc2 hbl
              go_wp2_with fail
              go_at_call 6
              refine hX.mono (fun e w7 hpost => ?_)
              obtain ⟨rfl, hb7⟩ := hpost
              clear hX
              go_wp2
              go_roundw
              case rel => exact ⟨k + 1, by go_num, by omega, hbx.trans (hb7.mono hbx.size), Nat.lt_of_lt_of_le hkx hb7.size, fun j hj => (hb7.cell (p := ⟨w6.heap.size, j, none⟩) hkx).trans (HC.out j hj)⟩
              case measure => simp [RowKit.intOf]; omega
            · have hkk : k = 6 := by omega
              subst hkk
              clear hc
              go_wp2
              go_ret
              exact ⟨rfl, hbx⟩
      · have hEb := mEncode_bad b w3 (by simpa using hnb)
        refine hEb.mono (fun e w4 hpost => ?_)
        obtain ⟨rfl, hb4⟩ := hpost
        have hE4 := hE3.below hb4 (Nat.le_refl _)
        have hbw4 := hbw.trans (hb4.mono hbw.size)
        clear hEb
        go_wp2_with fail
        go_at_call 8
        cases hdb : Mb.decL b.data.toList with
        | none =>
          have hDb := mDecode_none b w4 hE4 hdb
          clear hdb
          refine hDb.mono (fun e w6 hpost => ?_)
          obtain ⟨rfl, hb6⟩ := hpost
          have hbw6 := hbw4.trans (hb6.mono hbw4.size)
          clear hDb
          have hrow : ∀ j, j < 6 → (w6.alloc (Obj.cells #[.string ⟨#[32]⟩, .string ⟨#[10]⟩, .string ⟨#[255]⟩, .string ⟨#[237, 160, 128]⟩, .string ⟨#[127]⟩, .string ⟨#[239, 191, 189]⟩] 9)).cell? ⟨w6.heap.size, j, none⟩ = some (.string ⟨(badL j).toArray⟩) := fun j hj => by
            rw [World.cell?_alloc_new]
            have : j = 0 ∨ j = 1 ∨ j = 2 ∨ j = 3 ∨ j = 4 ∨ j = 5 := by omega
            rcases this with rfl | rfl | rfl | rfl | rfl | rfl <;> rfl
          have hbr : Below w.heap.size w (w6.alloc (Obj.cells #[.string ⟨#[32]⟩, .string ⟨#[10]⟩, .string ⟨#[255]⟩, .string ⟨#[237, 160, 128]⟩, .string ⟨#[127]⟩, .string ⟨#[239, 191, 189]⟩] 9)) := hbw6.alloc hbw6.size _
          have hkr : w6.heap.size < (w6.alloc (Obj.cells #[.string ⟨#[32]⟩, .string ⟨#[10]⟩, .string ⟨#[255]⟩, .string ⟨#[237, 160, 128]⟩, .string ⟨#[127]⟩, .string ⟨#[239, 191, 189]⟩] 9)).heap.size := by simp
          go_wp2_with fail
          generalize w6.alloc (Obj.cells #[.string ⟨#[32]⟩, .string ⟨#[10]⟩, .string ⟨#[255]⟩, .string ⟨#[237, 160, 128]⟩, .string ⟨#[127]⟩, .string ⟨#[239, 191, 189]⟩] 9) = W0 at hrow hbr hkr ⊢
          go_loopw [17] (fun i wr => ∃ k : Nat, i = .int .i64 k ∧ k ≤ 6 ∧ Below w.heap.size w wr ∧ w6.heap.size < wr.heap.size ∧ ∀ j, j < 6 → wr.cell? ⟨w6.heap.size, j, none⟩ = some (.string ⟨(badL j).toArray⟩)) (fun i _ => 6 - (RowKit.intOf i).toNat)
          case atStart => exact ⟨0, rfl, by omega, hbr, hkr, hrow⟩
          case round =>
            clear hrow hbr hkr
            obtain ⟨k, rfl, hk, hbx, hkx, hc⟩ := hrel
            by_cases hk6 : k < 6
            · have hck := hc k hk6
              have HC := Lib.hid hc
              clear hc
              obtain ⟨bs, hbs⟩ : ∃ bs : ByteArray, bs = ⟨(badL k).toArray⟩ := ⟨_, rfl⟩
              have hbd : bs.data.toList = badL k := by rw [hbs]
              rw [← hbs] at hck
              have hbl := badL_len k
              obtain ⟨c1, hc1, hr1⟩ := cat_run Tryd.prog a bs (by rw [hbd]; have := HZ.out; omega)
              obtain ⟨c2, hc2, hr2⟩ := cat_run Tryd.prog c1 b (by rw [hc1.out, hbd, List.length_append]; have := HZ.out; omega)
              have hX := mEncode_bad c2 wr (by rw [hc2.out, hc1.out, hbd]; exact bad_in k _ _)
              clear hbs hbd hc1 hc2 hbl
              go_wp2_with fail
              go_at_call 6
              refine hX.mono (fun e w7 hpost => ?_)
              obtain ⟨rfl, hb7⟩ := hpost
              clear hX
              go_wp2
              go_roundw
              case rel => exact ⟨k + 1, by go_num, by omega, hbx.trans (hb7.mono hbx.size), Nat.lt_of_lt_of_le hkx hb7.size, fun j hj => (hb7.cell (p := ⟨w6.heap.size, j, none⟩) hkx).trans (HC.out j hj)⟩
              case measure => simp [RowKit.intOf]; omega
            · have hkk : k = 6 := by omega
              subst hkk
              clear hc
              go_wp2
              go_ret
              exact ⟨rfl, hbx⟩
        | some m =>
          obtain ⟨hm1, hm2⟩ := Mb.dec_some hdb
          obtain ⟨nb, hnbd⟩ : ∃ nb : ByteArray, nb.data.toList = m := ⟨⟨m.toArray⟩, rfl⟩
          subst hnbd
          have hDb := mDecode_ok b w4 hE4 nb hdb
          clear hdb
          refine hDb.mono (fun e w5 hpost => ?_)
          obtain ⟨rfl, hb5⟩ := hpost
          have hE5 := hE4.below hb5 (Nat.le_refl _)
          have hbw5 := hbw4.trans (hb5.mono hbw4.size)
          obtain ⟨sn, hsn, hEn⟩ := mEncode_ok nb w5 hm1 hE5
          have hsnb : sn = b := bytes_ext (by rw [hsn, hm2])
          subst sn
          clear hDb hsn hm1 hm2
          go_wp2_with fail
          go_at_call 6
          refine hEn.mono (fun e w6 hpost => ?_)
          obtain ⟨rfl, hb6⟩ := hpost
          have hbw6 := hbw5.trans (hb6.mono hbw5.size)
          clear hEn
          have hrow : ∀ j, j < 6 → (w6.alloc (Obj.cells #[.string ⟨#[32]⟩, .string ⟨#[10]⟩, .string ⟨#[255]⟩, .string ⟨#[237, 160, 128]⟩, .string ⟨#[127]⟩, .string ⟨#[239, 191, 189]⟩] 9)).cell? ⟨w6.heap.size, j, none⟩ = some (.string ⟨(badL j).toArray⟩) := fun j hj => by
            rw [World.cell?_alloc_new]
            have : j = 0 ∨ j = 1 ∨ j = 2 ∨ j = 3 ∨ j = 4 ∨ j = 5 := by omega
            rcases this with rfl | rfl | rfl | rfl | rfl | rfl <;> rfl
          have hbr : Below w.heap.size w (w6.alloc (Obj.cells #[.string ⟨#[32]⟩, .string ⟨#[10]⟩, .string ⟨#[255]⟩, .string ⟨#[237, 160, 128]⟩, .string ⟨#[127]⟩, .string ⟨#[239, 191, 189]⟩] 9)) := hbw6.alloc hbw6.size _
          have hkr : w6.heap.size < (w6.alloc (Obj.cells #[.string ⟨#[32]⟩, .string ⟨#[10]⟩, .string ⟨#[255]⟩, .string ⟨#[237, 160, 128]⟩, .string ⟨#[127]⟩, .string ⟨#[239, 191, 189]⟩] 9)).heap.size := by simp
          go_wp2_with fail
          generalize w6.alloc (Obj.cells #[.string ⟨#[32]⟩, .string ⟨#[10]⟩, .string ⟨#[255]⟩, .string ⟨#[237, 160, 128]⟩, .string ⟨#[127]⟩, .string ⟨#[239, 191, 189]⟩] 9) = W0 at hrow hbr hkr ⊢
          go_loopw [17] (fun i wr => ∃ k : Nat, i = .int .i64 k ∧ k ≤ 6 ∧ Below w.heap.size w wr ∧ w6.heap.size < wr.heap.size ∧ ∀ j, j < 6 → wr.cell? ⟨w6.heap.size, j, none⟩ = some (.string ⟨(badL j).toArray⟩)) (fun i _ => 6 - (RowKit.intOf i).toNat)
          case atStart => exact ⟨0, rfl, by omega, hbr, hkr, hrow⟩
          case round =>
            clear hrow hbr hkr
            obtain ⟨k, rfl, hk, hbx, hkx, hc⟩ := hrel
            by_cases hk6 : k < 6
            · have hck := hc k hk6
              have HC := Lib.hid hc
              clear hc
              obtain ⟨bs, hbs⟩ : ∃ bs : ByteArray, bs = ⟨(badL k).toArray⟩ := ⟨_, rfl⟩
              have hbd : bs.data.toList = badL k := by rw [hbs]
              rw [← hbs] at hck
              have hbl := badL_len k
              obtain ⟨c1, hc1, hr1⟩ := cat_run Tryd.prog a bs (by rw [hbd]; have := HZ.out; omega)
              obtain ⟨c2, hc2, hr2⟩ := cat_run Tryd.prog c1 b (by rw [hc1.out, hbd, List.length_append]; have := HZ.out; omega)
              have hX := mEncode_bad c2 wr (by rw [hc2.out, hc1.out, hbd]; exact bad_in k _ _)
              clear hbs hbd hc1 hc2 hbl
              go_wp2_with fail
              go_at_call 6
              refine hX.mono (fun e w7 hpost => ?_)
              obtain ⟨rfl, hb7⟩ := hpost
              clear hX
              go_wp2
              go_roundw
              case rel => exact ⟨k + 1, by go_num, by omega, hbx.trans (hb7.mono hbx.size), Nat.lt_of_lt_of_le hkx hb7.size, fun j hj => (hb7.cell (p := ⟨w6.heap.size, j, none⟩) hkx).trans (HC.out j hj)⟩
              case measure => simp [RowKit.intOf]; omega
            · have hkk : k = 6 := by omega
              subst hkk
              clear hc
              go_wp2
              go_ret
              exact ⟨rfl, hbx⟩
    | false =>
      rw [hpl] at hP
      clear hpl
      go_wp2_with (go_at_call 9; refine (hP _).mono ?_; rintro e w' ⟨rfl, hw'⟩; subst w')
      go_at_call 6
      by_cases hnb : Mb.nameOk b.data.toList = true
      · obtain ⟨sb, hsb, hEb⟩ := mEncode_ok b w3 hnb hE3
        have hq := eqs_of hna hnb hsa hsb
        refine hEb.mono (fun e w4 hpost => ?_)
        obtain ⟨rfl, hb4⟩ := hpost
        have hE4 := hE3.below hb4 (Nat.le_refl _)
        have hbw4 := hbw.trans (hb4.mono hbw.size)
        clear hEb hsb
        go_wp2_with fail
        go_at_call 8
        cases hdb : Mb.decL b.data.toList with
        | none =>
          have hDb := mDecode_none b w4 hE4 hdb
          clear hdb
          refine hDb.mono (fun e w6 hpost => ?_)
          obtain ⟨rfl, hb6⟩ := hpost
          have hbw6 := hbw4.trans (hb6.mono hbw4.size)
          clear hDb
          have hrow : ∀ j, j < 6 → (w6.alloc (Obj.cells #[.string ⟨#[32]⟩, .string ⟨#[10]⟩, .string ⟨#[255]⟩, .string ⟨#[237, 160, 128]⟩, .string ⟨#[127]⟩, .string ⟨#[239, 191, 189]⟩] 9)).cell? ⟨w6.heap.size, j, none⟩ = some (.string ⟨(badL j).toArray⟩) := fun j hj => by
            rw [World.cell?_alloc_new]
            have : j = 0 ∨ j = 1 ∨ j = 2 ∨ j = 3 ∨ j = 4 ∨ j = 5 := by omega
            rcases this with rfl | rfl | rfl | rfl | rfl | rfl <;> rfl
          have hbr : Below w.heap.size w (w6.alloc (Obj.cells #[.string ⟨#[32]⟩, .string ⟨#[10]⟩, .string ⟨#[255]⟩, .string ⟨#[237, 160, 128]⟩, .string ⟨#[127]⟩, .string ⟨#[239, 191, 189]⟩] 9)) := hbw6.alloc hbw6.size _
          have hkr : w6.heap.size < (w6.alloc (Obj.cells #[.string ⟨#[32]⟩, .string ⟨#[10]⟩, .string ⟨#[255]⟩, .string ⟨#[237, 160, 128]⟩, .string ⟨#[127]⟩, .string ⟨#[239, 191, 189]⟩] 9)).heap.size := by simp
          go_wp2_with fail
          generalize w6.alloc (Obj.cells #[.string ⟨#[32]⟩, .string ⟨#[10]⟩, .string ⟨#[255]⟩, .string ⟨#[237, 160, 128]⟩, .string ⟨#[127]⟩, .string ⟨#[239, 191, 189]⟩] 9) = W0 at hrow hbr hkr ⊢
          go_loopw [17] (fun i wr => ∃ k : Nat, i = .int .i64 k ∧ k ≤ 6 ∧ Below w.heap.size w wr ∧ w6.heap.size < wr.heap.size ∧ ∀ j, j < 6 → wr.cell? ⟨w6.heap.size, j, none⟩ = some (.string ⟨(badL j).toArray⟩)) (fun i _ => 6 - (RowKit.intOf i).toNat)
          case atStart => exact ⟨0, rfl, by omega, hbr, hkr, hrow⟩
          case round =>
            clear hrow hbr hkr
            obtain ⟨k, rfl, hk, hbx, hkx, hc⟩ := hrel
            by_cases hk6 : k < 6
            · have hck := hc k hk6
              have HC := Lib.hid hc
              clear hc
              obtain ⟨bs, hbs⟩ : ∃ bs : ByteArray, bs = ⟨(badL k).toArray⟩ := ⟨_, rfl⟩
              have hbd : bs.data.toList = badL k := by rw [hbs]
              rw [← hbs] at hck
              have hbl := badL_len k
              obtain ⟨c1, hc1, hr1⟩ := cat_run Tryd.prog a bs (by rw [hbd]; have := HZ.out; omega)
              obtain ⟨c2, hc2, hr2⟩ := cat_run Tryd.prog c1 b (by rw [hc1.out, hbd, List.length_append]; have := HZ.out; omega)
              have hX := mEncode_bad c2 wr (by rw [hc2.out, hc1.out, hbd]; exact bad_in k _ _)
              clear hbs hbd hc1 hc2 hbl
              go_wp2_with fail
              go_at_call 6
              refine hX.mono (fun e w7 hpost => ?_)
              obtain ⟨rfl, hb7⟩ := hpost
              clear hX
              go_wp2
              go_roundw
              case rel => exact ⟨k + 1, by go_num, by omega, hbx.trans (hb7.mono hbx.size), Nat.lt_of_lt_of_le hkx hb7.size, fun j hj => (hb7.cell (p := ⟨w6.heap.size, j, none⟩) hkx).trans (HC.out j hj)⟩
              case measure => simp [RowKit.intOf]; omega
            · have hkk : k = 6 := by omega
              subst hkk
              clear hc
              go_wp2
              go_ret
              exact ⟨rfl, hbx⟩
        | some m =>
          obtain ⟨hm1, hm2⟩ := Mb.dec_some hdb
          obtain ⟨nb, hnbd⟩ : ∃ nb : ByteArray, nb.data.toList = m := ⟨⟨m.toArray⟩, rfl⟩
          subst hnbd
          have hDb := mDecode_ok b w4 hE4 nb hdb
          clear hdb
          refine hDb.mono (fun e w5 hpost => ?_)
          obtain ⟨rfl, hb5⟩ := hpost
          have hE5 := hE4.below hb5 (Nat.le_refl _)
          have hbw5 := hbw4.trans (hb5.mono hbw4.size)
          obtain ⟨sn, hsn, hEn⟩ := mEncode_ok nb w5 hm1 hE5
          have hsnb : sn = b := bytes_ext (by rw [hsn, hm2])
          subst sn
          clear hDb hsn hm1 hm2
          go_wp2_with fail
          go_at_call 6
          refine hEn.mono (fun e w6 hpost => ?_)
          obtain ⟨rfl, hb6⟩ := hpost
          have hbw6 := hbw5.trans (hb6.mono hbw5.size)
          clear hEn
          have hrow : ∀ j, j < 6 → (w6.alloc (Obj.cells #[.string ⟨#[32]⟩, .string ⟨#[10]⟩, .string ⟨#[255]⟩, .string ⟨#[237, 160, 128]⟩, .string ⟨#[127]⟩, .string ⟨#[239, 191, 189]⟩] 9)).cell? ⟨w6.heap.size, j, none⟩ = some (.string ⟨(badL j).toArray⟩) := fun j hj => by
            rw [World.cell?_alloc_new]
            have : j = 0 ∨ j = 1 ∨ j = 2 ∨ j = 3 ∨ j = 4 ∨ j = 5 := by omega
            rcases this with rfl | rfl | rfl | rfl | rfl | rfl <;> rfl
          have hbr : Below w.heap.size w (w6.alloc (Obj.cells #[.string ⟨#[32]⟩, .string ⟨#[10]⟩, .string ⟨#[255]⟩, .string ⟨#[237, 160, 128]⟩, .string ⟨#[127]⟩, .string ⟨#[239, 191, 189]⟩] 9)) := hbw6.alloc hbw6.size _
          have hkr : w6.heap.size < (w6.alloc (Obj.cells #[.string ⟨#[32]⟩, .string ⟨#[10]⟩, .string ⟨#[255]⟩, .string ⟨#[237, 160, 128]⟩, .string ⟨#[127]⟩, .string ⟨#[239, 191, 189]⟩] 9)).heap.size := by simp
          go_wp2_with fail
          generalize w6.alloc (Obj.cells #[.string ⟨#[32]⟩, .string ⟨#[10]⟩, .string ⟨#[255]⟩, .string ⟨#[237, 160, 128]⟩, .string ⟨#[127]⟩, .string ⟨#[239, 191, 189]⟩] 9) = W0 at hrow hbr hkr ⊢
          go_loopw [17] (fun i wr => ∃ k : Nat, i = .int .i64 k ∧ k ≤ 6 ∧ Below w.heap.size w wr ∧ w6.heap.size < wr.heap.size ∧ ∀ j, j < 6 → wr.cell? ⟨w6.heap.size, j, none⟩ = some (.string ⟨(badL j).toArray⟩)) (fun i _ => 6 - (RowKit.intOf i).toNat)
          case atStart => exact ⟨0, rfl, by omega, hbr, hkr, hrow⟩
          case round =>
            clear hrow hbr hkr
            obtain ⟨k, rfl, hk, hbx, hkx, hc⟩ := hrel
            by_cases hk6 : k < 6
            · have hck := hc k hk6
              have HC := Lib.hid hc
              clear hc
              obtain ⟨bs, hbs⟩ : ∃ bs : ByteArray, bs = ⟨(badL k).toArray⟩ := ⟨_, rfl⟩
              have hbd : bs.data.toList = badL k := by rw [hbs]
              rw [← hbs] at hck
              have hbl := badL_len k
              obtain ⟨c1, hc1, hr1⟩ := cat_run Tryd.prog a bs (by rw [hbd]; have := HZ.out; omega)
              obtain ⟨c2, hc2, hr2⟩ := cat_run Tryd.prog c1 b (by rw [hc1.out, hbd, List.length_append]; have := HZ.out; omega)
              have hX := mEncode_bad c2 wr (by rw [hc2.out, hc1.out, hbd]; exact bad_in k _ _)
              clear hbs hbd hc1 hc2 hbl
              go_wp2_with fail
              go_at_call 6
              refine hX.mono (fun e w7 hpost => ?_)
              obtain ⟨rfl, hb7⟩ := hpost
              clear hX
              go_wp2
              go_roundw
              case rel => exact ⟨k + 1, by go_num, by omega, hbx.trans (hb7.mono hbx.size), Nat.lt_of_lt_of_le hkx hb7.size, fun j hj => (hb7.cell (p := ⟨w6.heap.size, j, none⟩) hkx).trans (HC.out j hj)⟩
              case measure => simp [RowKit.intOf]; omega
            · have hkk : k = 6 := by omega
              subst hkk
              clear hc
              go_wp2
              go_ret
              exact ⟨rfl, hbx⟩
      · have hEb := mEncode_bad b w3 (by simpa using hnb)
        refine hEb.mono (fun e w4 hpost => ?_)
        obtain ⟨rfl, hb4⟩ := hpost
        have hE4 := hE3.below hb4 (Nat.le_refl _)
        have hbw4 := hbw.trans (hb4.mono hbw.size)
        clear hEb
        go_wp2_with fail
        go_at_call 8
        cases hdb : Mb.decL b.data.toList with
        | none =>
          have hDb := mDecode_none b w4 hE4 hdb
          clear hdb
          refine hDb.mono (fun e w6 hpost => ?_)
          obtain ⟨rfl, hb6⟩ := hpost
          have hbw6 := hbw4.trans (hb6.mono hbw4.size)
          clear hDb
          have hrow : ∀ j, j < 6 → (w6.alloc (Obj.cells #[.string ⟨#[32]⟩, .string ⟨#[10]⟩, .string ⟨#[255]⟩, .string ⟨#[237, 160, 128]⟩, .string ⟨#[127]⟩, .string ⟨#[239, 191, 189]⟩] 9)).cell? ⟨w6.heap.size, j, none⟩ = some (.string ⟨(badL j).toArray⟩) := fun j hj => by
            rw [World.cell?_alloc_new]
            have : j = 0 ∨ j = 1 ∨ j = 2 ∨ j = 3 ∨ j = 4 ∨ j = 5 := by omega
            rcases this with rfl | rfl | rfl | rfl | rfl | rfl <;> rfl
          have hbr : Below w.heap.size w (w6.alloc (Obj.cells #[.string ⟨#[32]⟩, .string ⟨#[10]⟩, .string ⟨#[255]⟩, .string ⟨#[237, 160, 128]⟩, .string ⟨#[127]⟩, .string ⟨#[239, 191, 189]⟩] 9)) := hbw6.alloc hbw6.size _
          have hkr : w6.heap.size < (w6.alloc (Obj.cells #[.string ⟨#[32]⟩, .string ⟨#[10]⟩, .string ⟨#[255]⟩, .string ⟨#[237, 160, 128]⟩, .string ⟨#[127]⟩, .string ⟨#[239, 191, 189]⟩] 9)).heap.size := by simp
          go_wp2_with fail
          generalize w6.alloc (Obj.cells #[.string ⟨#[32]⟩, .string ⟨#[10]⟩, .string ⟨#[255]⟩, .string ⟨#[237, 160, 128]⟩, .string ⟨#[127]⟩, .string ⟨#[239, 191, 189]⟩] 9) = W0 at hrow hbr hkr ⊢
          go_loopw [17] (fun i wr => ∃ k : Nat, i = .int .i64 k ∧ k ≤ 6 ∧ Below w.heap.size w wr ∧ w6.heap.size < wr.heap.size ∧ ∀ j, j < 6 → wr.cell? ⟨w6.heap.size, j, none⟩ = some (.string ⟨(badL j).toArray⟩)) (fun i _ => 6 - (RowKit.intOf i).toNat)
          case atStart => exact ⟨0, rfl, by omega, hbr, hkr, hrow⟩
          case round =>
            clear hrow hbr hkr
            obtain ⟨k, rfl, hk, hbx, hkx, hc⟩ := hrel
            by_cases hk6 : k < 6
            · have hck := hc k hk6
              have HC := Lib.hid hc
              clear hc
              obtain ⟨bs, hbs⟩ : ∃ bs : ByteArray, bs = ⟨(badL k).toArray⟩ := ⟨_, rfl⟩
              have hbd : bs.data.toList = badL k := by rw [hbs]
              rw [← hbs] at hck
              have hbl := badL_len k
              obtain ⟨c1, hc1, hr1⟩ := cat_run Tryd.prog a bs (by rw [hbd]; have := HZ.out; omega)
              obtain ⟨c2, hc2, hr2⟩ := cat_run Tryd.prog c1 b (by rw [hc1.out, hbd, List.length_append]; have := HZ.out; omega)
              have hX := mEncode_bad c2 wr (by rw [hc2.out, hc1.out, hbd]; exact bad_in k _ _)
              clear hbs hbd hc1 hc2 hbl
              go_wp2_with fail
              go_at_call 6
              refine hX.mono (fun e w7 hpost => ?_)
              obtain ⟨rfl, hb7⟩ := hpost
              clear hX
              go_wp2
              go_roundw
              case rel => exact ⟨k + 1, by go_num, by omega, hbx.trans (hb7.mono hbx.size), Nat.lt_of_lt_of_le hkx hb7.size, fun j hj => (hb7.cell (p := ⟨w6.heap.size, j, none⟩) hkx).trans (HC.out j hj)⟩
              case measure => simp [RowKit.intOf]; omega
            · have hkk : k = 6 := by omega
              subst hkk
              clear hc
              go_wp2
              go_ret
              exact ⟨rfl, hbx⟩
        | some m =>
          obtain ⟨hm1, hm2⟩ := Mb.dec_some hdb
          obtain ⟨nb, hnbd⟩ : ∃ nb : ByteArray, nb.data.toList = m := ⟨⟨m.toArray⟩, rfl⟩
          subst hnbd
          have hDb := mDecode_ok b w4 hE4 nb hdb
          clear hdb
          refine hDb.mono (fun e w5 hpost => ?_)
          obtain ⟨rfl, hb5⟩ := hpost
          have hE5 := hE4.below hb5 (Nat.le_refl _)
          have hbw5 := hbw4.trans (hb5.mono hbw4.size)
          obtain ⟨sn, hsn, hEn⟩ := mEncode_ok nb w5 hm1 hE5
          have hsnb : sn = b := bytes_ext (by rw [hsn, hm2])
          subst sn
          clear hDb hsn hm1 hm2
          go_wp2_with fail
          go_at_call 6
          refine hEn.mono (fun e w6 hpost => ?_)
          obtain ⟨rfl, hb6⟩ := hpost
          have hbw6 := hbw5.trans (hb6.mono hbw5.size)
          clear hEn
          have hrow : ∀ j, j < 6 → (w6.alloc (Obj.cells #[.string ⟨#[32]⟩, .string ⟨#[10]⟩, .string ⟨#[255]⟩, .string ⟨#[237, 160, 128]⟩, .string ⟨#[127]⟩, .string ⟨#[239, 191, 189]⟩] 9)).cell? ⟨w6.heap.size, j, none⟩ = some (.string ⟨(badL j).toArray⟩) := fun j hj => by
            rw [World.cell?_alloc_new]
            have : j = 0 ∨ j = 1 ∨ j = 2 ∨ j = 3 ∨ j = 4 ∨ j = 5 := by omega
            rcases this with rfl | rfl | rfl | rfl | rfl | rfl <;> rfl
          have hbr : Below w.heap.size w (w6.alloc (Obj.cells #[.string ⟨#[32]⟩, .string ⟨#[10]⟩, .string ⟨#[255]⟩, .string ⟨#[237, 160, 128]⟩, .string ⟨#[127]⟩, .string ⟨#[239, 191, 189]⟩] 9)) := hbw6.alloc hbw6.size _
          have hkr : w6.heap.size < (w6.alloc (Obj.cells #[.string ⟨#[32]⟩, .string ⟨#[10]⟩, .string ⟨#[255]⟩, .string ⟨#[237, 160, 128]⟩, .string ⟨#[127]⟩, .string ⟨#[239, 191, 189]⟩] 9)).heap.size := by simp
          go_wp2_with fail
          generalize w6.alloc (Obj.cells #[.string ⟨#[32]⟩, .string ⟨#[10]⟩, .string ⟨#[255]⟩, .string ⟨#[237, 160, 128]⟩, .string ⟨#[127]⟩, .string ⟨#[239, 191, 189]⟩] 9) = W0 at hrow hbr hkr ⊢
          go_loopw [17] (fun i wr => ∃ k : Nat, i = .int .i64 k ∧ k ≤ 6 ∧ Below w.heap.size w wr ∧ w6.heap.size < wr.heap.size ∧ ∀ j, j < 6 → wr.cell? ⟨w6.heap.size, j, none⟩ = some (.string ⟨(badL j).toArray⟩)) (fun i _ => 6 - (RowKit.intOf i).toNat)
          case atStart => exact ⟨0, rfl, by omega, hbr, hkr, hrow⟩
          case round =>
            clear hrow hbr hkr
            obtain ⟨k, rfl, hk, hbx, hkx, hc⟩ := hrel
            by_cases hk6 : k < 6
            · have hck := hc k hk6
              have HC := Lib.hid hc
              clear hc
              obtain ⟨bs, hbs⟩ : ∃ bs : ByteArray, bs = ⟨(badL k).toArray⟩ := ⟨_, rfl⟩
              have hbd : bs.data.toList = badL k := by rw [hbs]
              rw [← hbs] at hck
              have hbl := badL_len k
              obtain ⟨c1, hc1, hr1⟩ := cat_run Tryd.prog a bs (by rw [hbd]; have := HZ.out; omega)
              obtain ⟨c2, hc2, hr2⟩ := cat_run Tryd.prog c1 b (by rw [hc1.out, hbd, List.length_append]; have := HZ.out; omega)
              have hX := mEncode_bad c2 wr (by rw [hc2.out, hc1.out, hbd]; exact bad_in k _ _)
              clear hbs hbd hc1 hc2 hbl
              go_wp2_with fail
              go_at_call 6
              refine hX.mono (fun e w7 hpost => ?_)
              obtain ⟨rfl, hb7⟩ := hpost
              clear hX
              go_wp2
              go_roundw
              case rel => exact ⟨k + 1, by go_num, by omega, hbx.trans (hb7.mono hbx.size), Nat.lt_of_lt_of_le hkx hb7.size, fun j hj => (hb7.cell (p := ⟨w6.heap.size, j, none⟩) hkx).trans (HC.out j hj)⟩
              case measure => simp [RowKit.intOf]; omega
            · have hkk : k = 6 := by omega
              subst hkk
              clear hc
              go_wp2
              go_ret
              exact ⟨rfl, hbx⟩
  · have hEa := mEncode_bad a w1 (by simpa using hna)
    refine hEa.mono (fun e w3 hpost => ?_)
    obtain ⟨rfl, hb2⟩ := hpost
    have hE3 := hE1.below hb2 (Nat.le_refl _)
    have hbw := hb1.trans (hb2.mono hb1.size)
    have hpl : plainL a.data.toList = false := by
      rw [Bool.eq_false_iff]
      exact fun h => hna (plain_name _ h).1
    rw [hpl] at hP
    clear hEa hE1 hb1 hb2 hpl
    go_wp2_with (go_at_call 9; refine (hP _).mono ?_; rintro e w' ⟨rfl, hw'⟩; subst w')
    go_at_call 6
    by_cases hnb : Mb.nameOk b.data.toList = true
    · obtain ⟨sb, hsb, hEb⟩ := mEncode_ok b w3 hnb hE3
      refine hEb.mono (fun e w4 hpost => ?_)
      obtain ⟨rfl, hb4⟩ := hpost
      have hE4 := hE3.below hb4 (Nat.le_refl _)
      have hbw4 := hbw.trans (hb4.mono hbw.size)
      clear hEb hsb
      go_wp2_with fail
      go_at_call 8
      cases hdb : Mb.decL b.data.toList with
      | none =>
        have hDb := mDecode_none b w4 hE4 hdb
        clear hdb
        refine hDb.mono (fun e w6 hpost => ?_)
        obtain ⟨rfl, hb6⟩ := hpost
        have hbw6 := hbw4.trans (hb6.mono hbw4.size)
        clear hDb
        have hrow : ∀ j, j < 6 → (w6.alloc (Obj.cells #[.string ⟨#[32]⟩, .string ⟨#[10]⟩, .string ⟨#[255]⟩, .string ⟨#[237, 160, 128]⟩, .string ⟨#[127]⟩, .string ⟨#[239, 191, 189]⟩] 9)).cell? ⟨w6.heap.size, j, none⟩ = some (.string ⟨(badL j).toArray⟩) := fun j hj => by
          rw [World.cell?_alloc_new]
          have : j = 0 ∨ j = 1 ∨ j = 2 ∨ j = 3 ∨ j = 4 ∨ j = 5 := by omega
          rcases this with rfl | rfl | rfl | rfl | rfl | rfl <;> rfl
        have hbr : Below w.heap.size w (w6.alloc (Obj.cells #[.string ⟨#[32]⟩, .string ⟨#[10]⟩, .string ⟨#[255]⟩, .string ⟨#[237, 160, 128]⟩, .string ⟨#[127]⟩, .string ⟨#[239, 191, 189]⟩] 9)) := hbw6.alloc hbw6.size _
        have hkr : w6.heap.size < (w6.alloc (Obj.cells #[.string ⟨#[32]⟩, .string ⟨#[10]⟩, .string ⟨#[255]⟩, .string ⟨#[237, 160, 128]⟩, .string ⟨#[127]⟩, .string ⟨#[239, 191, 189]⟩] 9)).heap.size := by simp
        go_wp2_with fail
        generalize w6.alloc (Obj.cells #[.string ⟨#[32]⟩, .string ⟨#[10]⟩, .string ⟨#[255]⟩, .string ⟨#[237, 160, 128]⟩, .string ⟨#[127]⟩, .string ⟨#[239, 191, 189]⟩] 9) = W0 at hrow hbr hkr ⊢
        go_loopw [17] (fun i wr => ∃ k : Nat, i = .int .i64 k ∧ k ≤ 6 ∧ Below w.heap.size w wr ∧ w6.heap.size < wr.heap.size ∧ ∀ j, j < 6 → wr.cell? ⟨w6.heap.size, j, none⟩ = some (.string ⟨(badL j).toArray⟩)) (fun i _ => 6 - (RowKit.intOf i).toNat)
        case atStart => exact ⟨0, rfl, by omega, hbr, hkr, hrow⟩
        case round =>
          clear hrow hbr hkr
          obtain ⟨k, rfl, hk, hbx, hkx, hc⟩ := hrel
          by_cases hk6 : k < 6
          · have hck := hc k hk6
            have HC := Lib.hid hc
            clear hc
            obtain ⟨bs, hbs⟩ : ∃ bs : ByteArray, bs = ⟨(badL k).toArray⟩ := ⟨_, rfl⟩
            have hbd : bs.data.toList = badL k := by rw [hbs]
            rw [← hbs] at hck
            have hbl := badL_len k
            obtain ⟨c1, hc1, hr1⟩ := cat_run Tryd.prog a bs (by rw [hbd]; have := HZ.out; omega)
            obtain ⟨c2, hc2, hr2⟩ := cat_run Tryd.prog c1 b (by rw [hc1.out, hbd, List.length_append]; have := HZ.out; omega)
            have hX := mEncode_bad c2 wr (by rw [hc2.out, hc1.out, hbd]; exact bad_in k _ _)
            clear hbs hbd hc1 hc2 hbl
            go_wp2_with fail
            go_at_call 6
            refine hX.mono (fun e w7 hpost => ?_)
            obtain ⟨rfl, hb7⟩ := hpost
            clear hX
            go_wp2
            go_roundw
            case rel => exact ⟨k + 1, by go_num, by omega, hbx.trans (hb7.mono hbx.size), Nat.lt_of_lt_of_le hkx hb7.size, fun j hj => (hb7.cell (p := ⟨w6.heap.size, j, none⟩) hkx).trans (HC.out j hj)⟩
            case measure => simp [RowKit.intOf]; omega
          · have hkk : k = 6 := by omega
            subst hkk
            clear hc
            go_wp2
            go_ret
            exact ⟨rfl, hbx⟩
      | some m =>
        obtain ⟨hm1, hm2⟩ := Mb.dec_some hdb
        obtain ⟨nb, hnbd⟩ : ∃ nb : ByteArray, nb.data.toList = m := ⟨⟨m.toArray⟩, rfl⟩
        subst hnbd
        have hDb := mDecode_ok b w4 hE4 nb hdb
        clear hdb
        refine hDb.mono (fun e w5 hpost => ?_)
        obtain ⟨rfl, hb5⟩ := hpost
        have hE5 := hE4.below hb5 (Nat.le_refl _)
        have hbw5 := hbw4.trans (hb5.mono hbw4.size)
        obtain ⟨sn, hsn, hEn⟩ := mEncode_ok nb w5 hm1 hE5
        have hsnb : sn = b := bytes_ext (by rw [hsn, hm2])
        subst sn
        clear hDb hsn hm1 hm2
        go_wp2_with fail
        go_at_call 6
        refine hEn.mono (fun e w6 hpost => ?_)
        obtain ⟨rfl, hb6⟩ := hpost
        have hbw6 := hbw5.trans (hb6.mono hbw5.size)
        clear hEn
        have hrow : ∀ j, j < 6 → (w6.alloc (Obj.cells #[.string ⟨#[32]⟩, .string ⟨#[10]⟩, .string ⟨#[255]⟩, .string ⟨#[237, 160, 128]⟩, .string ⟨#[127]⟩, .string ⟨#[239, 191, 189]⟩] 9)).cell? ⟨w6.heap.size, j, none⟩ = some (.string ⟨(badL j).toArray⟩) := fun j hj => by
          rw [World.cell?_alloc_new]
          have : j = 0 ∨ j = 1 ∨ j = 2 ∨ j = 3 ∨ j = 4 ∨ j = 5 := by omega
          rcases this with rfl | rfl | rfl | rfl | rfl | rfl <;> rfl
        have hbr : Below w.heap.size w (w6.alloc (Obj.cells #[.string ⟨#[32]⟩, .string ⟨#[10]⟩, .string ⟨#[255]⟩, .string ⟨#[237, 160, 128]⟩, .string ⟨#[127]⟩, .string ⟨#[239, 191, 189]⟩] 9)) := hbw6.alloc hbw6.size _
        have hkr : w6.heap.size < (w6.alloc (Obj.cells #[.string ⟨#[32]⟩, .string ⟨#[10]⟩, .string ⟨#[255]⟩, .string ⟨#[237, 160, 128]⟩, .string ⟨#[127]⟩, .string ⟨#[239, 191, 189]⟩] 9)).heap.size := by simp
        go_wp2_with fail
        generalize w6.alloc (Obj.cells #[.string ⟨#[32]⟩, .string ⟨#[10]⟩, .string ⟨#[255]⟩, .string ⟨#[237, 160, 128]⟩, .string ⟨#[127]⟩, .string ⟨#[239, 191, 189]⟩] 9) = W0 at hrow hbr hkr ⊢
        go_loopw [17] (fun i wr => ∃ k : Nat, i = .int .i64 k ∧ k ≤ 6 ∧ Below w.heap.size w wr ∧ w6.heap.size < wr.heap.size ∧ ∀ j, j < 6 → wr.cell? ⟨w6.heap.size, j, none⟩ = some (.string ⟨(badL j).toArray⟩)) (fun i _ => 6 - (RowKit.intOf i).toNat)
        case atStart => exact ⟨0, rfl, by omega, hbr, hkr, hrow⟩
        case round =>
          clear hrow hbr hkr
          obtain ⟨k, rfl, hk, hbx, hkx, hc⟩ := hrel
          by_cases hk6 : k < 6
          · have hck := hc k hk6
            have HC := Lib.hid hc
            clear hc
            obtain ⟨bs, hbs⟩ : ∃ bs : ByteArray, bs = ⟨(badL k).toArray⟩ := ⟨_, rfl⟩
            have hbd : bs.data.toList = badL k := by rw [hbs]
            rw [← hbs] at hck
            have hbl := badL_len k
            obtain ⟨c1, hc1, hr1⟩ := cat_run Tryd.prog a bs (by rw [hbd]; have := HZ.out; omega)
            obtain ⟨c2, hc2, hr2⟩ := cat_run Tryd.prog c1 b (by rw [hc1.out, hbd, List.length_append]; have := HZ.out; omega)
            have hX := mEncode_bad c2 wr (by rw [hc2.out, hc1.out, hbd]; exact bad_in k _ _)
            clear hbs hbd hc1 hc2 hbl
            go_wp2_with fail
            go_at_call 6
            refine hX.mono (fun e w7 hpost => ?_)
            obtain ⟨rfl, hb7⟩ := hpost
            clear hX
            go_wp2
            go_roundw
            case rel => exact ⟨k + 1, by go_num, by omega, hbx.trans (hb7.mono hbx.size), Nat.lt_of_lt_of_le hkx hb7.size, fun j hj => (hb7.cell (p := ⟨w6.heap.size, j, none⟩) hkx).trans (HC.out j hj)⟩
            case measure => simp [RowKit.intOf]; omega
          · have hkk : k = 6 := by omega
            subst hkk
            clear hc
            go_wp2
            go_ret
            exact ⟨rfl, hbx⟩
    · have hEb := mEncode_bad b w3 (by simpa using hnb)
      refine hEb.mono (fun e w4 hpost => ?_)
      obtain ⟨rfl, hb4⟩ := hpost
      have hE4 := hE3.below hb4 (Nat.le_refl _)
      have hbw4 := hbw.trans (hb4.mono hbw.size)
      clear hEb
      go_wp2_with fail
      go_at_call 8
      cases hdb : Mb.decL b.data.toList with
      | none =>
        have hDb := mDecode_none b w4 hE4 hdb
        clear hdb
        refine hDb.mono (fun e w6 hpost => ?_)
        obtain ⟨rfl, hb6⟩ := hpost
        have hbw6 := hbw4.trans (hb6.mono hbw4.size)
        clear hDb
        have hrow : ∀ j, j < 6 → (w6.alloc (Obj.cells #[.string ⟨#[32]⟩, .string ⟨#[10]⟩, .string ⟨#[255]⟩, .string ⟨#[237, 160, 128]⟩, .string ⟨#[127]⟩, .string ⟨#[239, 191, 189]⟩] 9)).cell? ⟨w6.heap.size, j, none⟩ = some (.string ⟨(badL j).toArray⟩) := fun j hj => by
          rw [World.cell?_alloc_new]
          have : j = 0 ∨ j = 1 ∨ j = 2 ∨ j = 3 ∨ j = 4 ∨ j = 5 := by omega
          rcases this with rfl | rfl | rfl | rfl | rfl | rfl <;> rfl
        have hbr : Below w.heap.size w (w6.alloc (Obj.cells #[.string ⟨#[32]⟩, .string ⟨#[10]⟩, .string ⟨#[255]⟩, .string ⟨#[237, 160, 128]⟩, .string ⟨#[127]⟩, .string ⟨#[239, 191, 189]⟩] 9)) := hbw6.alloc hbw6.size _
        have hkr : w6.heap.size < (w6.alloc (Obj.cells #[.string ⟨#[32]⟩, .string ⟨#[10]⟩, .string ⟨#[255]⟩, .string ⟨#[237, 160, 128]⟩, .string ⟨#[127]⟩, .string ⟨#[239, 191, 189]⟩] 9)).heap.size := by simp
        go_wp2_with fail
        generalize w6.alloc (Obj.cells #[.string ⟨#[32]⟩, .string ⟨#[10]⟩, .string ⟨#[255]⟩, .string ⟨#[237, 160, 128]⟩, .string ⟨#[127]⟩, .string ⟨#[239, 191, 189]⟩] 9) = W0 at hrow hbr hkr ⊢
        go_loopw [17] (fun i wr => ∃ k : Nat, i = .int .i64 k ∧ k ≤ 6 ∧ Below w.heap.size w wr ∧ w6.heap.size < wr.heap.size ∧ ∀ j, j < 6 → wr.cell? ⟨w6.heap.size, j, none⟩ = some (.string ⟨(badL j).toArray⟩)) (fun i _ => 6 - (RowKit.intOf i).toNat)
        case atStart => exact ⟨0, rfl, by omega, hbr, hkr, hrow⟩
        case round =>
          clear hrow hbr hkr
          obtain ⟨k, rfl, hk, hbx, hkx, hc⟩ := hrel
          by_cases hk6 : k < 6
          · have hck := hc k hk6
            have HC := Lib.hid hc
            clear hc
            obtain ⟨bs, hbs⟩ : ∃ bs : ByteArray, bs = ⟨(badL k).toArray⟩ := ⟨_, rfl⟩
            have hbd : bs.data.toList = badL k := by rw [hbs]
            rw [← hbs] at hck
            have hbl := badL_len k
            obtain ⟨c1, hc1, hr1⟩ := cat_run Tryd.prog a bs (by rw [hbd]; have := HZ.out; omega)
            obtain ⟨c2, hc2, hr2⟩ := cat_run Tryd.prog c1 b (by rw [hc1.out, hbd, List.length_append]; have := HZ.out; omega)
            have hX := mEncode_bad c2 wr (by rw [hc2.out, hc1.out, hbd]; exact bad_in k _ _)
            clear hbs hbd hc1 hc2 hbl
            go_wp2_with fail
            go_at_call 6
            refine hX.mono (fun e w7 hpost => ?_)
            obtain ⟨rfl, hb7⟩ := hpost
            clear hX
            go_wp2
            go_roundw
            case rel => exact ⟨k + 1, by go_num, by omega, hbx.trans (hb7.mono hbx.size), Nat.lt_of_lt_of_le hkx hb7.size, fun j hj => (hb7.cell (p := ⟨w6.heap.size, j, none⟩) hkx).trans (HC.out j hj)⟩
            case measure => simp [RowKit.intOf]; omega
          · have hkk : k = 6 := by omega
            subst hkk
            clear hc
            go_wp2
            go_ret
            exact ⟨rfl, hbx⟩
      | some m =>
        obtain ⟨hm1, hm2⟩ := Mb.dec_some hdb
        obtain ⟨nb, hnbd⟩ : ∃ nb : ByteArray, nb.data.toList = m := ⟨⟨m.toArray⟩, rfl⟩
        subst hnbd
        have hDb := mDecode_ok b w4 hE4 nb hdb
        clear hdb
        refine hDb.mono (fun e w5 hpost => ?_)
        obtain ⟨rfl, hb5⟩ := hpost
        have hE5 := hE4.below hb5 (Nat.le_refl _)
        have hbw5 := hbw4.trans (hb5.mono hbw4.size)
        obtain ⟨sn, hsn, hEn⟩ := mEncode_ok nb w5 hm1 hE5
        have hsnb : sn = b := bytes_ext (by rw [hsn, hm2])
        subst sn
        clear hDb hsn hm1 hm2
        go_wp2_with fail
        go_at_call 6
        refine hEn.mono (fun e w6 hpost => ?_)
        obtain ⟨rfl, hb6⟩ := hpost
        have hbw6 := hbw5.trans (hb6.mono hbw5.size)
        clear hEn
        have hrow : ∀ j, j < 6 → (w6.alloc (Obj.cells #[.string ⟨#[32]⟩, .string ⟨#[10]⟩, .string ⟨#[255]⟩, .string ⟨#[237, 160, 128]⟩, .string ⟨#[127]⟩, .string ⟨#[239, 191, 189]⟩] 9)).cell? ⟨w6.heap.size, j, none⟩ = some (.string ⟨(badL j).toArray⟩) := fun j hj => by
          rw [World.cell?_alloc_new]
          have : j = 0 ∨ j = 1 ∨ j = 2 ∨ j = 3 ∨ j = 4 ∨ j = 5 := by omega
          rcases this with rfl | rfl | rfl | rfl | rfl | rfl <;> rfl
        have hbr : Below w.heap.size w (w6.alloc (Obj.cells #[.string ⟨#[32]⟩, .string ⟨#[10]⟩, .string ⟨#[255]⟩, .string ⟨#[237, 160, 128]⟩, .string ⟨#[127]⟩, .string ⟨#[239, 191, 189]⟩] 9)) := hbw6.alloc hbw6.size _
        have hkr : w6.heap.size < (w6.alloc (Obj.cells #[.string ⟨#[32]⟩, .string ⟨#[10]⟩, .string ⟨#[255]⟩, .string ⟨#[237, 160, 128]⟩, .string ⟨#[127]⟩, .string ⟨#[239, 191, 189]⟩] 9)).heap.size := by simp
        go_wp2_with fail
        generalize w6.alloc (Obj.cells #[.string ⟨#[32]⟩, .string ⟨#[10]⟩, .string ⟨#[255]⟩, .string ⟨#[237, 160, 128]⟩, .string ⟨#[127]⟩, .string ⟨#[239, 191, 189]⟩] 9) = W0 at hrow hbr hkr ⊢
        go_loopw [17] (fun i wr => ∃ k : Nat, i = .int .i64 k ∧ k ≤ 6 ∧ Below w.heap.size w wr ∧ w6.heap.size < wr.heap.size ∧ ∀ j, j < 6 → wr.cell? ⟨w6.heap.size, j, none⟩ = some (.string ⟨(badL j).toArray⟩)) (fun i _ => 6 - (RowKit.intOf i).toNat)
        case atStart => exact ⟨0, rfl, by omega, hbr, hkr, hrow⟩
        case round =>
          clear hrow hbr hkr
          obtain ⟨k, rfl, hk, hbx, hkx, hc⟩ := hrel
          by_cases hk6 : k < 6
          · have hck := hc k hk6
            have HC := Lib.hid hc
            clear hc
            obtain ⟨bs, hbs⟩ : ∃ bs : ByteArray, bs = ⟨(badL k).toArray⟩ := ⟨_, rfl⟩
            have hbd : bs.data.toList = badL k := by rw [hbs]
            rw [← hbs] at hck
            have hbl := badL_len k
            obtain ⟨c1, hc1, hr1⟩ := cat_run Tryd.prog a bs (by rw [hbd]; have := HZ.out; omega)
            obtain ⟨c2, hc2, hr2⟩ := cat_run Tryd.prog c1 b (by rw [hc1.out, hbd, List.length_append]; have := HZ.out; omega)
            have hX := mEncode_bad c2 wr (by rw [hc2.out, hc1.out, hbd]; exact bad_in k _ _)
            clear hbs hbd hc1 hc2 hbl
            go_wp2_with fail
            go_at_call 6
            refine hX.mono (fun e w7 hpost => ?_)
            obtain ⟨rfl, hb7⟩ := hpost
            clear hX
            go_wp2
            go_roundw
            case rel => exact ⟨k + 1, by go_num, by omega, hbx.trans (hb7.mono hbx.size), Nat.lt_of_lt_of_le hkx hb7.size, fun j hj => (hb7.cell (p := ⟨w6.heap.size, j, none⟩) hkx).trans (HC.out j hj)⟩
            case measure => simp [RowKit.intOf]; omega
          · have hkk : k = 6 := by omega
            subst hkk
            clear hc
            go_wp2
            go_ret
            exact ⟨rfl, hbx⟩

end Go.Proofs.YtldgiecjnmkajaaDoor
