/-
  OWN TEXT: the steps Encode and Decode: the program's answer and the document's are the same.
-/
import Derived.Test.YtldgiecjnmkajaaGreatDoorPlayC
import Derived.Test.YtldgiecjnmkajaaGreatDoorRefWalkG
namespace Go.Proofs.YtldgiecjnmkajaaGreatDoor
open Go.RowKit Go.Lib

set_option maxHeartbeats 8000000 in
set_option maxRecDepth 100000 in
theorem words_encode {w0 W : World} {H : Obj} {N : Nat} (h : WI w0 H N W) (hE0 : EnvN w0) (hL0 : LeastIs w0) (a b : Int) (s t : ByteArray) (hs : s.size ≤ 281474976710656) :
    Calls Tryz.prog 59 #[.pointer (some ⟨w0.heap.size, 0, none⟩), .agg #[.int .i64 7, .int .i64 a, .int .i64 b, .string s, .string t]] W fun e w' => e = .returned (.bool true) ∧ WI w0 H N w' := by
  have h1 := h.box (boxOf 7 a b s t)
  have b3 : (W.alloc (boxOf 7 a b s t)).cell? ⟨W.heap.size, 3, none⟩ = some (.string s) := by rw [boxOf, World.cell?_alloc_new]; rfl
  have hlt := Lib.lt_of_cell b3
  have hE1 := hE0.below h1.low (Nat.le_refl _)
  by_cases hok : Mb.nameOk s.data.toList = true
  · have hC := mEncode_name s (W.alloc (boxOf 7 a b s t)) hok hE1
    obtain ⟨out, hout⟩ : ∃ out : ByteArray, out = ⟨(Mb.encL s.data.toList).toArray⟩ := ⟨_, rfl⟩
    rw [← hout] at hC
    go_enter Tryz.func59, Tryz.ntmps59
    go_wp2_with fail
    go_at_call 104
    refine hC.mono (fun e w2 hpost => ?_)
    obtain ⟨rfl, hb2⟩ := hpost
    have h2 := h1.below hb2
    have hc2 : w2.cell? ⟨W.heap.size, 3, none⟩ = some (.string s) := (hb2.cell hlt).trans b3
    have hR := refEncode_any s (by omega) w2 (hE0.below h2.low (Nat.le_refl _)) (hL0.below h2.low (Nat.le_refl _))
    have H2 := Lib.hid h2
    have HO := Lib.hid hok
    have HU := Lib.hid hout
    clear h h1 h2 hb2 b3 hE1 hE0 hL0 hok hout hC
    go_wp2_with fail
    go_at_call 105
    refine hR.mono (fun e w3 hpost => ?_)
    obtain ⟨⟨v, rfl, hv⟩, hb3⟩ := hpost
    have H3 := Lib.hid (H2.out.below hb3)
    have hv' : v = .tuple #[.string out, .int .i64 0] := by
      rcases hv with ⟨_, hv⟩ | ⟨hno, _⟩
      · rw [hv, HU.out]
      · rw [HO.out] at hno; cases hno
    subst hv'
    clear hv hR hc2
    go_wp2
    go_ret
    exact ⟨rfl, H3.out⟩
  · have hno : Mb.nameOk s.data.toList = false := by simpa using hok
    have hC := mEncode_bad s (W.alloc (boxOf 7 a b s t)) hno
    go_enter Tryz.func59, Tryz.ntmps59
    go_wp2_with fail
    go_at_call 104
    refine hC.mono (fun e w2 hpost => ?_)
    obtain ⟨rfl, hb2⟩ := hpost
    have h2 := h1.below hb2
    have hc2 : w2.cell? ⟨W.heap.size, 3, none⟩ = some (.string s) := (hb2.cell hlt).trans b3
    have hR := refEncode_any s (by omega) w2 (hE0.below h2.low (Nat.le_refl _)) (hL0.below h2.low (Nat.le_refl _))
    have H2 := Lib.hid h2
    have HO := Lib.hid hno
    clear h h1 h2 hb2 b3 hE1 hE0 hL0 hok hno hC
    go_wp2_with fail
    go_at_call 105
    refine hR.mono (fun e w3 hpost => ?_)
    obtain ⟨⟨v, rfl, hv⟩, hb3⟩ := hpost
    have H3 := Lib.hid (H2.out.below hb3)
    have hv' : v = .tuple #[.string ⟨#[]⟩, .int .i64 2] := by
      rcases hv with ⟨hno, _⟩ | ⟨_, hv⟩
      · rw [HO.out] at hno; cases hno
      · exact hv
    subst hv'
    clear hv hR hc2
    go_wp2
    go_ret
    exact ⟨rfl, H3.out⟩

theorem decO_same {l : List UInt8} {v v' : Value} (h : DecO l v) (h' : DecO l v') : v' = v := by
  rcases h with ⟨n, hn, rfl⟩ | ⟨hn, rfl⟩
  · rcases h' with ⟨n', hn', rfl⟩ | ⟨hn', _⟩
    · rw [hn] at hn'; cases hn'; rfl
    · rw [hn] at hn'; cases hn'
  · rcases h' with ⟨n', hn', _⟩ | ⟨_, rfl⟩
    · rw [hn] at hn'; cases hn'
    · rfl
theorem decO_form {l : List UInt8} {v : Value} (h : DecO l v) : ∃ (out : ByteArray) (x : Int), v = .tuple #[.string out, .int .i64 x] := by
  rcases h with ⟨n, _, rfl⟩ | ⟨_, rfl⟩
  · exact ⟨_, _, rfl⟩
  · exact ⟨_, _, rfl⟩

set_option maxHeartbeats 8000000 in
set_option maxRecDepth 100000 in
theorem words_decode {w0 W : World} {H : Obj} {N : Nat} (h : WI w0 H N W) (hE0 : EnvN w0) (hL0 : LeastIs w0) (a b : Int) (s t : ByteArray) (hs : s.size ≤ 281474976710656) :
    Calls Tryz.prog 59 #[.pointer (some ⟨w0.heap.size, 0, none⟩), .agg #[.int .i64 8, .int .i64 a, .int .i64 b, .string s, .string t]] W fun e w' => e = .returned (.bool true) ∧ WI w0 H N w' := by
  have h1 := h.box (boxOf 8 a b s t)
  have b3 : (W.alloc (boxOf 8 a b s t)).cell? ⟨W.heap.size, 3, none⟩ = some (.string s) := by rw [boxOf, World.cell?_alloc_new]; rfl
  have hlt := Lib.lt_of_cell b3
  have hE1 := hE0.below h1.low (Nat.le_refl _)
  have hC := mDecode_any s (W.alloc (boxOf 8 a b s t)) hE1
  go_enter Tryz.func59, Tryz.ntmps59
  go_wp2_with fail
  go_at_call 106
  refine hC.mono (fun e w2 hpost => ?_)
  obtain ⟨⟨v, rfl, hv⟩, hb2⟩ := hpost
  have h2 := h1.below hb2
  have hc2 : w2.cell? ⟨W.heap.size, 3, none⟩ = some (.string s) := (hb2.cell hlt).trans b3
  have hR := refDecode_any s hs w2 (hE0.below h2.low (Nat.le_refl _)) (hL0.below h2.low (Nat.le_refl _))
  have H2 := Lib.hid h2
  have HV := Lib.hid hv
  obtain ⟨out, x, rfl⟩ := decO_form hv
  clear h h1 h2 hb2 b3 hE1 hE0 hL0 hv hC
  go_wp2_with fail
  go_at_call 107
  refine hR.mono (fun e w3 hpost => ?_)
  obtain ⟨⟨v, rfl, hv⟩, hb3⟩ := hpost
  have H3 := Lib.hid (H2.out.below hb3)
  have hv' := decO_same HV.out hv
  subst hv'
  clear hv hR hc2 HV
  go_wp2
  go_ret
  exact ⟨rfl, H3.out⟩

end Go.Proofs.YtldgiecjnmkajaaGreatDoor
