/-
  OWN TEXT: names.appendCode and names.Encode.
-/
import Derived.Test.YtldgiecjnmkajaaGreatDoorNameWalkD
namespace Go.Proofs.YtldgiecjnmkajaaGreatDoor
open Go.RowKit Go.Lib

theorem codeOf_cells_plain {r : Nat} (h : Mb.plainRune r = true) : Lib.runeCells (r : Int) = Lib.byteCells (Mb.codeOf r) := by
  have hp := h
  simp only [Mb.plainRune, Bool.or_eq_true, Bool.and_eq_true, decide_eq_true_eq] at hp
  rw [← Lib.byteCells_encodeRune, Mb.codeOf_plain h]
  congr 1
  unfold Lib.encodeRune
  rw [Lib.encodeRuneZ_one (by omega) (by omega)]
  simp only [List.map_cons, List.map_nil, Int.toNat_natCast]

theorem cells_app (a b : List UInt8) : Lib.byteCells (a ++ b) = Lib.byteCells a ++ Lib.byteCells b := by simp [Lib.byteCells]

/-- names.appendCode -/
theorem appendCode_any (B n r : Nat) (hr : r ≤ 1114111) (sv : Value) (xs : List Value) (w : World) (hown : w.ownsRow B 5 1 sv n xs) (hBw : B ≤ w.heap.size) (hlim : n + 80 ≤ 140737488355328)
    (htz : w.cell? ⟨4, 15, none⟩ = some (.int .u8 4)) (hgB : 4 < B) :
    Calls Tryz.prog 239 #[sv, .int .i32 r] w fun e w' => ∃ v', e = .returned v' ∧ w'.ownsRow B 5 1 v' (n + (Mb.codeOf r).length) (xs ++ Lib.byteCells (Mb.codeOf r)) ∧ Below B w w' := by
  obtain ⟨i0, hi, hz0, hz1, hz2⟩ := info_parts (P := Tryz.prog) (e := 5) (z := .int .u8 0) (size := 1) (bytes := 1) (by kernel_rfl)
  have hst := stands_any r
  by_cases hp : Mb.plainRune r = true
  · rw [hp] at hst
    have hc := codeOf_cells_plain hp
    have hl : (Lib.runeCells (r : Int)).length = (Mb.codeOf r).length := by rw [hc, Lib.byteCells_length]
    have hA := Tryz.utf8_AppendRune_plain B sv n xs (r : Int) (by omega) (by omega) w hown (by omega) hBw
    rw [hl, hc] at hA
    clear hc hl
    go_enter Tryz.func239, Tryz.ntmps239
    go_wp2_with (go_at_call 309; refine (hst _).mono ?_; rintro e w' ⟨rfl, hw'⟩; subst w')
    go_at_call 310
    refine hA.mono ?_
    rintro e w1 ⟨v', rfl, h1, o, h2⟩
    go_wp2
    go_ret
    exact ⟨v', rfl, h1, ((Below.refl B w).alloc hBw o).grown h2 (by simp; omega) (fun k hk => (hown.lt k hk).1)⟩
  · have hpf : Mb.plainRune r = false := by simpa using hp
    rw [hpf] at hst
    have hlen : (Mb.hexL r).length ≤ 6 := by
      have := Mb.code_len r hr
      rw [Mb.codeOf_hex hp] at this
      simp only [List.length_cons, List.length_append, List.length_nil] at this
      omega
    go_enter Tryz.func239, Tryz.ntmps239
    go_wp2_with (first
      | (go_at_call 309; refine (hst _).mono ?_; rintro e w' ⟨rfl, hw'⟩; subst w')
      | (at_builtin; refine Lib.wpList_append_own_string _ rfl _ _ 181 9 rfl B 5 i0 Tryz.underlying181 Tryz.underlying9 hi hz0 hz1 hz2 _ _ _ rfl hown ⟨#[61]⟩ rfl ?c1 ?c2 hBw ?_))
    case c1 => show n + 1 ≤ maxLen; unfold maxLen; omega
    case c2 => show n + 1 ≤ _; omega
    intro v1 w1 hown1 hg1 _
    have hb1 := (Below.refl B w).grown hg1 hBw (fun k hk => (hown.lt k hk).1)
    have htz1 : w1.cell? ⟨4, 15, none⟩ = some (.int .u8 4) := (hb1.cell hgB).trans htz
    have hB1 : B ≤ w1.heap.size := Nat.le_trans hBw hb1.size
    have hA := appendInt_any B (n + 1) r (by omega) v1 _ w1 hown1 hB1 (by omega) htz1
    go_wp2_with (go_at_call 311; refine hA.mono ?_)
    rintro e w2 ⟨v2, rfl, hown2, hb2, _⟩
    have hB2 : B ≤ w2.heap.size := Nat.le_trans hB1 hb2.size
    go_wp2_with (at_builtin; refine Lib.wpList_append_own_string _ rfl _ _ 181 9 rfl B 5 i0 Tryz.underlying181 Tryz.underlying9 hi hz0 hz1 hz2 _ _ _ rfl hown2 ⟨#[61]⟩ rfl ?d1 ?d2 hB2 ?_)
    case d1 => show n + 1 + _ + 1 ≤ maxLen; unfold maxLen; omega
    case d2 => show n + 1 + _ + 1 ≤ _; omega
    intro v3 w3 hown3 hg3 _
    go_wp2
    go_ret
    refine ⟨v3, rfl, ?_, (hb1.trans hb2).grown hg3 hB2 (fun k hk => (hown2.lt k hk).1)⟩
    rw [Mb.codeOf_hex hp]
    have e1 : n + (61 :: (Mb.hexL r ++ [61])).length = n + 1 + (Mb.hexL r).length + 1 := by
      simp only [List.length_cons, List.length_append, List.length_nil]; omega
    have e2 : xs ++ Lib.byteCells (61 :: (Mb.hexL r ++ [61])) = xs ++ (Lib.strCells ⟨#[61]⟩ ++ (Lib.byteCells (Mb.hexL r) ++ Lib.strCells ⟨#[61]⟩)) := by
      have hs : Lib.strCells ⟨#[61]⟩ = Lib.byteCells [61] := rfl
      rw [hs, ← cells_app, ← cells_app]
      rfl
    rw [e1, e2]
    exact hown3

/-- where Encode's loop stands: what is told so far, and the text that is still to come -/
def CodeAt (l acc r : List UInt8) : Prop := Mb.encL l = acc ++ Mb.encL r
theorem CodeAt.start (l : List UInt8) : CodeAt l [] l := rfl
theorem CodeAt.go {l acc r : List UInt8} (h : CodeAt l acc r) (hr : r ≠ []) : CodeAt l (acc ++ Mb.codeOf (Mb.dec r).1) (r.drop (Mb.dec r).2) := by
  unfold CodeAt at h ⊢
  rw [h, List.append_assoc]
  congr 1
  unfold Mb.encL
  rw [Mb.runes_step r hr, List.flatMap_cons]
theorem CodeAt.last {l acc : List UInt8} (h : CodeAt l acc []) : Mb.encL l = acc := by
  unfold CodeAt at h
  rw [h]
  show acc ++ [] = acc
  simp

theorem dec_le (l : List UInt8) (h : l ≠ []) : (Mb.dec l).1 ≤ 1114111 := by
  by_cases he : (Mb.dec l).1 = 65533
  · rw [he]; omega
  · exact (Mb.enc_dec l h he).2

theorem codeAt_len {l acc r : List UInt8} (h : CodeAt l acc r) (hn : Mb.nameOk l = true) : acc.length ≤ 64 := by
  have h1 := Mb.enc_len l hn
  unfold CodeAt at h
  rw [h, List.length_append] at h1
  omega

/-- string(v), v a row of bytes that the call owns -/
theorem convert_own (W : World) (B : Nat) (v : Value) (acc : List UInt8) (h : W.ownsRow B 5 1 v acc.length (Lib.byteCells acc)) :
    (convert 181 9 v).run Tryz.prog W = .ok (.string ⟨acc.toArray⟩) W := by
  have h' := h
  rcases h.2 with ⟨rfl, hn⟩ | ⟨g, cap, cur, rfl, _⟩
  · have : acc = [] := List.eq_nil_of_length_eq_zero hn
    subst this
    rw [run_convert_bytes_string W _ _ 5 none 0 0 Tryz.underlying181 Tryz.underlying5 Tryz.underlying9]
    simp [Conv.bytesToString]
    rfl
  · refine run_convert_bytes_back W _ _ 5 ⟨g, 0, none⟩ cap acc Tryz.underlying181 Tryz.underlying5 Tryz.underlying9 fun j hj => ?_
    exact h'.cells rfl j _ (by simp [Lib.byteCells, hj])

theorem own_iterAt {W : World} {K : Nat} {v : Value} {n : Nat} {xs : List Value} (h : W.ownsRow (K + 1) 5 1 v n xs) (s : ByteArray) (pos : Nat) : (W.iterAt K s pos).ownsRow (K + 1) 5 1 v n xs := by
  refine ⟨h.1, ?_⟩
  rcases h.2 with hn | ⟨g, cap, cur, hv, hb, hg, rest⟩
  · exact .inl hn
  · exact .inr ⟨g, cap, cur, hv, hb, (Lib.iterAt_other W K g s pos (by omega)).trans hg, rest⟩

set_option maxHeartbeats 8000000 in
set_option maxRecDepth 1000000 in
/-- names.Encode of a name -/
theorem encode_name (s : ByteArray) (w : World) (hn : Mb.nameOk s.data.toList = true)
    (htz : w.cell? ⟨4, 15, none⟩ = some (.int .u8 4)) :
    Calls Tryz.prog 165 #[.string s] w fun e w' => e = .returned (.tuple #[.string ⟨(Mb.encL s.data.toList).toArray⟩, .int .i64 0]) ∧ Below w.heap.size w w' := by
  have hI := isName_any s w
  rw [hn] at hI
  have hgl : 4 < w.heap.size := Lib.lt_of_cell htz
  go_enter Tryz.func165, Tryz.ntmps165
  go_wp2_with (go_at_call 238; refine hI.mono ?_)
  rintro e w1 ⟨rfl, p1, hw1⟩
  have hb1 : Below w.heap.size w w1 := by rw [hw1]; exact (Below.refl _ _).alloc (Nat.le_refl _) _
  clear hw1 hI
  go_wp2
  have hk0 : (w1.iter s 0).heap[w1.heap.size]? = some (.stringIter s 0) := World.iter_heap w1 s 0
  have hb0 : Below w1.heap.size w1 (w1.iter s 0) := (Below.refl _ _).alloc (Nat.le_refl _) _
  have hsz0 : w1.heap.size + 1 ≤ (w1.iter s 0).heap.size := by simp [World.iter]
  have htz0 : (w1.iter s 0).cell? ⟨4, 15, none⟩ = some (.int .u8 4) := ((hb1.trans (hb0.mono hb1.size)).cell hgl).trans htz
  obtain ⟨K, hK⟩ : ∃ K, K = w1.heap.size := ⟨_, rfl⟩
  have hb0' := hb1.trans (hb0.mono hb1.size)
  have hwK : w.heap.size ≤ K := by rw [hK]; exact hb1.size
  rw [← hK] at hk0 hsz0 ⊢
  generalize w1.iter s 0 = W0 at hk0 hsz0 hb0' htz0 ⊢
  clear hb0 hb1 hK htz w1
  go_loopw [4] (fun v wr => ∃ (pos : Nat) (acc : List UInt8), wr.ownsRow (K + 1) 5 1 v acc.length (Lib.byteCells acc) ∧ wr.heap[K]? = some (.stringIter s pos) ∧ Below w.heap.size w wr ∧ K + 1 ≤ wr.heap.size ∧ wr.cell? ⟨4, 15, none⟩ = some (.int .u8 4) ∧ Hid (CodeAt s.data.toList acc (s.data.toList.drop pos))) (fun _ wr => s.size - wr.iterPos K)
  case atStart => exact ⟨0, [], World.ownsRow_nil _ _ _ _, hk0, hb0', hsz0, htz0, CodeAt.start _⟩
  case round =>
    clear hk0 hb0' hsz0 htz0
    obtain ⟨pos, acc, hown, hk, hb, hsz, htz, hh⟩ := hrel
    have hlen := codeAt_len hh.out hn
    by_cases hp : pos < s.size
    · have hnx : ∀ ty, (Instr.next (.pointer (some ⟨K, 0, none⟩)) true ty).run Tryz.prog wr = _ := fun ty => Lib.run_next_any_at wr K s pos ty hk hp
      have hne := drop_ne hp
      have hw := Mb.dec_width (s.data.toList.drop pos)
      have hd := Mb.decode_is s pos
      rw [hd] at hnx
      clear hd
      have HN := Lib.hid (hh.out.go hne)
      rw [List.drop_drop] at HN
      have hrle := dec_le _ hne
      generalize (Mb.dec (s.data.toList.drop pos)).1 = r at hnx HN hrle
      generalize (Mb.dec (s.data.toList.drop pos)).2 = k at hnx HN hw
      have hip : wr.iterPos K = pos := by simp [World.iterPos, hk]
      have hk1 := Lib.iterAt_heap wr K s pos (pos + k) hk
      have hb1 := Lib.below_iterAt hb hwK s (pos + k)
      have hs1 : K + 1 ≤ (wr.iterAt K s (pos + k)).heap.size := by rw [Lib.iterAt_size]; exact hsz
      have hown1 := own_iterAt hown s (pos + k)
      have htz1 : (wr.iterAt K s (pos + k)).cell? ⟨4, 15, none⟩ = some (.int .u8 4) :=
        (World.cell?_of_block (Lib.iterAt_other wr K 4 s (pos + k) (by omega))).trans htz
      generalize wr.iterAt K s (pos + k) = W1 at hnx hk1 hb1 hs1 hown1 htz1
      have hA := appendCode_any (K + 1) acc.length r hrle u4 _ W1 hown1 hs1 (by omega) htz1 (by omega)
      clear hh hk hb hsz hown htz
      go_wp2_with (go_at_call 239; refine hA.mono ?_)
      rintro e W2 ⟨v', rfl, hown2, hb2⟩
      go_wp2
      have hk2 : W2.heap[K]? = some (.stringIter s (pos + k)) := (hb2.block K (by omega)).trans hk1
      have hip2 : W2.iterPos K = pos + k := by simp [World.iterPos, hk2]
      refine ⟨⟨pos + k, acc ++ Mb.codeOf r, ?_, hk2, ?_, Nat.le_trans hs1 hb2.size, (hb2.cell (p := ⟨4, 15, none⟩) (show 4 < K + 1 by omega)).trans htz1, HN⟩, ?_⟩
      · rw [List.length_append, cells_app]; exact hown2
      · exact hb1.trans (hb2.mono (by omega))
      · rw [hip, hip2]; omega
    · have hnx : ∀ ty, (Instr.next (.pointer (some ⟨K, 0, none⟩)) true ty).run Tryz.prog wr = _ := fun ty => Lib.run_next_end_at wr K s pos ty hk hp
      have HN := hh.out
      rw [List.drop_eq_nil_of_le (by rw [← Lib.size_eq]; omega)] at HN
      have HR := Lib.hid HN.last
      have hcv := convert_own wr _ _ _ hown
      clear HN hh
      go_wp2
      go_ret2
      exact ⟨by rw [HR.out]; rfl, hb⟩

set_option maxRecDepth 100000 in
/-- names.Encode of what is no name -/
theorem encode_bad (s : ByteArray) (w : World) (hn : Mb.nameOk s.data.toList = false) :
    Calls Tryz.prog 165 #[.string s] w fun e w' => e = .returned (.tuple #[.string ⟨#[]⟩, .int .i64 2]) ∧ Below w.heap.size w w' := by
  have hI := isName_any s w
  rw [hn] at hI
  go_enter Tryz.func165, Tryz.ntmps165
  go_wp2_with (go_at_call 238; refine hI.mono ?_)
  rintro e w1 ⟨rfl, p1, hw1⟩
  have hb1 : Below w.heap.size w w1 := by rw [hw1]; exact (Below.refl _ _).alloc (Nat.le_refl _) _
  clear hw1 hI
  go_wp2
  go_ret2
  exact ⟨rfl, hb1⟩

end Go.Proofs.YtldgiecjnmkajaaGreatDoor
