/-
  OWN TEXT: mailbagref's allowed, plain and runeAt.
-/
import Derived.Test.YtldgiecjnmkajaaGreatDoorEnv
import Derived.Test.YtldgiecjnmkajaaGreatDoorRefMath
namespace Go.Proofs.YtldgiecjnmkajaaGreatDoor
open Go.RowKit Go.Lib

theorem fine_cases (r : Nat) : (Mb.fineRune r = true ∧ 33 ≤ (r : Int) ∧ ¬ (r : Int) = 127 ∧ ¬ (r : Int) = 65533) ∨ (Mb.fineRune r = false ∧ ((r : Int) < 33 ∨ r = 127 ∨ r = 65533)) := by
  unfold Mb.fineRune
  by_cases h : 33 ≤ r ∧ r ≠ 127 ∧ r ≠ 65533
  · left
    refine ⟨by simp; omega, by omega, by omega, by omega⟩
  · right
    refine ⟨?_, by omega⟩
    rw [Bool.eq_false_iff]
    simp
    omega

theorem allowed_any (r : Nat) (w : World) :
    Calls Tryz.prog 167 #[.int .i64 r] w fun e w' => e = .returned (.bool (Mb.fineRune r)) ∧ w' = w := by
  rcases fine_cases r with ⟨hg, h0, h1, h2⟩ | ⟨hg, hx⟩
  · rw [hg]
    clear hg
    go_enter Tryz.func167, Tryz.ntmps167
    go_wp2
    all_goals go_ret
    all_goals first | exact ⟨rfl, rfl⟩ | exact ⟨by simp [h1, h2], rfl⟩ | (exfalso; omega)
  · rw [hg]
    clear hg
    rcases hx with hx | rfl | rfl
    all_goals go_enter Tryz.func167, Tryz.ntmps167
    all_goals go_wp2
    all_goals go_ret
    all_goals exact ⟨rfl, rfl⟩

theorem plain_cases (r : Nat) : (Mb.plainRune r = true ∧ ((97 ≤ (r : Int) ∧ (r : Int) ≤ 122) ∨ (48 ≤ (r : Int) ∧ (r : Int) ≤ 57))) ∨ (Mb.plainRune r = false ∧ (122 < (r : Int) ∨ (57 < (r : Int) ∧ (r : Int) < 97) ∨ (r : Int) < 48)) := by
  unfold Mb.plainRune
  by_cases h : (97 ≤ r ∧ r ≤ 122) ∨ (48 ≤ r ∧ r ≤ 57)
  · left
    refine ⟨by simp; omega, by omega⟩
  · right
    refine ⟨?_, by omega⟩
    rw [Bool.eq_false_iff]
    simp
    omega

theorem plain_any (r : Nat) (w : World) :
    Calls Tryz.prog 168 #[.int .i64 r] w fun e w' => e = .returned (.bool (Mb.plainRune r)) ∧ w' = w := by
  rcases plain_cases r with ⟨hg, hx⟩ | ⟨hg, hx⟩
  · rw [hg]
    clear hg
    rcases hx with ⟨h0, h1⟩ | ⟨h0, h1⟩
    all_goals go_enter Tryz.func168, Tryz.ntmps168
    all_goals go_wp2
    all_goals go_ret
    all_goals exact ⟨rfl, rfl⟩
  · rw [hg]
    clear hg
    rcases hx with h0 | ⟨h0, h1⟩ | h0
    all_goals go_enter Tryz.func168, Tryz.ntmps168
    all_goals go_wp2
    all_goals go_ret
    all_goals first | exact ⟨rfl, rfl⟩ | exact ⟨by simp; omega, rfl⟩

/-- what the table of the least runes holds -/
structure LeastIs (w : World) : Prop where
  c2 : w.cell? ⟨0, 2, none⟩ = some (.int .i64 128)
  c3 : w.cell? ⟨0, 3, none⟩ = some (.int .i64 2048)
  c4 : w.cell? ⟨0, 4, none⟩ = some (.int .i64 65536)
theorem LeastIs.below {w w' : World} {B : Nat} (h : LeastIs w) (hb : Below B w w') (hB : w.heap.size ≤ B) : LeastIs w' := by
  have hl := Lib.lt_of_cell h.c2
  have hlt : 0 < B := by
    have : 0 < w.heap.size := hl
    omega
  exact ⟨(hb.cell hlt).trans h.c2, (hb.cell hlt).trans h.c3, (hb.cell hlt).trans h.c4⟩

theorem bat_at (s : ByteArray) (i k : Nat) (h : i + k < s.size) : Mb.bat (s.data.toList.drop i) k = (s[i + k]).toNat := by
  unfold Mb.bat
  rw [List.getD_eq_getElem?_getD, List.getElem?_drop]
  have := Lib.getD_at s (i + k) h
  rw [List.getD_eq_getElem?_getD] at this
  rw [this]

theorem idx_str (s : ByteArray) (z : Int) (i k : Nat) (hz : z = ((i + k : Nat) : Int)) (hi : i + k < s.size) (w : World) :
    (Instr.index 9 (.string s) (.int .i64 z)).run Tryz.prog w = .ok (.int .u8 (Mb.bat (s.data.toList.drop i) k : Int)) w := by
  subst hz
  rw [run_index_string w 9 s .i64 _ Tryz.underlying9, dif_pos ⟨by omega, by omega⟩]
  have e : ((i + k : Nat) : Int).toNat = i + k := by omega
  simp only [e]
  rw [bat_at s i k hi]

/-- what runeAt gives -/
def RuneO (l : List UInt8) (r k : Nat) : Prop := (r = (Mb.dec l).1 ∧ k = (Mb.dec l).2) ∨ (r = 0 ∧ k = 0 ∧ (Mb.dec l).1 = 65533)

set_option maxHeartbeats 4000000 in
set_option maxRecDepth 100000 in
theorem runeAt_first (s : ByteArray) (i : Nat) (hi : i < s.size) (w : World) (h : Mb.bat (s.data.toList.drop i) 0 < 128 ∨ (128 ≤ Mb.bat (s.data.toList.drop i) 0 ∧ (Mb.bat (s.data.toList.drop i) 0 < 192 ∨ 248 ≤ Mb.bat (s.data.toList.drop i) 0))) :
    Calls Tryz.prog 166 #[.string s, .int .i64 i] w fun e w' => (∃ r k : Nat, e = .returned (.tuple #[.int .i64 r, .int .i64 k]) ∧ RuneO (s.data.toList.drop i) r k) ∧ w' = w := by
  have hX := idx_str s (i : Int) i 0 (by omega) (by omega)
  have HL : Hid ((Mb.bat (s.data.toList.drop i) 0 < 128 → RuneO (s.data.toList.drop i) (Mb.bat (s.data.toList.drop i) 0) 1) ∧ (128 ≤ Mb.bat (s.data.toList.drop i) 0 ∧ (Mb.bat (s.data.toList.drop i) 0 < 192 ∨ 248 ≤ Mb.bat (s.data.toList.drop i) 0) → RuneO (s.data.toList.drop i) 0 0)) :=
    ⟨fun h => Or.inl (by rw [Mb.dec_ascii h]; exact ⟨rfl, rfl⟩), fun h => Or.inr (by rw [Mb.dec_nolead h.1 h.2]; exact ⟨rfl, rfl, rfl⟩)⟩
  have hc : (Mb.bat (s.data.toList.drop i) 0 : Int) < 256 := by have := Mb.bat_lt (s.data.toList.drop i) 0; omega
  generalize Mb.bat (s.data.toList.drop i) 0 = c at hX h HL hc
  rcases h with h | ⟨h1, h2 | h2⟩
  · have HR := Lib.hid (HL.out.1 h)
    have ih : (c : Int) < 128 := by omega
    clear HL h
    go_enter Tryz.func166, Tryz.ntmps166
    go_wp2
    go_ret2
    exact ⟨⟨c, 1, rfl, HR.out⟩, rfl⟩
  · have HR := Lib.hid (HL.out.2 ⟨h1, Or.inl h2⟩)
    have ih : 128 ≤ (c : Int) := by omega
    have ih2 : (c : Int) < 192 := by omega
    clear HL h1 h2
    go_enter Tryz.func166, Tryz.ntmps166
    go_wp2
    go_ret2
    exact ⟨⟨0, 0, rfl, HR.out⟩, rfl⟩
  · have HR := Lib.hid (HL.out.2 ⟨h1, Or.inr h2⟩)
    have ih2 : 248 ≤ (c : Int) := by omega
    clear HL h1 h2
    go_enter Tryz.func166, Tryz.ntmps166
    go_wp2
    go_ret2
    exact ⟨⟨0, 0, rfl, HR.out⟩, rfl⟩

end Go.Proofs.YtldgiecjnmkajaaGreatDoor
