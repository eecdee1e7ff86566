/-
  OWN TEXT: the messages that come in, read off the memory.
  OWN TEXT: Sure, lifted to the form of the rows.
-/
import Derived.Test.YtamglanahpcedaaGreatDoorLaid
import Derived.Test.YtamglanahpcedaaGreatDoorSureC
import Derived.ProofKit
import Derived.Lib.SmallJoins
import Derived.Deep.Slices
import Derived.Deep.Strs
import Derived.ChangeMaps5
import Derived.SevenTiedAt
namespace Go.Proofs.YtamglanahpcedaaGreatDoor
open Go.ChangeShapes Go.WideShapes Go.ChangeAt Go.RowKit Go.Joins Go.ChangeMaps

theorem cPut : Tryz.prog.cellsOf 37 = 3 := by kernel_rfl
theorem cInt : Tryz.prog.cellsOf 3 = 1 := by kernel_rfl
theorem cBool : Tryz.prog.cellsOf 4 = 1 := by kernel_rfl
theorem cInts : Tryz.prog.cellsOf 35 = 1 := by kernel_rfl

theorem list3 {α : Type} {l : List α} (h : l.length = 3) : ∃ a b c, l = [a, b, c] := by
  match l, h with
  | [a, b, c], _ => exact ⟨a, b, c, rfl⟩

section
variable {H : Type} {enc : TypeId × Value → H} {W : World} {base : Nat} {spare : Nat → Bool} {held : Bool}

/-- whole numbers, read -/
theorem ints_of {n : Nat} {v : Value} {x : DataW H × List MemPlace} (h : DataW.trod enc Tryz.prog W base spare held n 35 [v] = some x) :
    ∃ (a : Option Addr) (len cap : Nat), v = .slice a len cap ∧ IntsAt W a len ∧ len ≤ maxLen := by
  rcases Deep.open_slice1 Tryz.underlying35 cInt h with ⟨hc, _⟩ | ⟨a, len, cap, m, n', V, D, Pl, hc, _, hl, hm, hmm, hxx, hx⟩
  · simp only [List.cons.injEq, and_true] at hc
    exact ⟨none, 0, 0, hc, Or.inl rfl, Nat.zero_le _⟩
  · simp only [List.cons.injEq, and_true] at hc
    have hmle : len ≤ m := by rw [hmm]; split <;> omega
    refine ⟨some a, len, cap, hc, ?_, by omega⟩
    by_cases h0 : len = 0
    · exact Or.inl h0
    · right
      obtain ⟨b, off, spot⟩ := a
      have h1 := (hx 0 (by omega)).1
      have hspot : spot = none := by simpa [Addr.add] using World.cell?_spot h1
      subst hspot
      have hb := Lib.lt_of_cell h1
      refine ⟨b, off, rfl, by simpa [Addr.add] using hb, fun i hi => ?_⟩
      obtain ⟨g0, g1⟩ := hx i (by omega)
      obtain ⟨z, e0, _, hz⟩ := DataW.trod_int Tryz.underlying3 g1
      simp only [List.cons.injEq, and_true] at e0
      rw [e0, Lib.add_plain] at g0
      have hmin : IntKind.i64.min = -9223372036854775808 := by decide
      have hmax : IntKind.i64.max = 9223372036854775807 := by decide
      simp [Lit.wf] at hz
      exact ⟨z, g0, by omega, by omega⟩

/-- a message that comes in, read -/
theorem put_of {n : Nat} {cs : List Value} {x : DataW H × List MemPlace} (h : DataW.trod enc Tryz.prog W base spare held n 37 cs = some x) :
    ∃ (tx : ByteArray) (cr : Bool) (pa : Option Addr) (pn pc : Nat), cs = [.string tx, .bool cr, .slice pa pn pc] ∧ IntsAt W pa pn ∧ pn ≤ maxLen ∧ tx.data.toList.length ≤ 9223372036854775807 := by
  obtain ⟨ys, m, _, rfl, hl, hlen, hf⟩ := DataW.trod_struct Tryz.underlying37 h
  rw [cPut] at hl
  obtain ⟨c0, c1, c2, rfl⟩ := list3 hl
  obtain ⟨y0, y1, y2, rfl⟩ := list3 (show ys.length = 3 from hlen)
  have h0 : DataW.trod enc Tryz.prog W base spare held m 9 (([c0, c1, c2].drop 0).take (Tryz.prog.cellsOf 9)) = some y0 := hf 0 _ rfl
  have h1 : DataW.trod enc Tryz.prog W base spare held m 4 (([c0, c1, c2].drop 1).take (Tryz.prog.cellsOf 4)) = some y1 := hf 1 _ rfl
  have h2 : DataW.trod enc Tryz.prog W base spare held m 35 (([c0, c1, c2].drop 2).take (Tryz.prog.cellsOf 35)) = some y2 := hf 2 _ rfl
  rw [cStr] at h0
  rw [cBool] at h1
  rw [cInts] at h2
  simp only [List.drop_zero, List.drop_succ_cons, List.take_succ_cons, List.take_zero] at h0 h1 h2
  obtain ⟨s, e0, _, hs⟩ := DataW.trod_string Tryz.underlying9 h0
  obtain ⟨b, e1, _⟩ := DataW.trod_bool Tryz.underlying4 h1
  obtain ⟨pa, pn, pc, e2, hI, hp⟩ := ints_of h2
  simp only [List.cons.injEq, and_true] at e0 e1
  refine ⟨s, b, pa, pn, pc, by rw [e0, e1, e2], hI, hp, ?_⟩
  rw [Lib.size_eq] at hs
  unfold maxLen at hs
  omega

/-- the messages that come in, read -/
theorem puts_of {n : Nat} {v : Value} {x : DataW H × List MemPlace} (h : DataW.trod enc Tryz.prog W base spare held n 22 [v] = some x) :
    ∃ (a : Option Addr) (len cap : Nat), v = .slice a len cap ∧ PtAt W a len ∧ len ≤ maxLen := by
  rcases Deep.open_slice Tryz.underlying22 h with ⟨hc, _⟩ | ⟨a, len, cap, m, n', D, Pl, hc, _, hl, hm, hmm, hxx, hx⟩
  · simp only [List.cons.injEq, and_true] at hc
    exact ⟨none, 0, 0, hc, Or.inl rfl, Nat.zero_le _⟩
  · simp only [List.cons.injEq, and_true] at hc
    have hmle : len ≤ m := by rw [hmm]; split <;> omega
    refine ⟨some a, len, cap, hc, ?_, by omega⟩
    by_cases h0 : len = 0
    · exact Or.inl h0
    · right
      have hall : ∀ i, i < len → ∃ (tx : ByteArray) (cr : Bool) (pa : Option Addr) (pn pc : Nat), W.cell? (a.add (i * 3)) = some (.string tx) ∧ W.cell? ((a.add (i * 3)).add 1) = some (.bool cr) ∧ W.cell? ((a.add (i * 3)).add 2) = some (.slice pa pn pc) ∧ IntsAt W pa pn ∧ pn ≤ maxLen ∧ tx.data.toList.length ≤ 9223372036854775807 := fun i hi => by
        obtain ⟨cs', h1, h2⟩ := hx i (by omega)
        obtain ⟨tx, cr, pa, pn, pc, rfl, h3⟩ := put_of h2
        rw [cPut] at h1
        obtain ⟨_, _, hcell⟩ := World.cells?_some h1
        refine ⟨tx, cr, pa, pn, pc, ?_, ?_, ?_, h3⟩
        · have := hcell 0 (by simp); simpa [Addr.add] using this
        · simpa using hcell 1 (by simp)
        · simpa using hcell 2 (by simp)
      obtain ⟨b, off, spot⟩ := a
      obtain ⟨_, _, _, _, _, g0, _⟩ := hall 0 (by omega)
      have hspot : spot = none := by simpa [Addr.add] using World.cell?_spot g0
      subst hspot
      have hb := Lib.lt_of_cell g0
      refine ⟨b, off, rfl, by simpa [Addr.add] using hb, fun i hi => ?_⟩
      obtain ⟨tx, cr, pa, pn, pc, g0, g1, g2, g3⟩ := hall i hi
      rw [Lib.add_plain] at g0 g1 g2
      rw [Lib.add_plain] at g1 g2
      exact ⟨tx, cr, pa, pn, pc, g0, g1, g2, g3⟩
end

end Go.Proofs.YtamglanahpcedaaGreatDoor
namespace Go.Proofs.YtamglanahpcedaaGreatDoor
open Go.ChangeShapes Go.WideShapes Go.ChangeAt Go.RowKit Go.Joins Go.ChangeMaps

theorem gTz : Tryz.prog.globalNamed "math/bits.deBruijn64tab" = some 2 := by kernel_rfl
theorem tTz : (Tryz.prog.globals[2]?).map (·.type) = some 261 := by kernel_rfl
theorem cU8 : Tryz.prog.cellsOf 5 = 1 := by kernel_rfl
theorem cArr64 : Tryz.prog.cellsOf 261 = 64 := by kernel_rfl
def tzTab : List Int := [0, 1, 56, 2, 57, 49, 28, 3, 61, 58, 42, 50, 38, 29, 17, 4, 62, 47, 59, 36, 45, 43, 51, 22, 53, 39, 33, 30, 24, 18, 12, 5, 63, 55, 48, 27, 60, 41, 37, 16, 46, 35, 44, 21, 52, 32, 23, 11, 54, 26, 40, 15, 34, 20, 31, 10, 25, 14, 19, 9, 13, 8, 7, 6]

theorem env_all {W : World} (h : laidMet Tryz.prog Rows.sureRow.laid W) (hsh : W.ShapedOpen Tryz.prog) : EnvN W := by
  refine ⟨env_of h hsh, ?_⟩
  have h1 := Lib.tabIs_of_head (zs := tzTab) gTz tTz Tryz.underlying261 Tryz.underlying5 cU8 cArr64 h.tail
  have h2 := World.var?_cell gTz h1 15
  have h3 : (tzTab.map fun z => Value.int .u8 z).toArray[15]? = some (.int .u8 4) := by rfl
  rw [h3] at h2
  exact h2

set_option maxRecDepth 100000 in
theorem sure_lifted (os : Os) (started : os.Started) (H : Type) (enc : TypeId × Value → H) :
    ReturnsInHanded {} Tryz.checked os 3 .any (fun w args => (Rows.sureSpec.pre enc Tryz.prog Tryz.f3 [] false w args ∧ laidMetH Tryz.prog Rows.sureRow.laid w) ∧ sizedMet enc Tryz.prog Tryz.f3 (OpenSpec.ofChange Rows.sureSpec) false w args)
      (Rows.sureSpec.post enc Tryz.prog Tryz.f3 false true false false) := by
  refine returns_laid (C := Tryz.checked) (X := fun w _ => laidMetH Tryz.prog Rows.sureRow.laid w) (fun _ _ _ hh h => h.of_heap hh) own started (by kernel_rfl) Tryz.func3
    (ChangeSpec.witness_shaped (enc := enc) (C := Tryz.checked) (os := os) (X := fun w _ => laidMetH Tryz.prog Rows.sureRow.laid w) false (World.laidAll Tryz.prog os Rows.sureRow.laid) #[.slice none 0 0] 8 (World.laidAll_os _ _ _)
      (World.shaped_of_ZipB (by kernel_rfl) (by kernel_rfl)) (by kernel_rfl) (by kernel_rfl) (by kernel_rfl)
      (by rw [MakeChecks.laidMetH_plain _ _ _ (by kernel_rfl)]; exact laidMet_laidAll _ (by kernel_rfl) (by kernel_rfl))) ?_
  intro W base args ds gs before hval0 hW hL hsh
  have hval : ∀ (j : Nat) t v, Tryz.f3.params[j]? = some t → args[j]? = some v → Value.okWide Tryz.prog W .any base t v := hval0
  have hW' := hW
  obtain ⟨p, q, hA0, hV, rfl, _, _⟩ := hW
  have hA : DataW.TrodAll enc Tryz.prog W 0 (fun _ => true) true Tryz.f3.params.toList args.toList ds p := hA0
  rw [Tryz.params3] at hA hval
  obtain ⟨v0, d0, rfl, rfl, h0⟩ := trodAll_one hA
  obtain ⟨rfl, rfl⟩ := trodVars_none hV
  have h0k := h0
  obtain ⟨fuel, hf⟩ := h0
  obtain ⟨a', l', c', rfl⟩ := okWide_slice Tryz.underlying22 (hval 0 22 v0 rfl rfl)
  obtain ⟨a, len, cap, hv, hsl, hxl⟩ := puts_of (v := .slice a' l' c') hf
  rw [hv] at h0k
  clear hA0 hval0 hf
  simp only [List.append_nil] at hW'
  have hlt : ∀ z ∈ p, z.block < W.heap.size := fun z hz => by simpa using hW'.lt z (by simpa using hz)
  have hL' := hL
  rw [MakeChecks.laidMetH_plain _ _ _ (by kernel_rfl)] at hL'
  have hE := env_all hL' hsh
  rw [hv] at hW' ⊢
  refine (sure_true (cap := cap) hsl hxl hE).mono fun r W' ⟨hr, hb⟩ => ?_
  subst hr
  refine ⟨_, rfl, _, _, _, [], p, [], hW', trodAll_mk1 (shut_bool Tryz.underlying4 _), ?_, rfl, hb.frame _, fun h => by cases h⟩
  have t0 := Below.trod laidOut (by kernel_rfl) (of_decide_eq_true (by kernel_rfl)) h0k hb hlt
  exact trodAll_mk1 t0

end Go.Proofs.YtamglanahpcedaaGreatDoor
