/-
  OWN TEXT: the numbers under which this translation holds the lock's functions and types, and that it holds them.
  OWN TEXT: Server.Deliver.
  OWN TEXT: Store.Files, Server.Files.
-/
import Derived.Test.YtamglanahpcedaaGreatDoorProg
import Derived.Conc.MuLone
import Derived.KernelRfl
import Derived.Test.YtamglanahpcedaaGreatDoorServeM
import Derived.OwnWalk
import Derived.Test.YtamglanahpcedaaGreatDoorFolderFG
import Derived.Test.YtamglanahpcedaaGreatDoorSortBC
import Derived.WalkSpells
namespace Go.Proofs.YtamglanahpcedaaGreatDoor
abbrev muLink : Go.Conc.Locks.MuLink := { lock := 14, unlock := 15, ilock := 27, iunlock := 28, lockSlow := 49, unlockSlow := 52, disable := 45, enable := 47, acquire := 48, relMerge := 50, cas32 := 46, add32 := 51, tMutex := 62, tIMutex := 60, tPMutex := 83, tPIMutex := 119, tPI32 := 121, tUP := 123, tNoCopy := 57, tU32 := 58 }
theorem muLib : Go.Conc.Locks.MuLib Tryz.prog muLink :=
  ⟨Tryz.func14, Tryz.func15, Tryz.func27, Tryz.func28, Tryz.func45, Tryz.func47, Tryz.func48, Tryz.func50, Tryz.func46, Tryz.func51, Tryz.underlying60, Tryz.runUnderlying60, Tryz.sizeOf60, Tryz.isAgg60, Tryz.zeroValue60, Tryz.underlying62, Tryz.runUnderlying62, Tryz.sizeOf62, Tryz.isAgg62, Tryz.zeroValue62, Tryz.underlying83, Tryz.runUnderlying83, Tryz.sizeOf83, Tryz.isAgg83, Tryz.zeroValue83, Tryz.underlying119, Tryz.runUnderlying119, Tryz.sizeOf119, Tryz.isAgg119, Tryz.zeroValue119, Tryz.underlying121, Tryz.runUnderlying121, Tryz.sizeOf121, Tryz.isAgg121, Tryz.zeroValue121, Tryz.underlying123, Tryz.runUnderlying123, Tryz.sizeOf123, Tryz.isAgg123, Tryz.zeroValue123, Tryz.underlying57, Tryz.runUnderlying57, Tryz.sizeOf57, Tryz.isAgg57, Tryz.zeroValue57, Tryz.underlying21, Tryz.runUnderlying21, Tryz.sizeOf21, Tryz.isAgg21, Tryz.zeroValue21, (by kernel_rfl)⟩
end Go.Proofs.YtamglanahpcedaaGreatDoor
namespace Go.Proofs.YtamglanahpcedaaGreatDoor
open Go.RowKit Go.Lib Go.MuLone

/-- where a server lies -/
structure Sv where
  kt : Nat
  kf : Nat
  fr : Nat
  fc : Nat
  mv : Value
  tk : Value
  q : Int
def Sv.foot (s : Sv) (K b : Nat) : Prop := b = K ∨ b = s.kt ∨ b = s.kf ∨ b = s.fr ∨ s.mv.ownBlock = some b
def SvBlk (w : World) (K kt : Nat) (q : Int) (tk : Value) (st : Int) : Prop := w.heap[K]? = some (.cells #[.int .i32 st, .int .u32 q, .pointer (some ⟨kt, 0, none⟩), tk] 66 (0, 0))
theorem SvBlk.cells {w : World} {K kt : Nat} {q : Int} {tk : Value} {st : Int} (h : SvBlk w K kt q tk st) : w.cell? ⟨K, 0, none⟩ = some (.int .i32 st) ∧ w.cell? ⟨K, 2, none⟩ = some (.pointer (some ⟨kt, 0, none⟩)) ∧ (∀ o, w.frozen? ⟨K, o, none⟩ = false) ∧ K < w.heap.size := by
  unfold SvBlk at h
  exact ⟨by simp [World.cell?, h], by simp [World.cell?, h], fun o => by simp [World.frozen?, h], (Array.getElem?_eq_some_iff.1 h).1⟩
theorem SvBlk.set {w : World} {K kt : Nat} {q : Int} {tk : Value} {st : Int} (h : SvBlk w K kt q tk st) (z : Int) : SvBlk (w.setCell ⟨K, 0, none⟩ (.int .i32 z)) K kt q tk z := by
  have := heap_set_in (o := 0) (.int .i32 z) h
  unfold SvBlk
  simpa using this

structure SvAt (B K : Nat) (s : Sv) (ts : List (List UInt8)) (w : World) : Prop where
  srv : SvBlk w K s.kt s.q s.tk 0
  sto : StBlk w s.kt s.fr s.fc
  row : FrBlk w s.fr s.kf
  fol : FoBlk w s.kf Mb.inN Mb.inN 1 ((ts.length + 1 : Nat) : Int) s.mv
  own : OwnM w B s.mv (Mb.msgsOf ts)
  base : B ≤ K ∧ B ≤ s.kt ∧ B ≤ s.kf ∧ B ≤ s.fr
  ne : K ≠ s.kt ∧ K ≠ s.kf ∧ K ≠ s.fr ∧ s.kt ≠ s.kf ∧ s.kt ≠ s.fr ∧ s.kf ≠ s.fr
  mne : s.mv.ownBlock ≠ some K ∧ s.mv.ownBlock ≠ some s.kt ∧ s.mv.ownBlock ≠ some s.kf ∧ s.mv.ownBlock ≠ some s.fr
theorem SvAt.lt {B K : Nat} {s : Sv} {ts : List (List UInt8)} {w : World} (h : SvAt B K s ts w) : ∀ b, s.foot K b → b < w.heap.size := by
  rintro b (rfl | rfl | rfl | rfl | hb)
  · exact h.srv.cells.2.2.2
  · exact h.sto.cells.2.2.2
  · exact h.fol.cells.2.2.2.2.2.2
  · exact h.row.2
  · exact (h.own.lt b hb).2
theorem SvAt.ge {B K : Nat} {s : Sv} {ts : List (List UInt8)} {w : World} (h : SvAt B K s ts w) : ∀ b, s.foot K b → B ≤ b := by
  rintro b (rfl | rfl | rfl | rfl | hb)
  · exact h.base.1
  · exact h.base.2.1
  · exact h.base.2.2.1
  · exact h.base.2.2.2
  · exact (h.own.lt b hb).1
/-- its blocks are as they were -/
theorem SvAt.kept {B K : Nat} {s : Sv} {ts : List (List UInt8)} {w w' : World} (h : SvAt B K s ts w) (hb : ∀ b, s.foot K b → w'.heap[b]? = w.heap[b]?) (hs : w.heap.size ≤ w'.heap.size) : SvAt B K s ts w' :=
  ⟨(hb K (Or.inl rfl)).trans h.srv, (hb _ (Or.inr (Or.inl rfl))).trans h.sto, ⟨(World.cell?_of_block (a := ⟨s.fr, 0, none⟩) (hb _ (Or.inr (Or.inr (Or.inr (Or.inl rfl)))))).trans h.row.1, Nat.lt_of_lt_of_le h.row.2 hs⟩, (hb _ (Or.inr (Or.inr (Or.inl rfl)))).trans h.fol, owns_block (fun b hb2 => hb b (Or.inr (Or.inr (Or.inr (Or.inr hb2))))) h.own, h.base, h.ne, h.mne⟩
/-- what a call on a server leaves -/
structure SvStep (K : Nat) (s s' : Sv) (w w' : World) : Prop where
  os : w'.os = w.os
  tape : w'.tape = w.tape
  output : w'.output = w.output
  size : w.heap.size ≤ w'.heap.size
  block : ∀ b, b < w.heap.size → ¬ s.foot K b → w'.heap[b]? = w.heap[b]?
  foot : ∀ b, s'.foot K b → s.foot K b ∨ w.heap.size ≤ b
theorem SvStep.base {K B : Nat} {s s' : Sv} {ts : List (List UInt8)} {w w' : World} (h : SvStep K s s' w w') (ha : SvAt B K s ts w) (hB : B ≤ w.heap.size) : Below B w w' :=
  ⟨h.os, h.tape, h.output, h.size, fun b hb => h.block b (by omega) (fun hf => by have := ha.ge b hf; omega)⟩

set_option maxRecDepth 100000 in
set_option maxHeartbeats 2000000 in
theorem deliver_ok {B K : Nat} {s : Sv} {ts : List (List UInt8)} {w : World} (h : SvAt B K s ts w) (hB : B ≤ w.heap.size) (hE : ∀ w', Below B w w' → Env w') (tx : ByteArray) (hl : tx.data.toList.length ≤ 40) (hn : ts.length < 8) :
    Calls Tryz.prog 7 #[.pointer (some ⟨K, 0, none⟩), .string Mb.inN, .string tx] w fun e w' => (∃ va, e = .returned (.tuple #[.int .i64 ((ts.length + 1 : Nat) : Int), va, .int .i64 0]) ∧ OwnA w' w.heap.size va (Mb.putActs ([105, 110, 47] ++ Lib.itoa ((ts.length + 1 : Nat) : Int) ++ [46]) tx.data.toList ++ Mb.putActs [105, 110, 47, 108, 105, 115, 116] (Mb.listT (ts.length + 1)))) ∧
      ∃ s', SvAt B K s' (ts ++ [tx.data.toList]) w' ∧ SvStep K s s' w w' := by
  obtain ⟨c0, c2, cf, hKw⟩ := h.srv.cells
  have cf0 := cf 0
  obtain ⟨n1, n2, n3, n4, n5, n6⟩ := h.ne
  obtain ⟨m1, m2, m3, m4⟩ := h.mne
  have hfar : ∀ b, b ≠ K → (w.setCell ⟨K, 0, none⟩ (.int .i32 1)).heap[b]? = w.heap[b]? := fun b hb => Below.heap_setCell _ _ _ _ hb
  have hb1 : Below B w (w.setCell ⟨K, 0, none⟩ (.int .i32 1)) := (Below.refl _ _).setCell h.base.1 _
  have gA := storeAdd_ok (w := w.setCell ⟨K, 0, none⟩ (.int .i32 1)) (B := B) (T := s.kt) (fr := s.fr) (fc := s.fc) (kf := s.kf) (v := s.mv) (ts := ts) ((hfar _ (Ne.symm n1)).trans h.sto) ⟨(World.cell?_of_block (a := ⟨s.fr, 0, none⟩) (hfar _ (Ne.symm n3))).trans h.row.1, by simpa using h.row.2⟩ ((hfar _ (Ne.symm n2)).trans h.fol) (owns_block (fun b hb => hfar b (fun e => m1 (by rw [hb, e]))) h.own) (by simpa using hB) h.base.2.2.1 (fun w' hw' => hE w' (hb1.trans hw')) m3 tx hl hn
  have hsv1 := h.srv.set 1
  have k2 : (w.setCell ⟨K, 0, none⟩ (.int .i32 1)).cell? ⟨K, 2, none⟩ = some (.pointer (some ⟨s.kt, 0, none⟩)) := hsv1.cells.2.1
  have Hh := Lib.hid h
  have HS1 := Lib.hid hsv1
  clear h hE hfar hb1 hsv1 cf
  generalize hnm : Mb.inN = nm at *
  have Hnm := Lib.hid hnm
  clear hnm
  go_enter_defers Tryz.func7, Tryz.ntmps7
  go_wp2_with (first | (go_at_call 14; refine (lock_free muLib ⟨K, 0, none⟩ _ c0 cf0).mono ?_; rintro e w' ⟨rfl, rfl⟩) | (go_at_call 16; refine gA.mono ?_; rintro e w2 ⟨⟨va, rfl, hA⟩, hrest⟩; have HA := Lib.hid hA; have HR := Lib.hid hrest; clear hA hrest gA))
  obtain ⟨g, cap, hF2, hO2, hg2, hb2⟩ := HR.out
  have hsv2 : SvBlk w2 K s.kt s.q s.tk 1 := (hb2.block K (by simpa using hKw) n2 m1).trans HS1.out
  refine leaves_cons (f := 15) (args := #[.pointer (some ⟨K, 0, none⟩)]) (by simp) (by simp [go_sem]) ?_
  refine (unlock_deferred muLib ⟨K, 0, none⟩ .returning _ hsv2.cells.1 (hsv2.cells.2.2.1 0)).mono ?_
  rintro e u' w'' ⟨rfl, rfl, rfl⟩
  have hcell : ∀ b, b ≠ K → (w2.setCell ⟨K, 0, none⟩ (.int .i32 0)).heap[b]? = w2.heap[b]? := fun b hb => Below.heap_setCell _ _ _ _ hb
  have hold : ∀ b, b < w.heap.size → b ≠ K → b ≠ s.kf → s.mv.ownBlock ≠ some b → (w2.setCell ⟨K, 0, none⟩ (.int .i32 0)).heap[b]? = w.heap[b]? := fun b h1 h2 h3 h4 => (hcell b h2).trans ((hb2.block b (by simpa using h1) h3 h4).trans (Below.heap_setCell _ _ _ _ h2))
  have hs2 : w.heap.size ≤ w2.heap.size := by simpa using hb2.size
  have hgne : g ≠ K ∧ g ≠ s.kt ∧ g ≠ s.kf ∧ g ≠ s.fr := by
    rcases hg2 with h1 | h1
    · exact ⟨fun e => m1 (by rw [h1, e]), fun e => m2 (by rw [h1, e]), fun e => m3 (by rw [h1, e]), fun e => m4 (by rw [h1, e])⟩
    · have h2 : w.heap.size ≤ g := by simpa using h1
      have h3 := Hh.out.lt s.kt (Or.inr (Or.inl rfl))
      have h4 := Hh.out.lt s.kf (Or.inr (Or.inr (Or.inl rfl)))
      have h5 := Hh.out.lt s.fr (Or.inr (Or.inr (Or.inr (Or.inl rfl))))
      exact ⟨by omega, by omega, by omega, by omega⟩
  refine ⟨_, results_tmp3 rfl _ _ _, ⟨va, rfl, ?_⟩, { s with mv := .slice (some ⟨g, 0, none⟩) (ts.length + 1) cap }, ⟨?_, ?_, ?_, ?_, ?_, Hh.out.base, Hh.out.ne, ?_⟩, ⟨?_, ?_, ?_, by simpa using hs2, ?_, ?_⟩⟩
  · have h1 := HA.out
    have e1 : (w.setCell ⟨K, 0, none⟩ (.int .i32 1)).heap.size = w.heap.size := by simp
    rw [e1] at h1
    exact owns_block (fun b hb => hcell b (fun e => by have := (h1.lt b hb).1; omega)) h1
  · exact hsv2.set 0
  · exact (hold s.kt (Hh.out.lt _ (Or.inr (Or.inl rfl))) (Ne.symm n1) n4 m2).trans Hh.out.sto
  · exact ⟨(World.cell?_of_block (a := ⟨s.fr, 0, none⟩) (hold s.fr (Hh.out.lt _ (Or.inr (Or.inr (Or.inr (Or.inl rfl))))) (Ne.symm n3) (Ne.symm n6) m4)).trans Hh.out.row.1, by have := Hh.out.row.2; simp; omega⟩
  · have e : (ts ++ [tx.data.toList]).length = ts.length + 1 := by simp
    rw [e]
    rw [← Hnm.out] at hF2
    exact (hcell s.kf (Ne.symm n2)).trans hF2
  · exact owns_block (fun b hb => hcell b (fun e => hgne.1 ((Option.some.inj hb).trans e))) hO2
  · exact ⟨fun e => hgne.1 (Option.some.inj e), fun e => hgne.2.1 (Option.some.inj e), fun e => hgne.2.2.1 (Option.some.inj e), fun e => hgne.2.2.2 (Option.some.inj e)⟩
  · exact ((Below.refl 0 w2).setCell (p := ⟨K, 0, none⟩) (Nat.zero_le _) (.int .i32 0)).os.trans (hb2.os.trans ((Below.refl 0 w).setCell (p := ⟨K, 0, none⟩) (Nat.zero_le _) (.int .i32 1)).os)
  · exact ((Below.refl 0 w2).setCell (p := ⟨K, 0, none⟩) (Nat.zero_le _) (.int .i32 0)).tape.trans (hb2.tape.trans ((Below.refl 0 w).setCell (p := ⟨K, 0, none⟩) (Nat.zero_le _) (.int .i32 1)).tape)
  · exact ((Below.refl 0 w2).setCell (p := ⟨K, 0, none⟩) (Nat.zero_le _) (.int .i32 0)).output.trans (hb2.output.trans ((Below.refl 0 w).setCell (p := ⟨K, 0, none⟩) (Nat.zero_le _) (.int .i32 1)).output)
  · intro b h1 h2
    exact hold b h1 (fun e => h2 (Or.inl e)) (fun e => h2 (Or.inr (Or.inr (Or.inl e)))) (fun e => h2 (Or.inr (Or.inr (Or.inr (Or.inr e)))))
  · rintro b (e | e | e | e | e)
    · exact Or.inl (Or.inl e)
    · exact Or.inl (Or.inr (Or.inl e))
    · exact Or.inl (Or.inr (Or.inr (Or.inl e)))
    · exact Or.inl (Or.inr (Or.inr (Or.inr (Or.inl e))))
    · have e' : g = b := Option.some.inj e
      subst e'
      rcases hg2 with h1 | h1
      · exact Or.inl (Or.inr (Or.inr (Or.inr (Or.inr h1))))
      · right; simpa using h1

theorem SvStep.same {K : Nat} {s : Sv} {w w' : World} (hos : w'.os = w.os) (htape : w'.tape = w.tape) (hout : w'.output = w.output) (hs : w.heap.size ≤ w'.heap.size) (hb : ∀ b, b < w.heap.size → b ≠ K → w'.heap[b]? = w.heap[b]?) : SvStep K s s w w' :=
  ⟨hos, htape, hout, hs, fun b h1 h2 => hb b h1 (fun e => h2 (Or.inl e)), fun _ h => Or.inl h⟩

/-- a refusal -/
theorem deliver_no {B K : Nat} {s : Sv} {ts : List (List UInt8)} {w : World} (h : SvAt B K s ts w) (tx : ByteArray) (z : Int)
    (gA : Calls Tryz.prog 16 #[.pointer (some ⟨s.kt, 0, none⟩), .string Mb.inN, .string ⟨#[]⟩, .string tx] (w.setCell ⟨K, 0, none⟩ (.int .i32 1)) fun e w' => e = .returned (.tuple #[.int .i64 0, .slice none 0 0, .int .i64 z]) ∧ w' = w.setCell ⟨K, 0, none⟩ (.int .i32 1)) :
    Calls Tryz.prog 7 #[.pointer (some ⟨K, 0, none⟩), .string Mb.inN, .string tx] w fun e w' => e = .returned (.tuple #[.int .i64 0, .slice none 0 0, .int .i64 z]) ∧ SvAt B K s ts w' ∧ SvStep K s s w w' := by
  obtain ⟨c0, c2, cf, hKw⟩ := h.srv.cells
  have cf0 := cf 0
  have hsv1 := h.srv.set 1
  have k2 : (w.setCell ⟨K, 0, none⟩ (.int .i32 1)).cell? ⟨K, 2, none⟩ = some (.pointer (some ⟨s.kt, 0, none⟩)) := hsv1.cells.2.1
  have Hh := Lib.hid h
  have HS1 := Lib.hid hsv1
  clear h hsv1 cf
  generalize Mb.inN = nm at *
  go_enter_defers Tryz.func7, Tryz.ntmps7
  go_wp2_with (first | (go_at_call 14; refine (lock_free muLib ⟨K, 0, none⟩ _ c0 cf0).mono ?_; rintro e w' ⟨rfl, rfl⟩) | (go_at_call 16; refine gA.mono ?_; rintro e w2 ⟨rfl, rfl⟩))
  refine leaves_cons (f := 15) (args := #[.pointer (some ⟨K, 0, none⟩)]) (by simp) (by simp [go_sem]) ?_
  refine (unlock_deferred muLib ⟨K, 0, none⟩ .returning _ HS1.out.cells.1 (HS1.out.cells.2.2.1 0)).mono ?_
  rintro e u' w'' ⟨rfl, rfl, rfl⟩
  have hb := ((Below.refl 0 w).setCell (p := ⟨K, 0, none⟩) (Nat.zero_le _) (.int .i32 1)).setCell (p := ⟨K, 0, none⟩) (Nat.zero_le _) (.int .i32 0)
  have hcell : ∀ b, b ≠ K → ((w.setCell ⟨K, 0, none⟩ (.int .i32 1)).setCell ⟨K, 0, none⟩ (.int .i32 0)).heap[b]? = w.heap[b]? := fun b hb => (Below.heap_setCell _ _ _ _ hb).trans (Below.heap_setCell _ _ _ _ hb)
  refine ⟨_, results_tmp3 rfl _ _ _, rfl, ⟨HS1.out.set 0, (hcell _ (Ne.symm Hh.out.ne.1)).trans Hh.out.sto, ⟨(World.cell?_of_block (a := ⟨s.fr, 0, none⟩) (hcell _ (Ne.symm Hh.out.ne.2.2.1))).trans Hh.out.row.1, by simpa using Hh.out.row.2⟩, (hcell _ (Ne.symm Hh.out.ne.2.1)).trans Hh.out.fol, owns_block (fun b hb => hcell b (fun e => Hh.out.mne.1 (by rw [hb, e]))) Hh.out.own, Hh.out.base, Hh.out.ne, Hh.out.mne⟩, SvStep.same hb.os hb.tape hb.output (by simp) (fun b _ h2 => hcell b h2)⟩
theorem deliver_long {B K : Nat} {s : Sv} {ts : List (List UInt8)} {w : World} (h : SvAt B K s ts w) (tx : ByteArray) (hl : 40 < tx.data.toList.length) (hl2 : tx.data.toList.length ≤ 9223372036854775807) :
    Calls Tryz.prog 7 #[.pointer (some ⟨K, 0, none⟩), .string Mb.inN, .string tx] w fun e w' => e = .returned (.tuple #[.int .i64 0, .slice none 0 0, .int .i64 1]) ∧ SvAt B K s ts w' ∧ SvStep K s s w w' :=
  deliver_no h tx 1 (storeAdd_long Mb.inN ⟨#[]⟩ tx hl hl2)
theorem deliver_full {B K : Nat} {s : Sv} {ts : List (List UInt8)} {w : World} (h : SvAt B K s ts w) (tx : ByteArray) (hl : tx.data.toList.length ≤ 40) (hn : ts.length = 8) :
    Calls Tryz.prog 7 #[.pointer (some ⟨K, 0, none⟩), .string Mb.inN, .string tx] w fun e w' => e = .returned (.tuple #[.int .i64 0, .slice none 0 0, .int .i64 7]) ∧ SvAt B K s ts w' ∧ SvStep K s s w w' := by
  obtain ⟨va, vc, hvv, _⟩ := OwnM.form h.own
  rw [Mb.msgsOf_len, hn] at hvv
  have hfar : ∀ b, b ≠ K → (w.setCell ⟨K, 0, none⟩ (.int .i32 1)).heap[b]? = w.heap[b]? := fun b hb => Below.heap_setCell _ _ _ _ hb
  have hfol := h.fol
  rw [hvv] at hfol
  exact deliver_no h tx 7 (storeAdd_full ((hfar _ (Ne.symm h.ne.1)).trans h.sto) ⟨(World.cell?_of_block (a := ⟨s.fr, 0, none⟩) (hfar _ (Ne.symm h.ne.2.2.1))).trans h.row.1, by simpa using h.row.2⟩ ((hfar _ (Ne.symm h.ne.2.1)).trans hfol) ⟨#[]⟩ tx hl)
end Go.Proofs.YtamglanahpcedaaGreatDoor
namespace Go.Proofs.YtamglanahpcedaaGreatDoor
open Go.RowKit Go.Lib Go.MuLone

theorem clone_none (w : World) : Calls Tryz.prog 34 #[.slice none 0 0] w fun e w' => e = .returned (.slice none 0 0) ∧ w' = w := by
  have hnil : (binOp .eql 25 (.slice none 0 0) (.slice none 0 0)).run Tryz.prog w = .ok (.bool true) w := run_eql_slice_nil w 25 48 none 0 0 0 0 Tryz.underlying25
  go_enter Tryz.func34, Tryz.ntmps34
  go_wp2
  go_ret
  exact ⟨rfl, rfl⟩
theorem flCells_one (xs : List Mb.Fl) : ∀ u ∈ flCells xs, u.oneCell' = true := by
  intro u hu
  unfold flCells at hu
  simp only [List.mem_flatMap] at hu
  obtain ⟨x, _, hx⟩ := hu
  simp at hx
  rcases hx with rfl | rfl <;> rfl
theorem ptr_index {g n cap : Nat} {w : World} (hn : 0 < n) : (Instr.indexAt 90 (.slice (some ⟨g, 0, none⟩) n cap) (.int .i64 0)).run Tryz.prog w = .ok (.pointer (some ⟨g, 0, none⟩)) w := by
  go_simp

set_option maxRecDepth 100000 in
set_option maxHeartbeats 4000000 in
theorem sFiles_any {w : World} {B T fr fc kf : Nat} {v : Value} {ts : List (List UInt8)} (h : StBlk w T fr fc) (hf : FrBlk w fr kf) (hk : FoBlk w kf Mb.inN Mb.inN 1 ((ts.length + 1 : Nat) : Int) v) (ho : OwnM w B v (Mb.msgsOf ts)) (hE : Env w) (hn : ts.length ≤ 8) :
    Calls Tryz.prog 19 #[.pointer (some ⟨T, 0, none⟩)] w fun e w' => (∃ v ys, e = .returned v ∧ Mb.Sorts (Mb.fileOfL Mb.inN.data.toList 1 ((ts.length + 1 : Nat) : Int) (Mb.msgsOf ts) :: (Mb.msgsOf ts).map (Mb.fileOfM Mb.inN.data.toList)) ys ∧ OwnF w' w.heap.size v ys) ∧ Below w.heap.size w w' := by
  obtain ⟨c0, c1, c2, hT⟩ := h.cells
  have r0 := hf.1
  obtain ⟨a, cap, hvv, _, hms, _⟩ := OwnM.form ho
  subst hvv
  have gF := fFiles_any hk hms (by rw [Mb.msgsOf_len]; omega) (by decide) hE (by unfold Mb.msgsOf; rw [Mb.msgs_ents]; exact Mb.list_ok ts.length hn) (fun x hx => by
    obtain ⟨i, hi⟩ := List.getElem?_of_mem hx
    have h1 := Mb.msgsFrom_get 1 ts i x hi
    have h2 := (List.getElem?_eq_some_iff.1 h1.2.2.2.2).1
    rw [h1.1, h1.2.2.1, h1.2.2.2.1]
    exact ⟨by simp, by simp, by omega, by omega⟩)
  have hlen : (Mb.fileOfL Mb.inN.data.toList 1 ((ts.length + 1 : Nat) : Int) (Mb.msgsOf ts) :: (Mb.msgsOf ts).map (Mb.fileOfM Mb.inN.data.toList)).length = ts.length + 1 := by simp [Mb.msgsOf_len]
  generalize (Mb.fileOfL Mb.inN.data.toList 1 ((ts.length + 1 : Nat) : Int) (Mb.msgsOf ts) :: (Mb.msgsOf ts).map (Mb.fileOfM Mb.inN.data.toList)) = fs at *
  obtain ⟨i0, hi, hz0, hz1, hz2⟩ := info_parts Tryz.info_file
  have HLEN := Lib.hid hlen
  clear h hf hk ho hE hms hlen
  have hIx : ∀ w, (Instr.indexAt 90 (.slice (some ⟨fr, 0, none⟩) 1 fc) (.int .i64 0)).run Tryz.prog w = .ok (.pointer (some ⟨fr, 0, none⟩)) w := fun w => ptr_index (by decide)
  go_enter Tryz.func19, Tryz.ntmps19
  go_wp2_with (go_at_call 34; refine (clone_none _).mono ?_; rintro e w' ⟨rfl, hw'⟩; subst w')
  go_loopw [3, 30] (fun o i wr => (o = .slice none 0 0 ∧ i = .int .i64 0 ∧ wr = w) ∨ (i = .int .i64 1 ∧ Hid (∃ g cp, o = .slice (some ⟨g, 0, none⟩) (ts.length + 1) cp ∧ OwnF wr w.heap.size (.slice (some ⟨g, 0, none⟩) (ts.length + 1) cp) fs ∧ Below w.heap.size w wr))) (fun _ i _ => 1 - (RowKit.intOf i).toNat)
  case atStart => exact Or.inl ⟨rfl, rfl, rfl⟩
  case round =>
    rcases hrel with ⟨rfl, rfl, hwr⟩ | ⟨rfl, hH⟩
    · subst wr
      go_wp2_with fail
      refine gF.mono ?_
      rintro e w1 ⟨⟨vF, rfl, hOF⟩, hbF⟩
      obtain ⟨g0, cp0, hvF, _, _, _, _⟩ := OwnF.some hOF (by intro e; rw [e] at HLEN; have := HLEN.out; simp at this)
      rw [HLEN.out] at hvF
      subst hvF
      have hraw : w1.ownsRow w.heap.size 48 2 (.slice (some ⟨g0, 0, none⟩) (ts.length + 1) cp0) (ts.length + 1) (flCells fs) := by
        have := hOF; unfold OwnF at this; rwa [HLEN.out] at this
      have HV : Hid ((ts.length + 1 = 0 ∧ Value.slice (some ⟨g0, 0, none⟩) (ts.length + 1) cp0 = .slice none 0 0) ∨ ∃ ad c, Value.slice (some ⟨g0, 0, none⟩) (ts.length + 1) cp0 = .slice (some ad) (ts.length + 1) c ∧ ∀ j u, (flCells fs)[j]? = some u → w1.cell? (ad.add j) = some u) := Or.inr ⟨⟨g0, 0, none⟩, cp0, rfl, hraw.cells (g := g0) rfl⟩
      have hfl : (flCells fs).length = (ts.length + 1) * 2 := by rw [flCells_len, HLEN.out]
      have HBF := Lib.hid hbF
      clear hOF hraw gF hbF
      go_wp2_with (at_builtin; refine wpList_append_new rfl _ (.tmp 36) 25 rfl 48 i0 _ 2 32 Tryz.underlying25 hi hz0 hz1 hz2 rfl (by decide) rfl (.slice (some ⟨g0, 0, none⟩) (ts.length + 1) cp0) rfl (ts.length + 1) (flCells fs) hfl HV.out (flCells_one _) (by unfold maxLen; omega) (by omega) ?_)
      intro ua uc w2 hown2 hgrow2
      have hB2 : Below w.heap.size w w2 := HBF.out.grown hgrow2 HBF.out.size (fun k' hk' => by cases hk')
      have hO2 : OwnF w2 w.heap.size (.slice ua (ts.length + 1) uc) fs := by
        unfold OwnF
        rw [HLEN.out]
        exact owns_base hown2 HBF.out.size
      obtain ⟨g, cp, hv2, _, _, _, _⟩ := OwnF.some hO2 (by intro e; rw [e] at HLEN; have := HLEN.out; simp at this)
      rw [HLEN.out] at hv2
      have HO2 := Lib.hid hO2
      have HB2 := Lib.hid hB2
      have HV2 := Lib.hid hv2
      clear hown2 hgrow2 hO2 hB2 hv2 hfl
      go_wp2_with fail
      refine ⟨Or.inr ⟨rfl, g, cp, HV2.out, ?_, HB2.out⟩, by simp [RowKit.intOf]⟩
      rw [← HV2.out]
      exact HO2.out
    · obtain ⟨g, cp, ho, hO, hB⟩ := hH.out
      subst ho
      have hgge : w.heap.size ≤ g := (hO.lt g rfl).1
      have gS := sortFunc_any hO HLEN.out (by omega) (by omega)
      have HB := Lib.hid hB
      clear hO hB hH
      go_wp2_with (go_at_call 37; refine gS.mono ?_; rintro e w3 ⟨rfl, hh⟩; have HH := Lib.hid hh; clear hh gS)
      go_ret
      obtain ⟨ys, h1, h2, h3⟩ := HH.out
      exact ⟨⟨_, ys, rfl, h1, h2⟩, HB.out.trans (h3.base hgge (fun b hb => by cases hb) HB.out.size)⟩

set_option maxRecDepth 100000 in
theorem files_any {B K : Nat} {s : Sv} {ts : List (List UInt8)} {w : World} (h : SvAt B K s ts w) (hE : ∀ w', Below B w w' → Env w') (hn : ts.length ≤ 8) :
    Calls Tryz.prog 10 #[.pointer (some ⟨K, 0, none⟩)] w fun e w' => (∃ v ys, e = .returned v ∧ Mb.Sorts (Mb.fileOfL Mb.inN.data.toList 1 ((ts.length + 1 : Nat) : Int) (Mb.msgsOf ts) :: (Mb.msgsOf ts).map (Mb.fileOfM Mb.inN.data.toList)) ys ∧ OwnF w' w.heap.size v ys) ∧ SvAt B K s ts w' ∧ SvStep K s s w w' := by
  obtain ⟨c0, c2, cf, hKw⟩ := h.srv.cells
  have cf0 := cf 0
  have hfar : ∀ b, b ≠ K → (w.setCell ⟨K, 0, none⟩ (.int .i32 1)).heap[b]? = w.heap[b]? := fun b hb => Below.heap_setCell _ _ _ _ hb
  have hb1 : Below B w (w.setCell ⟨K, 0, none⟩ (.int .i32 1)) := (Below.refl _ _).setCell h.base.1 _
  have gA := sFiles_any (w := w.setCell ⟨K, 0, none⟩ (.int .i32 1)) (B := B) (T := s.kt) (fr := s.fr) (fc := s.fc) (kf := s.kf) (v := s.mv) (ts := ts) ((hfar _ (Ne.symm h.ne.1)).trans h.sto) ⟨(World.cell?_of_block (a := ⟨s.fr, 0, none⟩) (hfar _ (Ne.symm h.ne.2.2.1))).trans h.row.1, by simpa using h.row.2⟩ ((hfar _ (Ne.symm h.ne.2.1)).trans h.fol) (owns_block (fun b hb => hfar b (fun e => h.mne.1 (by rw [hb, e]))) h.own) (hE _ hb1) hn
  have hsv1 := h.srv.set 1
  have k2 : (w.setCell ⟨K, 0, none⟩ (.int .i32 1)).cell? ⟨K, 2, none⟩ = some (.pointer (some ⟨s.kt, 0, none⟩)) := hsv1.cells.2.1
  have Hh := Lib.hid h
  have HS1 := Lib.hid hsv1
  clear h hsv1 cf hE hfar hb1
  go_enter_defers Tryz.func10, Tryz.ntmps10
  go_wp2_with (first | (go_at_call 14; refine (lock_free muLib ⟨K, 0, none⟩ _ c0 cf0).mono ?_; rintro e w' ⟨rfl, rfl⟩) | (go_at_call 19; refine gA.mono ?_; rintro e w2 ⟨⟨v, ys, rfl, hso, hO⟩, hb⟩; have HSO := Lib.hid hso; have HO := Lib.hid hO; have HB := Lib.hid hb; clear hso hO hb gA))
  have hs1 : (w.setCell ⟨K, 0, none⟩ (.int .i32 1)).heap.size = w.heap.size := by simp
  have hbb := HB.out
  have hOO := HO.out
  rw [hs1] at hbb hOO
  have hsv2 : SvBlk w2 K s.kt s.q s.tk 1 := (hbb.block K hKw).trans HS1.out
  refine leaves_cons (f := 15) (args := #[.pointer (some ⟨K, 0, none⟩)]) (by simp) (by simp [go_sem]) ?_
  refine (unlock_deferred muLib ⟨K, 0, none⟩ .returning _ hsv2.cells.1 (hsv2.cells.2.2.1 0)).mono ?_
  rintro e u' w'' ⟨rfl, rfl, rfl⟩
  have hcell : ∀ b, b < w.heap.size → b ≠ K → (w2.setCell ⟨K, 0, none⟩ (.int .i32 0)).heap[b]? = w.heap[b]? := fun b h1 h2 => (Below.heap_setCell _ _ _ _ h2).trans ((hbb.block b h1).trans (Below.heap_setCell _ _ _ _ h2))
  have hlt := Hh.out.lt
  have hx0 := (Below.refl 0 w2).setCell (p := ⟨K, 0, none⟩) (Nat.zero_le _) (.int .i32 0)
  have hx1 := (Below.refl 0 w).setCell (p := ⟨K, 0, none⟩) (Nat.zero_le _) (.int .i32 1)
  have hsz : w.heap.size ≤ (w2.setCell ⟨K, 0, none⟩ (.int .i32 0)).heap.size := by have := hbb.size; simp at this ⊢; omega
  refine ⟨_, results_tmp rfl _ _ _, ⟨v, ys, rfl, HSO.out, ?_⟩, ⟨hsv2.set 0, (hcell _ (hlt _ (Or.inr (Or.inl rfl))) (Ne.symm Hh.out.ne.1)).trans Hh.out.sto, ⟨(World.cell?_of_block (a := ⟨s.fr, 0, none⟩) (hcell _ Hh.out.row.2 (Ne.symm Hh.out.ne.2.2.1))).trans Hh.out.row.1, Nat.lt_of_lt_of_le Hh.out.row.2 hsz⟩, (hcell _ (hlt _ (Or.inr (Or.inr (Or.inl rfl)))) (Ne.symm Hh.out.ne.2.1)).trans Hh.out.fol, owns_block (fun b hb => hcell b (Hh.out.own.lt b hb).2 (fun e => Hh.out.mne.1 (by rw [hb, e]))) Hh.out.own, Hh.out.base, Hh.out.ne, Hh.out.mne⟩, SvStep.same (hx0.os.trans (hbb.os.trans hx1.os)) (hx0.tape.trans (hbb.tape.trans hx1.tape)) (hx0.output.trans (hbb.output.trans hx1.output)) hsz (fun b h1 h2 => hcell b h1 h2)⟩
  exact owns_block (fun b hb => Below.heap_setCell _ _ _ _ (fun e => by have := (hOO.lt b hb).1; have e' : b = K := e; omega)) hOO
end Go.Proofs.YtamglanahpcedaaGreatDoor
