/-
  OWN TEXT: a closed fact of the whole program.
  OWN TEXT: a closed fact of the whole program.
  OWN TEXT: a closed fact of the whole program.
  OWN TEXT: a closed fact of the whole program.
  OWN TEXT: one of the closed facts of the card of Codes.
  OWN TEXT: no function of the program starts a goroutine, so no call does.
-/
import Derived.Test.YtamglanahpcedaaGreatDoorRows
import Derived.ProofKit
import Derived.SevenTiedAt
import Derived.KernelRfl
namespace Go.Proofs.YtamglanahpcedaaGreatDoor

theorem whole_laid : laidOutB Tryz.pinned.checked.prog = true := by kernel_rfl

end Go.Proofs.YtamglanahpcedaaGreatDoor
namespace Go.Proofs.YtamglanahpcedaaGreatDoor

theorem whole_maps : mapsRowed Tryz.pinned.checked.prog = true := by kernel_rfl

end Go.Proofs.YtamglanahpcedaaGreatDoor
namespace Go.Proofs.YtamglanahpcedaaGreatDoor

theorem whole_stops : (Tryz.pinned.checked.prog.stops == []) = true := by kernel_rfl

end Go.Proofs.YtamglanahpcedaaGreatDoor
namespace Go.Proofs.YtamglanahpcedaaGreatDoor

theorem whole_knobs : (Tryz.pinned.checked.prog.stopKnobs == []) = true := by kernel_rfl

end Go.Proofs.YtamglanahpcedaaGreatDoor
namespace Go.Proofs.YtamglanahpcedaaGreatDoor

theorem fact_looks : true = Tryz.pinned.checked.prog.looks [] := by kernel_rfl

end Go.Proofs.YtamglanahpcedaaGreatDoor
namespace Go.Proofs.YtamglanahpcedaaGreatDoor

theorem goes_none {P : Program} (h : P.funcs.any Func.goes = false) (f : FuncId) : P.goes f = false := by
  unfold Program.goes
  rw [h, Bool.and_false, Bool.or_false, Bool.eq_false_iff]
  intro hc
  have hall : ∀ g : Nat, (P.funcs[g]?).any Func.goes = false := by
    intro g
    cases hg : P.funcs[g]? with
    | none => rfl
    | some fn =>
      have hm : fn ∈ P.funcs := Array.mem_of_getElem? hg
      rw [Array.any_eq_false'] at h
      have := h fn hm
      simpa using this
  have hn : (P.closure f).any (fun g => (P.funcs[g]?).any Func.goes) = false := by
    rw [Bool.eq_false_iff]
    intro h2
    simp [hall] at h2
  rw [hn] at hc
  cases hc
theorem goesFrom_gen {P : Program} (h : P.funcs.any Func.goes = false) (s : String) : P.goesFrom s = false := by
  unfold Program.goesFrom
  cases P.funcNamed s with
  | none => rfl
  | some f => exact goes_none h f
theorem goesBy_gen {P : Program} (h : P.funcs.any Func.goes = false) {c : OpenClaim} (hc : c.start = .entering) : false = c.goesBy P := by
  unfold OpenClaim.goesBy Program.goesAt
  rw [hc, goesFrom_gen h]
  rfl
theorem funcs_go : Tryz.prog.funcs.any Func.goes = false := by kernel_rfl

end Go.Proofs.YtamglanahpcedaaGreatDoor
