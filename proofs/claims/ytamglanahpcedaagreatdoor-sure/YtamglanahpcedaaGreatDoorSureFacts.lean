/-
  OWN TEXT: one of the closed facts of the row of Sure.
  OWN TEXT: one of the closed facts of the row of Sure.
  OWN TEXT: one of the closed facts of the row of Sure.
  OWN TEXT: one of the closed facts of the row of Sure.
-/
import Derived.Test.YtamglanahpcedaaGreatDoorRows
import Derived.ProofKit
import Derived.KernelRfl
namespace Go.Proofs.YtamglanahpcedaaGreatDoor

theorem sure_inPlace : (Rows.sureRow.inPlace == Tryz.pinned.checked.prog.inPlace 3) = true := by kernel_rfl

end Go.Proofs.YtamglanahpcedaaGreatDoor
namespace Go.Proofs.YtamglanahpcedaaGreatDoor

theorem sure_unfollowed : (Rows.sureRow.unfollowed == Tryz.pinned.checked.prog.unfollowed 3) = true := by kernel_rfl

end Go.Proofs.YtamglanahpcedaaGreatDoor
namespace Go.Proofs.YtamglanahpcedaaGreatDoor

theorem sure_recurses : (Rows.sureRow.recurses == Tryz.pinned.checked.prog.recurses 3) = true := by kernel_rfl

end Go.Proofs.YtamglanahpcedaaGreatDoor
namespace Go.Proofs.YtamglanahpcedaaGreatDoor

theorem sure_named : (Rows.sureRow.named == Tryz.pinned.checked.prog.varsNamed 3) = true := by kernel_rfl

end Go.Proofs.YtamglanahpcedaaGreatDoor
