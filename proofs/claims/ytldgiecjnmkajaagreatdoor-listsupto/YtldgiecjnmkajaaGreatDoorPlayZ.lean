/-
  OWN TEXT: a step of a script; facts on the types of entries and files.
-/
import Derived.Test.YtldgiecjnmkajaaGreatDoorEnv
import Derived.Deep.RegionHeld3
import Derived.Deep.AppendLies
import Derived.Deep.DrawnRows
namespace Go.Proofs.YtldgiecjnmkajaaGreatDoor
open Go.RowKit Go.Lib

/-- a step -/
structure OpT where
  kind : Int
  a : Int
  b : Int
  s : ByteArray
  t : ByteArray

def OpT.val (o : OpT) : Value := .agg #[.int .i64 o.kind, .int .i64 o.a, .int .i64 o.b, .string o.s, .string o.t]

/-- the box that a call makes of a step -/
def boxOf (k a b : Int) (s t : ByteArray) : Obj := .cells #[.int .i64 k, .int .i64 a, .int .i64 b, .string s, .string t] 92

theorem info_entry : (Tryz.prog.info? 221).map (fun i => (i.zero, i.size, i.bytes)) = some (some (.agg #[.int .i64 0, .int .i64 0, .string ByteArray.empty]), 3, 32) := by kernel_rfl
theorem info_file : (Tryz.prog.info? 54).map (fun i => (i.zero, i.size, i.bytes)) = some (some (.agg #[.string ByteArray.empty, .string ByteArray.empty]), 2, 32) := by kernel_rfl

end Go.Proofs.YtldgiecjnmkajaaGreatDoor
