/-
  OWN TEXT: a region that draws its order and whose callees make memory, walked once in the order of the text: the class of worlds is 'all that lay there at the region's begin lies there still' (the library's theorem wp_region_quiet, at that class).
-/
import Derived.WalkKit
import Derived.BigQuiet
import Derived.Deep.QuietTactic
namespace Go.Proofs.YtamglanahpcedaaGreatDoor
open Go.RowKit

/-- a world in which all that lay below B in w0 lies still -/
structure Later (B : Nat) (w0 : World) where
  w : World
  h : Below B w0 w

theorem Later.some (B : Nat) (w0 : World) : Nonempty (Later B w0) := ⟨⟨w0, Below.refl _ _⟩⟩

theorem wp_region_later {P : Program} (B : Nat) {id : Nat} {Q : Exit → Act → World → Prop} {a : Act} {w : World} {l : List Oper} (hm : P.follows .mixedOrders = true) (hB : Region.lexB .any l.toArray = true)
    (h : wpQuiet P l.toArray (fun w' => ∃ z : Later B w, w' = z.w) (fun a' => ∀ w', (∃ z : Later B w, w' = z.w) → Q .normal a' w') l a) : (Code.region id l.toArray true).wp P Q a w :=
  wp_region_quiet (C := fun w' => ∃ z : Later B w, w' = z.w) hm hB ⟨⟨w.drew, (Below.refl _ _).drew⟩, rfl⟩ (by simpa using h)

theorem Later.calls {P : Program} {f : FuncId} {args : Array Value} {B : Nat} {w0 : World} (z : Later B w0) {v : Value} (hB : B ≤ w0.heap.size)
    (h : Calls P f args z.w fun e w' => e = .returned v ∧ Below z.w.heap.size z.w w') : Calls P f args z.w fun e w'' => e = .returned v ∧ ∃ z' : Later B w0, w'' = z'.w :=
  h.mono fun _ w' ⟨he, hb⟩ => ⟨he, ⟨w', z.h.trans (hb.mono (Nat.le_trans hB z.h.size))⟩, rfl⟩
theorem Later.calls_same {P : Program} {f : FuncId} {args : Array Value} {B : Nat} {w0 : World} (z : Later B w0) {v : Value}
    (h : Calls P f args z.w fun e w' => e = .returned v ∧ w' = z.w) : Calls P f args z.w fun e w'' => e = .returned v ∧ ∃ z' : Later B w0, w'' = z'.w :=
  h.mono fun _ _ ⟨he, hb⟩ => ⟨he, z, hb⟩

end Go.Proofs.YtamglanahpcedaaGreatDoor
