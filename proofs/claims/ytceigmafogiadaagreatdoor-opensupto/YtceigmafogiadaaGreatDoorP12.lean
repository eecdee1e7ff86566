import Derived.Test.YtceigmafogiadaaGreatDoorP8
import Derived.Test.YtceigmafogiadaaGreatDoorP7
set_option maxRecDepth 100000
set_option maxHeartbeats 16000000
namespace Go.Proofs.YtceigmafogiadaaGreatDoor
open Go.RowKit Go.Lib Go.MuLone
theorem j8(xs):∀u∈au xs,u.oneCell'=true:=by
 intro u b;unfold au at b;simp only[List.mem_flatMap]at b;obtain⟨x,_,c⟩:=b;simp at c;rcases c with rfl|rfl<;>rfl
end Go.Proofs.YtceigmafogiadaaGreatDoor
