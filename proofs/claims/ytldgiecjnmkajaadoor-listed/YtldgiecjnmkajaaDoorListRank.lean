/-
  OWN TEXT: mailbagkeep.rank (for Listed alone).
-/
import Derived.Test.YtldgiecjnmkajaaDoorListWalkA
namespace Go.Proofs.YtldgiecjnmkajaaDoor
open Go.RowKit

/-- mailbagkeep.rank -/
theorem rank_any (c : UInt8) (w : World) :
    Calls Tryd.prog 17 #[.int .u8 c.toNat] w fun e w' => e = .returned (.int .i64 (Mb.rankOf c)) ∧ w' = w := by
  have key : ∀ k : UInt8, (c = k) ↔ ((c.toNat : Int) = k.toNat) := fun k => ⟨fun h => by rw [h], fun h => UInt8.toNat_inj.1 (by omega)⟩
  have e1 := key 97; have e2 := key 100; have e3 := key 102; have e4 := key 115
  have n1 : ((97 : UInt8).toNat : Int) = 97 := rfl
  have n2 : ((100 : UInt8).toNat : Int) = 100 := rfl
  have n3 : ((102 : UInt8).toNat : Int) = 102 := rfl
  have n4 : ((115 : UInt8).toNat : Int) = 115 := rfl
  rw [n1] at e1; rw [n2] at e2; rw [n3] at e3; rw [n4] at e4
  have hr : Mb.rankOf c = if (c.toNat : Int) = 97 then 0 else if (c.toNat : Int) = 100 then 1 else if (c.toNat : Int) = 102 then 2 else if (c.toNat : Int) = 115 then 3 else -1 := by
    unfold Mb.rankOf; simp only [e1, e2, e3, e4]
  rw [hr]
  clear hr e1 e2 e3 e4 key n1 n2 n3 n4
  generalize (c.toNat : Int) = x
  by_cases h1 : x = 97
  · subst h1
    go_enter Tryd.func17, Tryd.ntmps17
    go_wp2
    go_ret
    exact ⟨rfl, rfl⟩
  · by_cases h2 : x = 100
    · subst h2
      go_enter Tryd.func17, Tryd.ntmps17
      go_wp2
      go_ret
      exact ⟨rfl, rfl⟩
    · by_cases h3 : x = 102
      · subst h3
        go_enter Tryd.func17, Tryd.ntmps17
        go_wp2
        go_ret
        exact ⟨rfl, rfl⟩
      · by_cases h4 : x = 115
        · subst h4
          go_enter Tryd.func17, Tryd.ntmps17
          go_wp2
          go_ret
          exact ⟨rfl, rfl⟩
        · rw [if_neg h1, if_neg h2, if_neg h3, if_neg h4]
          have g1 : (x == 97) = false := by simpa using h1
          have g2 : (x == 100) = false := by simpa using h2
          have g3 : (x == 102) = false := by simpa using h3
          have g4 : (x == 115) = false := by simpa using h4
          clear h1 h2 h3 h4
          go_enter Tryd.func17, Tryd.ntmps17
          go_wp2
          go_ret
          exact ⟨rfl, rfl⟩

end Go.Proofs.YtldgiecjnmkajaaDoor
