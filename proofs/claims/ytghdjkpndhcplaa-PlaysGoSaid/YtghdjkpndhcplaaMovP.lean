/- A right game's moves. Plain. -/
import Derived.Test.YtghdjkpndhcplaaGame
namespace Go.Proofs.Ytghdjkpndhcplaa
namespace P
theorem G.Right.moves_in {g : G} (hr : g.Right) {i : Nat} (hi : i < g.owner.length) : ∀ x ∈ g.moves.getD i [], 0 ≤ x ∧ x < (g.owner.length : Int) := fun x hx => by
  have := rise_bounds (hr.at i hi).2.2.2.2 x hx
  omega
end P
end Go.Proofs.Ytghdjkpndhcplaa
