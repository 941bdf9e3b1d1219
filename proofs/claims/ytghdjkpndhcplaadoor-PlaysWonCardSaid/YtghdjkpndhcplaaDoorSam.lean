/- Two lists that are the same: the document's answer. Two games that are the same: the document's answer. -/
import Derived.Test.YtghdjkpndhcplaaDoorMoves
import Derived.Lib.QuietBelow
section
namespace Go.Proofs.YtghdjkpndhcplaaDoor
open Go.RowKit
namespace W

theorem below_drewN {B : Nat} {a w : World} (h : Below B a w) (n : Nat) : Below B a (w.drewN n) := h.trans ⟨rfl, rfl, rfl, Nat.le_refl _, fun _ _ => rfl⟩
end W
end Go.Proofs.YtghdjkpndhcplaaDoor
end
section
namespace Go.Proofs.YtghdjkpndhcplaaDoor
open Go.RowKit
namespace W
open Go.Sort (grow)

theorem gext {g h : P.G} (h1 : g.owner = h.owner) (h2 : g.prio = h.prio) (h3 : g.moves = h.moves) : g = h := by cases g; cases h; simp_all
end W
end Go.Proofs.YtghdjkpndhcplaaDoor
end
