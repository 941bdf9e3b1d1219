/- What is in the set of all numbers below n, and where it ends; taken from the least one on nothing is left: the walk of the law, in whatever memory. -/
import Derived.Test.YtoopjgajpooehaaDoorTaken
import Derived.Test.YtoopjgajpooehaaDoorFullA
import Derived.Test.YtoopjgajpooehaaDoorFullB
import Derived.Test.YtoopjgajpooehaaDoorFullC
import Derived.Test.YtoopjgajpooehaaDoorFullD
namespace Go.Proofs.YtoopjgajpooehaaDoor
open Go.RowKit Go.Sort
namespace W
theorem fulllaw_any (n m : Int) (w : World) (hT : Tab w) : Calls Tryd.prog 9 #[.int .i64 n, .int .i64 m] w fun e w' => e = .returned (.bool true) ∧ Below w.heap.size w w' := by
  rcases (by omega : n ≤ 0 ∨ (0 < n ∧ n ≤ 256) ∨ 256 < n) with h | h | h
  ·
    rcases (by omega : m < 0 ∨ (0 ≤ m ∧ m ≤ 0) ∨ (0 < m ∧ m ≤ 256) ∨ 256 < m) with g | g | g | g
    · exact full_low_low n m w (Lib.hid hT) h g
    · exact full_low_zero n m w (Lib.hid hT) h g.1 g.2
    · exact full_low_mid n m w (Lib.hid hT) h g.1 g.2
    · exact full_low_top n m w (Lib.hid hT) h g
  ·
    rcases (by omega : m < 0 ∨ (0 ≤ m ∧ m ≤ 0) ∨ (0 < m ∧ m ≤ 256) ∨ 256 < m) with g | g | g | g
    · exact full_mid_low n m w (Lib.hid hT) h.1 h.2 g
    · exact full_mid_zero n m w (Lib.hid hT) h.1 h.2 g.1 g.2
    · exact full_mid_mid n m w (Lib.hid hT) h.1 h.2 g.1 g.2
    · exact full_mid_top n m w (Lib.hid hT) h.1 h.2 g
  ·
    rcases (by omega : m < 0 ∨ (0 ≤ m ∧ m ≤ 0) ∨ (0 < m ∧ m ≤ 256) ∨ 256 < m) with g | g | g | g
    · exact full_top_low n m w (Lib.hid hT) h g
    · exact full_top_zero n m w (Lib.hid hT) h g.1 g.2
    · exact full_top_mid n m w (Lib.hid hT) h g.1 g.2
    · exact full_top_top n m w (Lib.hid hT) h g
end W
end Go.Proofs.YtoopjgajpooehaaDoor
