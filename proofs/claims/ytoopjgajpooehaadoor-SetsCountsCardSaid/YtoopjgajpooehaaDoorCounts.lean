/- How many numbers there are in one of two sets and in both together, with and without a number: the walk of the law, for every two sets and number, in whatever memory. -/
import Derived.Test.YtoopjgajpooehaaDoorCountsA
import Derived.Test.YtoopjgajpooehaaDoorCountsB
import Derived.Test.YtoopjgajpooehaaDoorCountsC
import Derived.Test.YtoopjgajpooehaaDoorCountsD
namespace Go.Proofs.YtoopjgajpooehaaDoor
open Go.RowKit Go.Sort
namespace W

theorem counts_any (a b : BitVec 256) (n : Int) (w : World) (hT : Tab w) : Calls Tryd.prog 7 #[.agg #[.int .u64 (P.wrd a 0), .int .u64 (P.wrd a 1), .int .u64 (P.wrd a 2), .int .u64 (P.wrd a 3)], .agg #[.int .u64 (P.wrd b 0), .int .u64 (P.wrd b 1), .int .u64 (P.wrd b 2), .int .u64 (P.wrd b 3)], .int .i64 n] w fun e w' => e = .returned (.bool true) ∧ Below w.heap.size w w' := by
  by_cases h0 : 0 ≤ n
  · by_cases h1 : n < 256
    · cases hs : P.has a n with
      | true => exact counts_in a b n w (Lib.hid hT) h0 h1 hs
      | false => exact counts_new a b n w (Lib.hid hT) h0 h1 hs
    · exact counts_high a b n w (Lib.hid hT) h0 (by omega)
  · exact counts_low a b n w (Lib.hid hT) (by omega)
end W
end Go.Proofs.YtoopjgajpooehaaDoor
