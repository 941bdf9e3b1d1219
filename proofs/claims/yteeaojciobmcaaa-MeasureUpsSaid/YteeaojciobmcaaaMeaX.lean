/- The example at the head of stage 14's statements. Plain. -/
import Derived.Test.YteeaojciobmcaaaMeaR
namespace Go.Proofs.Yteeaojciobmcaaa
namespace P
def EX14 : G := ⟨[0, 1], [1, 2], [[0, 1], [0]]⟩
def EL14 : List Tup := [⟨false, 1, 0, 0, 0⟩, .zero]
theorem ex14_right : EX14.Right := (G.ok_iff _).1 (by decide +kernel)
theorem ex14_sol : IsSol EX14 EL14 := by
  constructor
  · have h := (zero_low (g := EX14)).lifted ex14_right (i := 0) (by decide)
    have e : (List.replicate EX14.owner.length Tup.zero).set 0 (EX14.choose (List.replicate EX14.owner.length Tup.zero) 0).2 = EL14 := by decide +kernel
    rw [e] at h
    exact h
  · intro i hi
    have hi : i < 2 := hi
    match i, hi with
    | 0, _ => exact (Tup.cmp_le _ _).1 (by decide +kernel)
    | 1, _ => exact (Tup.cmp_le _ _).1 (by decide +kernel)
/-- What lifting the example ends in. -/
theorem ex14_is {l : List Tup} (h : IsSol EX14 l) : l = EL14 := h.unique ex14_sol
theorem ex14_move : EX14.choose EL14 0 = (1, ⟨false, 1, 0, 0, 0⟩) := by decide +kernel
end P
end Go.Proofs.Yteeaojciobmcaaa
