/- Where a number stands: plain. -/
import Derived.Test.YtpjmboonaciplaaDoorWhere
namespace Go.Proofs.YtpjmboonaciplaaDoor
open Go.RowKit Go.Sort
namespace P
theorem getLsbD_places (n : Int) (zs : List Int) (i : Nat) (hi : i < 256) : ∀ k, (places n zs k).getLsbD i = (decide (i < k) && decide (zs.getD i 0 = n))
  | 0 => by unfold places; simp
  | k + 1 => by
    rw [places_succ]
    by_cases h : zs.getD k 0 = n
    · rw [if_pos h, BitVec.getLsbD_or, getLsbD_places n zs i hi k, getLsbD_bit]
      by_cases e : i = k
      · subst e
        have : ((i : Int) < 256) := by omega
        simp only [List.getD_eq_getElem?_getD] at h
        simp [this, h]
      · have e2 : ¬ (k : Int) = (i : Int) := by omega
        by_cases h1 : i < k
        · have : i < k + 1 := by omega
          simp [e2, h1, this]
        · have : ¬ i < k + 1 := by omega
          simp [e2, h1, this]
    · rw [if_neg h, getLsbD_places n zs i hi k]
      by_cases e : i = k
      · subst e
        simp only [List.getD_eq_getElem?_getD] at h
        simp [h]
      · by_cases h1 : i < k
        · have : i < k + 1 := by omega
          simp [h1, this]
        · have : ¬ i < k + 1 := by omega
          simp [h1, this]
end P
end Go.Proofs.YtpjmboonaciplaaDoor
