/- The set of all numbers below n: its list, how many it has, what is in it, what it lies in. Plain facts. -/
import Derived.Test.YtoopjgajpooehaaDoorRem
namespace Go.Proofs.YtoopjgajpooehaaDoor
namespace P
theorem lst_full {n z : Int} (h : full n = full z) (h0 : 0 ≤ z) (h1 : z ≤ 256) : lst (full n) = List.range z.toNat := by
  rw [h]
  obtain ⟨k, rfl⟩ := Int.eq_ofNat_of_zero_le h0
  have hk : k ≤ 256 := by omega
  unfold lst
  have e : List.range 256 = List.range k ++ (List.range (256 - k)).map (fun j => k + j) := by
    rw [← List.range_add]
    congr 1
    omega
  rw [e, List.filter_append]
  have e1 : (List.range k).filter (fun j => (full (k : Int)).getLsbD j) = List.range k := by
    rw [List.filter_eq_self]
    intro j hj
    have : j < k := by simpa using hj
    rw [getLsbD_full]
    simp
    omega
  have e2 : ((List.range (256 - k)).map (fun j => k + j)).filter (fun j => (full (k : Int)).getLsbD j) = [] := by
    rw [List.filter_eq_nil_iff]
    intro j hj
    obtain ⟨i, _, rfl⟩ := List.mem_map.1 hj
    rw [getLsbD_full]
    simp
    omega
  rw [e1, e2]
  simp
theorem len_full {n z : Int} (h : full n = full z) (h0 : 0 ≤ z) (h1 : z ≤ 256) : ((len (full n) : Nat) : Int) = z := by
  rw [len_lst, lst_full h h0 h1, List.length_range]
  omega
theorem has_full {n z m : Int} (h : full n = full z) (h1 : z ≤ 256) (h2 : 0 ≤ m) : has (full n) m = decide (m < z) := by
  rw [h]
  unfold has
  rw [getLsbD_full]
  apply Bool.eq_iff_iff.2
  simp
  omega
theorem in_full {n z m y : Int} (h : full n = full z) (h0 : 0 ≤ z) (h1 : z ≤ 256) (g : full m = full y) (g0 : 0 ≤ y) (g1 : y ≤ 256) : decide (full n ||| full m = full m) = decide (z ≤ y) := by
  rw [h, g]
  apply Bool.eq_iff_iff.2
  simp only [decide_eq_true_iff]
  constructor
  · intro e
    by_cases hz : z ≤ y
    · exact hz
    · have e1 := congrArg (fun x => x.getLsbD y.toNat) e
      simp only [BitVec.getLsbD_or, getLsbD_full] at e1
      simp at e1
      omega
  · intro e
    apply BitVec.eq_of_getLsbD_eq
    intro i hi
    rw [BitVec.getLsbD_or, getLsbD_full, getLsbD_full]
    apply Bool.eq_iff_iff.2
    simp
    omega
theorem drop_range {k n : Nat} (h : k < n) : (List.range n).drop k = k :: (List.range n).drop (k + 1) := by
  rw [List.drop_eq_getElem_cons (by simpa using h)]
  simp
end P
end Go.Proofs.YtoopjgajpooehaaDoor
