/- A set is taken apart from its least number on: what is left has the rest of the list. Plain facts. -/
import Derived.Test.YtoopjgajpooehaaDoorCnt
namespace Go.Proofs.YtoopjgajpooehaaDoor
namespace P
theorem mem_lst {s : BitVec 256} {j : Nat} : j ∈ lst s ↔ j < 256 ∧ s.getLsbD j = true := by
  unfold lst
  rw [List.mem_filter, List.mem_range]
theorem lst_rising (s : BitVec 256) : (lst s).Pairwise (· < ·) := by
  unfold lst
  exact List.pairwise_lt_range.filter _
theorem lst_least {s : BitVec 256} {n : Nat} {r : List Nat} (h : lst s = n :: r) : s.getLsbD n = true ∧ n < 256 ∧ ∀ j, j < n → s.getLsbD j = false := by
  have hm : n ∈ lst s := by rw [h]; simp
  obtain ⟨h1, h2⟩ := mem_lst.1 hm
  refine ⟨h2, h1, fun j hj => ?_⟩
  cases e : s.getLsbD j with
  | false => rfl
  | true =>
    have hj2 : j ∈ lst s := mem_lst.2 ⟨by omega, e⟩
    have hp := lst_rising s
    rw [h] at hj2 hp
    rcases List.mem_cons.1 hj2 with h3 | h3
    · omega
    · have := (List.pairwise_cons.1 hp).1 j h3
      omega
theorem lst_less {s : BitVec 256} {n : Nat} {r : List Nat} (h : lst s = n :: r) : lst (s &&& ~~~bit (n : Int)) = r := by
  obtain ⟨h1, h2, h3⟩ := lst_least h
  have hf := first_one (fun j => s.getLsbD j) n h1 h3 256 h2
  have e : lst (s &&& ~~~bit (n : Int)) = (List.range 256).filter (fun j => s.getLsbD j && j != n) := by
    unfold lst
    apply List.filter_congr
    intro j hj
    have hj' : j < 256 := by simpa using hj
    rw [BitVec.getLsbD_and, BitVec.getLsbD_not, getLsbD_bit]
    congr 1
    apply Bool.eq_iff_iff.2
    simp
    omega
  have h4 : lst s = n :: (List.range 256).filter (fun j => s.getLsbD j && j != n) := hf
  rw [h] at h4
  rw [e]
  exact (List.cons.inj h4).2.symm
theorem lst_nil {s : BitVec 256} (h : lst s = []) : s = 0#256 := by
  apply BitVec.eq_of_getLsbD_eq
  intro i hi
  rw [BitVec.getLsbD_zero]
  cases e : s.getLsbD i with
  | false => rfl
  | true =>
    have : i ∈ lst s := mem_lst.2 ⟨hi, e⟩
    rw [h] at this
    simp at this
theorem less_in {s t : BitVec 256} (h : t ||| s = s) (n : Int) : (t &&& ~~~bit n) ||| s = s := by
  apply BitVec.eq_of_getLsbD_eq
  intro i hi
  have h1 := congrArg (fun x => x.getLsbD i) h
  simp only [BitVec.getLsbD_or] at h1
  rw [BitVec.getLsbD_or, BitVec.getLsbD_and]
  cases e : t.getLsbD i
  · simp
  · rw [e] at h1
    simp at h1
    rw [h1]
    simp
theorem drop_cons {l : List Nat} {k : Nat} (h : k < l.length) : l.drop k = l.getD k 0 :: l.drop (k + 1) := by
  rw [List.drop_eq_getElem_cons h]
  simp [List.getD, List.getElem?_eq_getElem h]
end P
end Go.Proofs.YtoopjgajpooehaaDoor
