/- A function done to a list, place by place: plain facts, no program. -/
import Derived.Test.YteeaojciobmcaaaGame
namespace Go.Proofs.Yteeaojciobmcaaa
namespace P
/-- A function done to the first k of a list. -/
def upto (f : Int → Int) (l : List Int) (k : Nat) : List Int := (l.take k).map f ++ l.drop k
theorem upto_zero (f : Int → Int) (l : List Int) : upto f l 0 = l := by simp [upto]
theorem upto_all (f : Int → Int) (l : List Int) (k : Nat) (h : l.length ≤ k) : upto f l k = l.map f := by
  unfold upto
  rw [List.take_of_length_le h, List.drop_eq_nil_of_le h, List.append_nil]
theorem upto_length (f : Int → Int) (l : List Int) (k : Nat) : (upto f l k).length = l.length := by
  unfold upto
  simp only [List.length_append, List.length_map, List.length_take, List.length_drop]
  omega
theorem upto_at (f : Int → Int) (l : List Int) (k : Nat) (h : k < l.length) : (upto f l k)[k]? = some (l.getD k 0) := by
  unfold upto
  rw [List.getElem?_append_right (by simp; omega), List.length_map, List.length_take, List.getElem?_drop, List.getD_eq_getElem?_getD]
  rw [show k + (k - min k l.length) = k by omega, List.getElem?_eq_getElem h]
  rfl
theorem upto_set (f : Int → Int) (l : List Int) (k : Nat) (h : k < l.length) : (upto f l k).set k (f (l.getD k 0)) = upto f l (k + 1) := by
  apply List.ext_getElem?
  intro i
  rw [List.getElem?_set]
  by_cases hi : k = i
  · subst hi
    rw [if_pos rfl, if_pos (by rw [upto_length]; exact h)]
    unfold upto
    rw [List.getElem?_append_left (by simp; omega), List.getElem?_map, List.getElem?_take, if_pos (by omega), List.getD_eq_getElem?_getD, List.getElem?_eq_getElem h]
    rfl
  · rw [if_neg hi]
    unfold upto
    by_cases hlt : i < k
    · rw [List.getElem?_append_left (by simp; omega), List.getElem?_append_left (by simp; omega), List.getElem?_map, List.getElem?_map, List.getElem?_take, List.getElem?_take, if_pos hlt, if_pos (by omega)]
    · rw [List.getElem?_append_right (by simp; omega), List.getElem?_append_right (by simp; omega)]
      simp only [List.length_map, List.length_take, List.getElem?_drop]
      congr 1
      omega
def G.half (g : G) (s : Int) (k : Nat) : G := ⟨upto (1 - ·) g.owner k, upto (· + s) g.prio k, g.moves⟩
end P
end Go.Proofs.Yteeaojciobmcaaa
