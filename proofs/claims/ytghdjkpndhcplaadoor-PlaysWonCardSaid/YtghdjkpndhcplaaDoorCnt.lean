/- How many numbers a set has: the length of its list; what or, and, and-not, and one number more or less make of it; the least number is the list's first. Plain facts. -/
import Derived.Test.YtghdjkpndhcplaaDoorPts
import Derived.Test.YtghdjkpndhcplaaDoorLeaf3
namespace Go.Proofs.YtghdjkpndhcplaaDoor
namespace P

theorem pop_filter : ∀ f x, pop f x = ((List.range f).filter (fun j => x.testBit j)).length
  | 0, _ => rfl
  | f + 1, x => by
    rw [List.range_succ_eq_map, List.filter_cons, List.filter_map, pop, pop_filter f (x / 2)]
    have e : (fun j => x.testBit j) ∘ Nat.succ = fun j => (x / 2).testBit j := by
      funext j
      show x.testBit (j + 1) = _
      rw [Nat.testBit_succ]
    rw [e]
    have e0 : x.testBit 0 = decide (x % 2 = 1) := Nat.testBit_zero x
    rw [e0]
    by_cases h : x % 2 = 1
    · simp [h]; omega
    · have : x % 2 = 0 := by omega
      simp [this]

theorem pw_length (s : BitVec 256) (i : Nat) : pw s i = (lw s i).length := by
  unfold pw lw bl
  rw [pop_filter, List.length_map]

theorem len_lst (s : BitVec 256) : len s = (lst s).length := by
  rw [← lst_pre]
  unfold len
  simp only [pre, List.length_append, List.length_nil, pw_length]
  omega

theorem wrd_zero_iff (s : BitVec 256) (i : Nat) : (wrd s i != 0) = true ↔ (s.extractLsb' (64 * i) 64).toNat ≠ 0 := by
  unfold wrd
  rw [bne_iff_ne]
  omega

theorem lw_nil {s : BitVec 256} {i : Nat} (h : ¬ (wrd s i != 0) = true) : lw s i = [] := by
  have h0 : (s.extractLsb' (64 * i) 64).toNat = 0 := by
    by_cases e : (s.extractLsb' (64 * i) 64).toNat = 0
    · exact e
    · exact absurd ((wrd_zero_iff s i).2 e) h
  unfold lw
  rw [h0, bl_zero, List.map_nil]

theorem lw_cons {s : BitVec 256} {i : Nat} (h : (wrd s i != 0) = true) : ∃ r, lw s i = (64 * i + cw s i) :: r := by
  have h0 := (wrd_zero_iff s i).1 h
  unfold lw cw
  rw [bl_step _ h0 (s.extractLsb' (64 * i) 64).isLt, List.map_cons]
  exact ⟨_, rfl⟩

/-- The first of a list; -1: there is none. -/
def fst : List Nat → Int
  | [] => -1
  | n :: _ => (n : Int)

theorem least_lst (s : BitVec 256) : least s = fst (lst s) := by
  rw [← lst_pre]
  simp only [pre, List.nil_append]
  unfold least
  by_cases h0 : (wrd s 0 != 0) = true
  · obtain ⟨r, e⟩ := lw_cons h0
    rw [if_pos h0, e]
    simp [fst]
  · rw [if_neg h0, lw_nil h0]
    by_cases h1 : (wrd s 1 != 0) = true
    · obtain ⟨r, e⟩ := lw_cons h1
      rw [if_pos h1, e]
      simp [fst]
    · rw [if_neg h1, lw_nil h1]
      by_cases h2 : (wrd s 2 != 0) = true
      · obtain ⟨r, e⟩ := lw_cons h2
        rw [if_pos h2, e]
        simp [fst]
      · rw [if_neg h2, lw_nil h2]
        by_cases h3 : (wrd s 3 != 0) = true
        · obtain ⟨r, e⟩ := lw_cons h3
          rw [if_pos h3, e]
          simp [fst]
        · rw [if_neg h3, lw_nil h3]
          simp [fst]

theorem filter_counts (p q : Nat → Bool) : ∀ l : List Nat, (l.filter fun j => p j || q j).length + (l.filter fun j => p j && q j).length = (l.filter p).length + (l.filter q).length
  | [] => rfl
  | x :: l => by
    have ih := filter_counts p q l
    simp only [List.filter_cons]
    cases p x <;> cases q x <;> simp <;> omega
theorem filter_minus (p q : Nat → Bool) : ∀ l : List Nat, (l.filter fun j => p j && !q j).length + (l.filter fun j => p j && q j).length = (l.filter p).length
  | [] => rfl
  | x :: l => by
    have ih := filter_minus p q l
    simp only [List.filter_cons]
    cases p x <;> cases q x <;> simp <;> omega

theorem len_or_and (s t : BitVec 256) : len (s ||| t) + len (s &&& t) = len s + len t := by
  simp only [len_lst, lst, BitVec.getLsbD_or, BitVec.getLsbD_and]
  exact filter_counts _ _ _
theorem len_minus (s t : BitVec 256) : len (s &&& ~~~t) + len (s &&& t) = len s := by
  simp only [len_lst]
  have e : lst (s &&& ~~~t) = (List.range 256).filter fun j => s.getLsbD j && !t.getLsbD j := by
    unfold lst
    apply List.filter_congr
    intro j hj
    have hj' : j < 256 := by simpa using hj
    simp [hj']
  rw [e]
  simp only [lst, BitVec.getLsbD_and]
  exact filter_minus _ _ _
theorem len_le (s : BitVec 256) : len s ≤ 256 := by rw [len_lst]; exact lst_length s

theorem lst_zero : lst 0#256 = [] := by unfold lst; simp
theorem len_zero : len 0#256 = 0 := by rw [len_lst, lst_zero]; rfl
theorem lst_bit {n : Int} (h0 : 0 ≤ n) (h1 : n < 256) : lst (bit n) = [n.toNat] := by
  unfold lst
  rw [first_one (fun j => (bit n).getLsbD j) n.toNat (by rw [getLsbD_bit]; simp; omega) (fun j hj => by rw [getLsbD_bit]; simp; omega) 256 (by omega)]
  congr 1
  rw [List.filter_eq_nil_iff]
  intro j _
  rw [getLsbD_bit]
  simp
  omega
theorem len_bit {n : Int} (h0 : 0 ≤ n) (h1 : n < 256) : len (bit n) = 1 := by rw [len_lst, lst_bit h0 h1]; rfl

theorem and_bit_has {s : BitVec 256} {n : Int} (h : has s n = true) : s &&& bit n = bit n := by
  apply BitVec.eq_of_getLsbD_eq
  intro i hi
  rw [BitVec.getLsbD_and, getLsbD_bit]
  by_cases e : 0 ≤ n ∧ n < 256 ∧ n = (i : Int)
  · obtain ⟨e0, _, rfl⟩ := e
    unfold has at h
    simp at h
    simp [h, hi]
  · simp [e]
theorem and_bit_hasnt {s : BitVec 256} {n : Int} (h : has s n = false) : s &&& bit n = 0#256 := by
  apply BitVec.eq_of_getLsbD_eq
  intro i hi
  rw [BitVec.getLsbD_and, getLsbD_bit, BitVec.getLsbD_zero]
  by_cases e : 0 ≤ n ∧ n < 256 ∧ n = (i : Int)
  · obtain ⟨e0, _, rfl⟩ := e
    unfold has at h
    simp at h
    simp [h]
  · simp [e]

theorem len_with_has {s : BitVec 256} {n : Int} (h : has s n = true) : len (s ||| bit n) = len s := by
  have := len_or_and s (bit n)
  rw [and_bit_has h] at this
  omega
theorem len_with_new {s : BitVec 256} {n : Int} (h0 : 0 ≤ n) (h1 : n < 256) (h : has s n = false) : len (s ||| bit n) = len s + 1 := by
  have := len_or_and s (bit n)
  rw [and_bit_hasnt h, len_zero, len_bit h0 h1] at this
  omega
theorem len_less_has {s : BitVec 256} {n : Int} (h0 : 0 ≤ n) (h1 : n < 256) (h : has s n = true) : len (s &&& ~~~bit n) + 1 = len s := by
  have := len_minus s (bit n)
  rw [and_bit_has h, len_bit h0 h1] at this
  exact this
theorem len_less_none {s : BitVec 256} {n : Int} (h : has s n = false) : len (s &&& ~~~bit n) = len s := by
  have := len_minus s (bit n)
  rw [and_bit_hasnt h, len_zero] at this
  omega
end P
end Go.Proofs.YtghdjkpndhcplaaDoor
