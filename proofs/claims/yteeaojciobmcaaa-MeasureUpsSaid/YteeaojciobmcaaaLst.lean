/- The numbers of a set, rising: word by word, and bit by bit from the least one on. Plain facts on lists; no program is named. -/
import Derived.Test.YteeaojciobmcaaaPure
import Derived.Test.YteeaojciobmcaaaPop
import Derived.Lib.TrailingZeros
namespace Go.Proofs.Yteeaojciobmcaaa
namespace P

/-- The bits of a word that are set. -/
def bl (x : Nat) : List Nat := (List.range 64).filter (fun j => x.testBit j)
/-- The numbers of a set. -/
def lst (s : BitVec 256) : List Nat := (List.range 256).filter (fun j => s.getLsbD j)
/-- The numbers in word i. -/
def lw (s : BitVec 256) (i : Nat) : List Nat := (bl (s.extractLsb' (64 * i) 64).toNat).map (fun j => 64 * i + j)
/-- The numbers in the first k words. -/
def pre (s : BitVec 256) : Nat → List Nat
  | 0 => []
  | k + 1 => pre s k ++ lw s k

theorem bl_zero : bl 0 = [] := by unfold bl; simp

theorem first_one (p : Nat → Bool) (c : Nat) (hc : p c = true) (hlow : ∀ j, j < c → p j = false) : ∀ n, c < n → (List.range n).filter p = c :: (List.range n).filter (fun j => p j && j != c)
  | 0, h => by omega
  | n + 1, h => by
    rw [List.range_succ, List.filter_append, List.filter_append]
    by_cases e : c = n
    · subst e
      have h1 : (List.range c).filter p = [] := by
        rw [List.filter_eq_nil_iff]
        intro j hj
        rw [hlow j (by simpa using hj)]
        simp
      have h2 : (List.range c).filter (fun j => p j && j != c) = [] := by
        rw [List.filter_eq_nil_iff]
        intro j hj
        rw [hlow j (by simpa using hj)]
        simp
      rw [h1, h2]
      simp [hc]
    · rw [first_one p c hc hlow n (by omega)]
      have h3 : (n != c) = true := by simp; omega
      have h4 : [n].filter p = [n].filter (fun j => p j && j != c) := by
        simp only [List.filter_cons, List.filter_nil, h3, Bool.and_true]
      rw [h4]
      rfl

theorem ctz_form (x : Nat) (h0 : x ≠ 0) (h : x < 2 ^ 64) : ∃ m, x = 2 ^ Lib.ctz 64 x * (2 * m + 1) ∧ Lib.ctz 64 x < 64 := by
  obtain ⟨m, hm, hk⟩ := Lib.ctzFrom_spec 64 x (by omega) h
  have e : Lib.ctz 64 x = Lib.ctzFrom 64 x := by simp [Lib.ctz, h0]
  rw [e]
  exact ⟨m, hm, hk⟩

theorem testBit_odd (c m j : Nat) : (2 ^ c * (2 * m + 1)).testBit j = (if j < c then false else if j = c then true else m.testBit (j - c - 1)) := by
  have := Nat.testBit_two_pow_mul_add (2 * m + 1) (b := 0) (i := c) (Nat.pow_pos (by decide)) j
  rw [Nat.add_zero] at this
  rw [this]
  by_cases h : j < c
  · simp [h]
  · rw [if_neg h, if_neg h]
    by_cases e : j = c
    · subst e
      rw [if_pos rfl, Nat.sub_self]
      simp [Nat.testBit_zero]
    · rw [if_neg e]
      obtain ⟨d, rfl⟩ : ∃ d, j = c + (d + 1) := ⟨j - c - 1, by omega⟩
      rw [show c + (d + 1) - c = d + 1 by omega, show d + 1 - 1 = d by omega, Nat.testBit_succ]
      congr 1
      omega

theorem testBit_odd_pred (c m j : Nat) : (2 ^ c * (2 * m + 1) - 1).testBit j = (if j < c then true else if j = c then false else m.testBit (j - c - 1)) := by
  have hp : 0 < 2 ^ c := Nat.pow_pos (by decide)
  have e : 2 ^ c * (2 * m + 1) - 1 = 2 ^ c * (2 * m) + (2 ^ c - 1) := by
    rw [Nat.mul_add, Nat.mul_one]
    omega
  rw [e, Nat.testBit_two_pow_mul_add _ (by omega)]
  by_cases h : j < c
  · rw [if_pos h, if_pos h, Nat.testBit_two_pow_sub_one]
    simp [h]
  · rw [if_neg h, if_neg h]
    by_cases e : j = c
    · subst e
      rw [if_pos rfl, Nat.sub_self]
      simp [Nat.testBit_zero]
    · rw [if_neg e]
      obtain ⟨d, rfl⟩ : ∃ d, j = c + (d + 1) := ⟨j - c - 1, by omega⟩
      rw [show c + (d + 1) - c = d + 1 by omega, show d + 1 - 1 = d by omega, Nat.testBit_succ]
      congr 1
      omega

theorem bl_step (x : Nat) (h0 : x ≠ 0) (h : x < 2 ^ 64) : bl x = Lib.ctz 64 x :: bl (x &&& (x - 1)) := by
  obtain ⟨m, hm, hc⟩ := ctz_form x h0 h
  have hb : ∀ j, x.testBit j = (if j < Lib.ctz 64 x then false else if j = Lib.ctz 64 x then true else m.testBit (j - Lib.ctz 64 x - 1)) := by
    generalize Lib.ctz 64 x = c at *
    subst hm
    exact testBit_odd c m
  have hb' : ∀ j, (x - 1).testBit j = (if j < Lib.ctz 64 x then true else if j = Lib.ctz 64 x then false else m.testBit (j - Lib.ctz 64 x - 1)) := by
    generalize Lib.ctz 64 x = c at *
    subst hm
    exact testBit_odd_pred c m
  unfold bl
  rw [first_one (fun j => x.testBit j) (Lib.ctz 64 x) (by rw [hb]; simp) (fun j hj => by rw [hb]; simp [hj]) 64 hc]
  congr 1
  apply List.filter_congr
  intro j _
  rw [Nat.testBit_and, hb, hb']
  by_cases h1 : j < Lib.ctz 64 x
  · simp [h1]
  · by_cases h2 : j = Lib.ctz 64 x
    · simp [h2]
    · simp [h1, h2]

theorem bl_length (x : Nat) : (bl x).length ≤ 64 := by
  have := List.length_filter_le (fun j => x.testBit j) (List.range 64)
  unfold bl
  simpa using this

theorem and_pred_lt (x : Nat) (h0 : x ≠ 0) : x &&& (x - 1) < x := by
  have : x &&& (x - 1) ≤ x - 1 := Nat.and_le_right
  omega

theorem lst_pre (s : BitVec 256) : pre s 4 = lst s := by
  have hw : ∀ i, i < 4 → lw s i = ((List.range 64).map (fun j => 64 * i + j)).filter (fun j => s.getLsbD j) := by
    intro i hi
    unfold lw bl
    rw [List.filter_map]
    congr 1
    apply List.filter_congr
    intro j hj
    have hj' : j < 64 := by simpa using hj
    show (s.extractLsb' (64 * i) 64).getLsbD j = _
    rw [BitVec.getLsbD_extractLsb']
    simp [hj']
  have r : List.range 256 = (((List.range 64).map (fun j => 64 * 0 + j) ++ (List.range 64).map (fun j => 64 * 1 + j)) ++ (List.range 64).map (fun j => 64 * 2 + j)) ++ (List.range 64).map (fun j => 64 * 3 + j) := by decide +kernel
  unfold lst
  rw [r]
  simp only [List.filter_append]
  rw [← hw 0 (by decide), ← hw 1 (by decide), ← hw 2 (by decide), ← hw 3 (by decide)]
  simp [pre]

theorem lst_length (s : BitVec 256) : (lst s).length ≤ 256 := by
  have := List.length_filter_le (fun j => s.getLsbD j) (List.range 256)
  unfold lst
  simpa using this
theorem pre_length (s : BitVec 256) (k : Nat) (hk : k ≤ 4) : (pre s k).length ≤ 64 * k := by
  have hl : ∀ i, (lw s i).length ≤ 64 := fun i => by unfold lw; rw [List.length_map]; exact bl_length _
  induction k with
  | zero => simp [pre]
  | succ k ih => have := ih (by omega); have := hl k; simp only [pre, List.length_append]; omega
end P
end Go.Proofs.Yteeaojciobmcaaa
