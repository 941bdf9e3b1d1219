/- The positions of a set, gone through one by one: plain facts. -/
import Derived.Test.YtpfponiidppldaaDoorPart
import Derived.Test.YtpfponiidppldaaDoorMoves
namespace Go.Proofs.YtpfponiidppldaaDoor
namespace P
/-- The numbers of a set below k. -/
def pre2 (s : BitVec 256) (k : Nat) : List Nat := (List.range k).filter (fun i => s.getLsbD i)
theorem pre2_succ (s : BitVec 256) (k : Nat) : pre2 s (k + 1) = if s.getLsbD k = true then pre2 s k ++ [k] else pre2 s k := by
  unfold pre2
  rw [List.range_succ, List.filter_append]
  by_cases h : s.getLsbD k = true
  · rw [if_pos h]; simp [h]
  · rw [if_neg h]; simp [h]
theorem pre2_len (s : BitVec 256) (k : Nat) : (pre2 s k).length ≤ k := by
  unfold pre2
  refine Nat.le_trans (List.length_filter_le _ _) ?_
  simp
theorem pre2_mem (s : BitVec 256) (k j : Nat) : j ∈ pre2 s k ↔ j < k ∧ s.getLsbD j = true := by
  unfold pre2
  simp
/-- The number that a position has in the part. -/
def nowOf (s : BitVec 256) (j : Nat) : Int := if s.getLsbD j = true then ((pre2 s j).length : Int) else -1
def nowTo (s : BitVec 256) (n k : Nat) : List Value := (List.range n).map fun j => .int .i64 (if j < k then nowOf s j else 0)
theorem nowTo_zero (s : BitVec 256) (n : Nat) : nowTo s n 0 = List.replicate n (.int .i64 0) := by
  unfold nowTo
  apply List.ext_getElem?
  intro i
  by_cases h : i < n
  · simp [h]
  · simp [h]
theorem nowTo_set (s : BitVec 256) (n k : Nat) : (nowTo s n k).set k (.int .i64 (nowOf s k)) = nowTo s n (k + 1) := by
  unfold nowTo
  apply List.ext_getElem?
  intro i
  rw [List.getElem?_set]
  by_cases e : k = i
  · subst e
    rw [if_pos rfl]
    by_cases h : k < n
    · simp [h]
    · simp [h]
  · rw [if_neg e]
    by_cases h : i < n
    · simp [h]
      by_cases h2 : i < k
      · rw [if_pos h2, if_pos (by omega)]
      · rw [if_neg h2, if_neg (by omega)]
    · simp [h]
theorem nowTo_no (s : BitVec 256) (n k : Nat) (h : s.getLsbD k = false) : (nowTo s n k).set k (.int .i64 (-1)) = nowTo s n (k + 1) := by
  have := nowTo_set s n k
  unfold nowOf at this
  rw [if_neg (by rw [h]; decide)] at this
  exact this
theorem nowTo_yes (s : BitVec 256) (n k : Nat) (h : s.getLsbD k = true) (u : Value) : ((nowTo s n k).set k u).set k (.int .i64 ((pre2 s k).length : Int)) = nowTo s n (k + 1) := by
  rw [List.set_set]
  have := nowTo_set s n k
  unfold nowOf at this
  rw [if_pos h] at this
  exact this
theorem nowTo_len (s : BitVec 256) (n k : Nat) : (nowTo s n k).length = n := by unfold nowTo; simp
theorem nowTo_at (s : BitVec 256) (n j : Nat) (h : j < n) : (nowTo s n n)[j]? = some (.int .i64 (nowOf s j)) := by
  unfold nowTo
  simp [h]
theorem idx_pre2 (s : BitVec 256) (j : Nat) (h : s.getLsbD j = true) : ∀ n, j < n → (pre2 s n).idxOf j = (pre2 s j).length := by
  intro n
  induction n with
  | zero => intro h; omega
  | succ n ih =>
    intro hj
    rw [pre2_succ]
    by_cases e : j = n
    · subst e
      rw [if_pos h, List.idxOf_append, if_neg (by rw [pre2_mem]; omega)]
      simp
    · have hj' : j < n := by omega
      by_cases hb : s.getLsbD n = true
      · rw [if_pos hb, List.idxOf_append, if_pos ((pre2_mem s n j).2 ⟨hj', h⟩)]
        exact ih hj'
      · rw [if_neg hb]
        exact ih hj'
theorem old_pre2 (g : G) (s : BitVec 256) (h : g.owner.length ≤ 256) : g.old s = pre2 s g.owner.length := by
  unfold G.old lst pre2
  generalize g.owner.length = n at h
  have key : ∀ m, n ≤ m → m ≤ 256 → (List.range m).filter (fun i => (s &&& full (n : Int)).getLsbD i) = (List.range n).filter (fun i => s.getLsbD i) := by
    intro m
    induction m with
    | zero =>
      intro h1 _
      obtain rfl : n = 0 := by omega
      rfl
    | succ m ih =>
      intro h1 h2
      by_cases e : n = m + 1
      · subst e
        apply List.filter_congr
        intro i hi
        have hi' : i < m + 1 := by simpa using hi
        rw [BitVec.getLsbD_and, getLsbD_full, decide_eq_true (show i < 256 ∧ (i : Int) < ((m + 1 : Nat) : Int) by omega), Bool.and_true]
      · rw [List.range_succ, List.filter_append, ih (by omega) (by omega)]
        have : (s &&& full (n : Int)).getLsbD m = false := by
          rw [BitVec.getLsbD_and, getLsbD_full, decide_eq_false (by omega), Bool.and_false]
        rw [List.filter_cons_of_neg (by rw [this]; decide), List.filter_nil, List.append_nil]
  exact key 256 h (Nat.le_refl _)
end P
end Go.Proofs.YtpfponiidppldaaDoor
