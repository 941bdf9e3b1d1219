/- Which positions move where, as rows; orders of positions. Plain. -/
import Derived.Test.YteeaojciobmcaaaSolP
import Derived.Test.YteeaojciobmcaaaWalkP
namespace Go.Proofs.Yteeaojciobmcaaa
namespace P
/-- The moves of the positions of a list: pairs (to, from). -/
def pairs (g : G) (O : List Nat) : List (Nat × Nat) := O.flatMap fun x => (g.moves.getD x []).map fun m => (m.toNat, x)
theorem pairs_nil (g : G) : pairs g [] = [] := rfl
theorem pairs_snoc (g : G) (O : List Nat) (x : Nat) : pairs g (O ++ [x]) = pairs g O ++ (g.moves.getD x []).map fun m => (m.toNat, x) := by
  unfold pairs
  rw [List.flatMap_append]
  simp
/-- Rows by where the moves lead. -/
def prv (n : Nat) (ps : List (Nat × Nat)) : List (List Int) := (List.range n).map fun j => (ps.filter fun p => p.1 == j).map fun p => (p.2 : Int)
theorem prv_len (n : Nat) (ps : List (Nat × Nat)) : (prv n ps).length = n := by unfold prv; simp
theorem prv_at {n : Nat} {ps : List (Nat × Nat)} {j : Nat} (hj : j < n) : (prv n ps)[j]? = some ((ps.filter fun p => p.1 == j).map fun p => (p.2 : Int)) := by
  unfold prv
  rw [List.getElem?_map, List.getElem?_range hj]
  rfl
theorem prv_getD {n : Nat} {ps : List (Nat × Nat)} {j : Nat} (hj : j < n) : (prv n ps).getD j [] = (ps.filter fun p => p.1 == j).map fun p => (p.2 : Int) := by
  rw [List.getD_eq_getElem?_getD, prv_at hj]
  rfl
theorem prv_start (n : Nat) : prv n [] = List.replicate n [] := by
  apply List.ext_getElem?
  intro j
  rw [List.getElem?_replicate]
  by_cases hj : j < n
  · rw [if_pos hj, prv_at hj]
    rfl
  · rw [if_neg hj, List.getElem?_eq_none (by rw [prv_len]; omega)]
theorem prv_push (n : Nat) (ps : List (Nat × Nat)) (m x : Nat) (hm : m < n) : prv n (ps ++ [(m, x)]) = (prv n ps).set m ((prv n ps).getD m [] ++ [(x : Int)]) := by
  apply List.ext_getElem?
  intro j
  by_cases hj : j < n
  · rw [prv_at hj, List.getElem?_set, prv_getD hm, prv_at hj, List.filter_append, List.map_append]
    by_cases e : m = j
    · subst e
      rw [if_pos rfl, if_pos (by rw [prv_len]; exact hm)]
      simp
    · rw [if_neg e]
      simp [e]
  · rw [List.getElem?_eq_none (by rw [prv_len]; omega), List.getElem?_eq_none (by rw [List.length_set, prv_len]; omega)]
theorem prv_row_len {n : Nat} {ps : List (Nat × Nat)} {j : Nat} (hj : j < n) : ((prv n ps).getD j []).length ≤ ps.length := by
  rw [prv_getD hj, List.length_map]
  exact List.length_filter_le _ _
theorem prv_mem {g : G} {n : Nat} {O : List Nat} {j : Nat} (hj : j < n) (z : Int) : z ∈ (prv n (pairs g O)).getD j [] ↔ ∃ x ∈ O, (∃ m ∈ g.moves.getD x [], m.toNat = j) ∧ z = x := by
  rw [prv_getD hj]
  simp only [List.mem_map, List.mem_filter, pairs, List.mem_flatMap, beq_iff_eq]
  constructor
  · rintro ⟨p, ⟨⟨x, hx, m, hm, rfl⟩, h2⟩, rfl⟩
    exact ⟨x, hx, ⟨m, hm, h2⟩, rfl⟩
  · rintro ⟨x, hx, ⟨m, hm, h2⟩, rfl⟩
    exact ⟨(m.toNat, x), ⟨⟨x, hx, m, hm, rfl⟩, h2⟩, rfl⟩
theorem pairs_len {g : G} {O : List Nat} (h : ∀ x ∈ O, (g.moves.getD x []).length ≤ 200) : (pairs g O).length ≤ O.length * 200 := by
  induction O with
  | nil => exact Nat.zero_le _
  | cons x O ih =>
    have h1 := h x (List.mem_cons_self ..)
    have h2 := ih fun y hy => h y (List.mem_cons_of_mem _ hy)
    unfold pairs at h2 ⊢
    rw [List.flatMap_cons, List.length_append, List.length_map, List.length_cons]
    omega
/-- An order of all positions. -/
def Order (n : Nat) (O : List Nat) : Prop := O.Nodup ∧ ∀ x, x ∈ O ↔ x < n
theorem nodup_le {O P : List Nat} (h : O.Nodup) (hs : ∀ x ∈ O, x ∈ P) : O.length ≤ P.length := by
  induction O generalizing P with
  | nil => exact Nat.zero_le _
  | cons x O ih =>
    rw [List.nodup_cons] at h
    have hx := hs x (List.mem_cons_self ..)
    have := ih (P := P.erase x) h.2 fun y hy => by
      have hne : y ≠ x := fun e => h.1 (e ▸ hy)
      exact (List.mem_erase_of_ne hne).2 (hs y (List.mem_cons_of_mem _ hy))
    rw [List.length_erase_of_mem hx] at this
    have hp := List.length_pos_of_mem hx
    rw [List.length_cons]
    omega
theorem Order.len {n : Nat} {O : List Nat} (h : Order n O) : O.length = n := by
  have h1 := nodup_le h.1 (P := List.range n) fun x hx => List.mem_range.2 ((h.2 x).1 hx)
  have h2 := nodup_le (List.nodup_range (n := n)) (P := O) fun x hx => (h.2 x).2 (List.mem_range.1 hx)
  rw [List.length_range] at h1 h2
  omega
theorem Order.inj {n : Nat} {O : List Nat} (h : Order n O) {i j : Nat} {x : Nat} (hi : O[i]? = some x) (hj : O[j]? = some x) : i = j := by
  obtain ⟨a, ha⟩ := List.getElem?_eq_some_iff.1 hi
  obtain ⟨b, hb⟩ := List.getElem?_eq_some_iff.1 hj
  exact (List.getElem_inj h.1).1 (ha.trans hb.symm)
end P
end Go.Proofs.Yteeaojciobmcaaa
