/- A list of numbers is what its set lists again just if it rises and lies from 0 to 255. Plain facts. -/
import Derived.Test.YtoopjgajpooehaaDoorRow
import Derived.Test.YtoopjgajpooehaaDoorRem
namespace Go.Proofs.YtoopjgajpooehaaDoor
namespace P
def casts (l : List Nat) : List Int := l.map fun (n : Nat) => (n : Int)
theorem casts_length (l : List Nat) : (casts l).length = l.length := by unfold casts; simp
theorem casts_at (l : List Nat) (j : Nat) (hj : j < l.length) : (casts l).getD j 0 = ((l.getD j 0 : Nat) : Int) := by unfold casts; simp [List.getD, hj]
theorem mem_casts {l : List Nat} {x : Int} : x ∈ casts l ↔ ∃ n ∈ l, (n : Int) = x := by unfold casts; rw [List.mem_map]
/-- Is the number at place k from 0 to 255, and above the one ahead of it? -/
def okAt (zs : List Int) (k : Nat) : Bool := decide (0 ≤ zs.getD k 0) && (decide (zs.getD k 0 ≤ 255) && (k == 0 || decide (zs.getD (k - 1) 0 < zs.getD k 0)))
def fineB (zs : List Int) : Nat → Bool
  | 0 => true
  | k + 1 => fineB zs k && okAt zs k
theorem fine_iff (zs : List Int) : ∀ k, k ≤ zs.length → (fineB zs k = true ↔ (zs.take k).Pairwise (· < ·) ∧ ∀ x ∈ zs.take k, 0 ≤ x ∧ x ≤ 255)
  | 0, _ => by simp [fineB]
  | k + 1, h => by
    have ih := fine_iff zs k (by omega)
    rw [fineB, Bool.and_eq_true, ih, take_snoc zs k (by omega), List.pairwise_append]
    have hl : ∀ x ∈ zs.take k ++ [zs.getD k 0], x ∈ zs.take k ∨ x = zs.getD k 0 := by
      intro x hx
      rcases List.mem_append.1 hx with h1 | h1
      · exact .inl h1
      · exact .inr (by simpa using h1)
    have hlast : 0 < k → zs.take k = zs.take (k - 1) ++ [zs.getD (k - 1) 0] := by
      intro hk
      have := take_snoc zs (k - 1) (by omega)
      rw [show k - 1 + 1 = k by omega] at this
      exact this
    unfold okAt
    simp only [Bool.and_eq_true, decide_eq_true_iff, Bool.or_eq_true, beq_iff_eq]
    constructor
    · rintro ⟨⟨h1, h2⟩, h3, h4, h5⟩
      refine ⟨⟨h1, List.pairwise_singleton _ _, ?_⟩, ?_⟩
      · intro x hx y hy
        obtain rfl : y = zs.getD k 0 := by simpa using hy
        rcases h5 with h5 | h5
        · subst h5; simp at hx
        · rcases Nat.eq_zero_or_pos k with hk | hk
          · subst hk; simp at hx
          · rw [hlast hk] at hx h1
            rcases List.mem_append.1 hx with h6 | h6
            · have := (List.pairwise_append.1 h1).2.2 x h6 (zs.getD (k - 1) 0) (by simp)
              omega
            · obtain rfl : x = zs.getD (k - 1) 0 := by simpa using h6
              exact h5
      · intro x hx
        rcases hl x hx with h6 | h6
        · exact h2 x h6
        · subst h6; exact ⟨h3, h4⟩
    · rintro ⟨⟨h1, _, h2⟩, h3⟩
      have h4 := h3 (zs.getD k 0) (by simp)
      refine ⟨⟨h1, fun x hx => h3 x (List.mem_append_left _ hx)⟩, h4.1, h4.2, ?_⟩
      rcases Nat.eq_zero_or_pos k with hk | hk
      · exact .inl hk
      · right
        refine h2 (zs.getD (k - 1) 0) ?_ _ (by simp)
        rw [hlast hk]
        simp
theorem uniq : ∀ (l r : List Nat), l.Pairwise (· < ·) → r.Pairwise (· < ·) → (∀ j, j ∈ l ↔ j ∈ r) → l = r
  | [], [], _, _, _ => rfl
  | [], y :: r, _, _, h => by have := (h y).2 (by simp); simp at this
  | x :: l, [], _, _, h => by have := (h x).1 (by simp); simp at this
  | x :: l, y :: r, hl, hr, h => by
    obtain ⟨l1, l2⟩ := List.pairwise_cons.1 hl
    obtain ⟨r1, r2⟩ := List.pairwise_cons.1 hr
    have e : x = y := by
      have a := (h x).1 (by simp)
      have b := (h y).2 (by simp)
      rcases List.mem_cons.1 a with a | a
      · exact a
      · rcases List.mem_cons.1 b with b | b
        · exact b.symm
        · have := l1 y b
          have := r1 x a
          omega
    subst e
    congr 1
    apply uniq l r l2 r2
    intro j
    constructor
    · intro hj
      rcases List.mem_cons.1 ((h j).1 (List.mem_cons_of_mem _ hj)) with a | a
      · have := l1 j hj; omega
      · exact a
    · intro hj
      rcases List.mem_cons.1 ((h j).2 (List.mem_cons_of_mem _ hj)) with a | a
      · have := r1 j hj; omega
      · exact a
theorem back_iff (zs : List Int) : decide (casts (lst (ofL zs)) = zs) = fineB zs zs.length := by
  apply Bool.eq_iff_iff.2
  rw [decide_eq_true_iff, fine_iff zs zs.length (Nat.le_refl _), List.take_length]
  constructor
  · intro h
    constructor
    · rw [← h]
      unfold casts
      rw [List.pairwise_map]
      exact (lst_rising _).imp (by intro a b hab; omega)
    · intro x hx
      rw [← h] at hx
      obtain ⟨n, hn, rfl⟩ := mem_casts.1 hx
      have := (mem_lst.1 hn).1
      omega
  · rintro ⟨h1, h2⟩
    have e : casts (zs.map Int.toNat) = zs := by
      unfold casts
      rw [List.map_map]
      conv => rhs; rw [← List.map_id zs]
      apply List.map_congr_left
      intro x hx
      have := h2 x hx
      simp
      omega
    have hp : (zs.map Int.toNat).Pairwise (· < ·) := by
      rw [List.pairwise_map]
      refine List.Pairwise.imp_of_mem ?_ h1
      intro a b ha hb hab
      have := h2 a ha
      have := h2 b hb
      omega
    have hu := uniq (lst (ofL zs)) (zs.map Int.toNat) (lst_rising _) hp (by
      intro j
      rw [mem_lst, List.mem_map]
      constructor
      · rintro ⟨hj, hg⟩
        rw [getLsbD_ofL _ _ hj] at hg
        exact ⟨(j : Int), of_decide_eq_true hg, by simp⟩
      · rintro ⟨x, hx, rfl⟩
        have := h2 x hx
        refine ⟨by omega, ?_⟩
        rw [getLsbD_ofL _ _ (by omega), Int.toNat_of_nonneg this.1]
        exact decide_eq_true hx)
    rw [hu, e]
theorem ofL_lst (s : BitVec 256) : ofL (casts (lst s)) = s := by
  apply BitVec.eq_of_getLsbD_eq
  intro i hi
  rw [getLsbD_ofL _ _ hi]
  apply Bool.eq_iff_iff.2
  rw [decide_eq_true_iff, mem_casts]
  constructor
  · rintro ⟨n, hn, e⟩
    obtain rfl : n = i := by omega
    exact (mem_lst.1 hn).2
  · intro h
    exact ⟨i, mem_lst.2 ⟨hi, h⟩, rfl⟩
end P
namespace W
theorem ints_of_lists {w' : World} {v : Value} {base : Nat} {l : List Nat} (h : w'.ownsRow base 3 1 v l.length (P.vals l)) : Ints w' v (P.casts l) := by
  have hle : l.length ≤ maxLen := by
    rcases h.2 with ⟨_, h0⟩ | ⟨g, cap, cur, _, _, _, h1, h2, _⟩
    · rw [h0]; decide
    · omega
  have hf : ∃ (a : Option Addr) (cap : Nat), v = .slice a l.length cap ∧ (l.length = 0 ∨ ∃ g, a = some ⟨g, 0, none⟩ ∧ g < w'.heap.size ∧ ∀ j, j < l.length → w'.cell? ⟨g, j, none⟩ = some (.int .i64 ((l.getD j 0 : Nat) : Int))) := by
    rcases h.2 with ⟨h1, h0⟩ | ⟨g, cap, cur, h1, _⟩
    · exact ⟨none, 0, by rw [h1, h0], .inl h0⟩
    · subst h1
      refine ⟨some ⟨g, 0, none⟩, cap, rfl, .inr ⟨g, rfl, (h.lt g rfl).2, fun j hj => ?_⟩⟩
      rw [h.cellAt j (by omega)]
      unfold P.vals
      simp [List.getD, hj]
  obtain ⟨a, cap, hv, h2⟩ := hf
  refine ⟨a, cap, by rw [P.casts_length]; exact hv, by rw [P.casts_length]; exact hle, ?_⟩
  rw [P.casts_length]
  rcases h2 with h2 | ⟨g, rfl, hg, hc⟩
  · exact .inl h2
  · refine .inr ⟨g, 0, rfl, hg, fun j hj => ?_⟩
    rw [Nat.zero_add, hc j hj, P.casts_at l j hj]
end W
end Go.Proofs.YtoopjgajpooehaaDoor
