/- The games of GameLimits: as many positions as there may be, one of them turned: plain. -/
import Derived.Test.YtlbikfimfaecnaaDoorGame
namespace Go.Proofs.YtlbikfimfaecnaaDoor
namespace P
/-- The first k positions of the game that the statement builds. -/
def lim (n k : Nat) : G := ⟨(List.range k).map fun i => ((i % 2 : Nat) : Int), (List.range k).map fun i => ((i % 8 : Nat) : Int), (List.range k).map fun i => [((i * 7 % n : Nat) : Int)]⟩
theorem lim_succ (n k : Nat) : lim n (k + 1) = ⟨(lim n k).owner ++ [((k % 2 : Nat) : Int)], (lim n k).prio ++ [((k % 8 : Nat) : Int)], (lim n k).moves ++ [[((k * 7 % n : Nat) : Int)]]⟩ := by
  unfold lim
  simp [List.range_succ]
theorem lim_size (n k : Nat) : (lim n k).owner.length = k ∧ (lim n k).prio.length = k ∧ (lim n k).moves.length = k := by unfold lim; simp
theorem lim_check (n i : Nat) (hi : i < n) : (lim n n).check i = 0 := by
  have ho : (lim n n).owner.getD i 0 = ((i % 2 : Nat) : Int) := by unfold lim; simp [List.getD, hi]
  have hp : (lim n n).prio.getD i 0 = ((i % 8 : Nat) : Int) := by unfold lim; simp [List.getD, hi]
  have hm : (lim n n).moves.getD i [] = [((i * 7 % n : Nat) : Int)] := by unfold lim; simp [List.getD, hi]
  unfold G.check
  rw [ho, hp, hm, (lim_size n n).1]
  have h1 := Nat.mod_lt (i * 7) (show 0 < n by omega)
  generalize i * 7 % n = m at h1
  unfold P.check
  rw [if_neg (by omega), if_neg (by omega), if_neg (by simp)]
  have : rise (n : Int) (-1) [(m : Int)] = true := by
    unfold rise rise
    rw [decide_eq_true (show (-1 : Int) < (m : Int) by omega), decide_eq_true (show (m : Int) < (n : Int) by omega)]
    rfl
  rw [if_pos this]
/-- What Right says where the first wrong position is i. -/
theorem right_at {g : G} (h1 : g.prio.length = g.owner.length) (h2 : g.moves.length = g.owner.length) (hp : 0 < g.owner.length) (hm : g.owner.length ≤ 200) (i : Nat) (hi : i < g.owner.length) (hj : ∀ j, j < i → g.check j = 0) (hc : g.check i ≠ 0) : g.right = (i, g.check i) := by
  have key : ∀ (f k : Nat), k ≤ i → i < k + f → g.first f k = (i, g.check i) := by
    intro f
    induction f with
    | zero => intro k h3 h4; omega
    | succ f ih =>
      intro k h3 h4
      by_cases e : k = i
      · subst e; exact G.first_bad hc
      · rw [G.first_ok (hj k (by omega))]
        exact ih (k + 1) (by omega) (by omega)
  unfold G.right
  rw [if_neg (by omega), if_neg (by omega)]
  exact key _ 0 (Nat.zero_le _) (by omega)
theorem getD_set_at {α : Type} (l : List α) (i : Nat) (x d : α) (hi : i < l.length) : (l.set i x).getD i d = x := by simp [List.getD, hi]
theorem getD_set_ne {α : Type} (l : List α) (i j : Nat) (x d : α) (h : j ≠ i) : (l.set i x).getD j d = l.getD j d := by
  have h' : ¬ i = j := fun e => h e.symm
  simp [List.getD, h']
theorem lim_parts (n i : Nat) (hi : i < n) : ((lim n n).owner.getD i 0 = 0 ∨ (lim n n).owner.getD i 0 = 1) ∧ 0 ≤ (lim n n).prio.getD i 0 ∧ (lim n n).prio.getD i 0 ≤ 7 ∧ (lim n n).moves.getD i [] ≠ [] ∧ rise (n : Int) (-1) ((lim n n).moves.getD i []) = true := by
  have hc := lim_check n i hi
  unfold G.check P.check at hc
  rw [(lim_size n n).1] at hc
  by_cases h1 : (lim n n).owner.getD i 0 ≠ 0 ∧ (lim n n).owner.getD i 0 ≠ 1
  · rw [if_pos h1] at hc; cases hc
  · rw [if_neg h1] at hc
    by_cases h2 : (lim n n).prio.getD i 0 < 0 ∨ 7 < (lim n n).prio.getD i 0
    · rw [if_pos h2] at hc; cases hc
    · rw [if_neg h2] at hc
      by_cases h3 : (lim n n).moves.getD i [] = []
      · rw [if_pos h3] at hc; cases hc
      · rw [if_neg h3] at hc
        by_cases h4 : rise (n : Int) (-1) ((lim n n).moves.getD i []) = true
        · exact ⟨by omega, by omega, by omega, h3, h4⟩
        · rw [if_neg h4] at hc; cases hc
/-- One owner turned. -/
theorem lim_owner (n i : Nat) (hi : i < n) (hn : n ≤ 200) (z : Int) (hz : z ≠ 0 ∧ z ≠ 1) : G.right { lim n n with owner := (lim n n).owner.set i z } = (i, 14) := by
  have hs := lim_size n n
  have hl : ((lim n n).owner.set i z).length = n := by rw [List.length_set]; exact hs.1
  have hc : G.check { lim n n with owner := (lim n n).owner.set i z } i = 14 := by
    unfold G.check P.check
    show (if ((lim n n).owner.set i z).getD i 0 ≠ 0 ∧ ((lim n n).owner.set i z).getD i 0 ≠ 1 then 14 else _) = 14
    rw [getD_set_at _ _ _ _ (by rw [hs.1]; exact hi), if_pos hz]
  rw [right_at (by rw [hl]; exact hs.2.1) (by rw [hl]; exact hs.2.2) (by rw [hl]; omega) (by rw [hl]; exact hn) i (by rw [hl]; exact hi) (fun j hj => ?_) (by rw [hc]; decide), hc]
  have := lim_check n j (by omega)
  unfold G.check at this ⊢
  rw [hs.1] at this
  rw [hl, getD_set_ne _ _ _ _ _ (by omega)]
  exact this
/-- One priority turned. -/
theorem lim_prio (n i : Nat) (hi : i < n) (hn : n ≤ 200) (z : Int) (hz : z < 0 ∨ 7 < z) : G.right { lim n n with prio := (lim n n).prio.set i z } = (i, 15) := by
  have hs := lim_size n n
  have hl : ((lim n n).prio.set i z).length = n := by rw [List.length_set]; exact hs.2.1
  have ho := (lim_parts n i hi).1
  have hc : G.check { lim n n with prio := (lim n n).prio.set i z } i = 15 := by
    unfold G.check P.check
    show (if (lim n n).owner.getD i 0 ≠ 0 ∧ (lim n n).owner.getD i 0 ≠ 1 then 14 else if ((lim n n).prio.set i z).getD i 0 < 0 ∨ 7 < ((lim n n).prio.set i z).getD i 0 then 15 else _) = 15
    rw [getD_set_at _ _ _ _ (by rw [hs.2.1]; exact hi), if_neg (by omega), if_pos hz]
  rw [right_at (by rw [hs.1]; exact hl) (by rw [hs.1]; exact hs.2.2) (by rw [hs.1]; omega) (by rw [hs.1]; exact hn) i (by rw [hs.1]; exact hi) (fun j hj => ?_) (by rw [hc]; decide), hc]
  have := lim_check n j (by omega)
  unfold G.check at this ⊢
  rw [hs.1] at this ⊢
  rw [getD_set_ne _ _ _ _ _ (by omega)]
  exact this
/-- The first position's moves turned. -/
theorem lim_moves (n : Nat) (hp : 0 < n) (hn : n ≤ 200) (l : List Int) : G.right { lim n n with moves := (lim n n).moves.set 0 l } = if l = [] then (0, 17) else if rise (n : Int) (-1) l = true then (0, 0) else (0, 16) := by
  have hs := lim_size n n
  have hl : ((lim n n).moves.set 0 l).length = n := by rw [List.length_set]; exact hs.2.2
  obtain ⟨ho, hp1, hp2, -, -⟩ := lim_parts n 0 hp
  have hc : G.check { lim n n with moves := (lim n n).moves.set 0 l } 0 = if l = [] then 17 else if rise (n : Int) (-1) l = true then 0 else 16 := by
    unfold G.check P.check
    show (if (lim n n).owner.getD 0 0 ≠ 0 ∧ (lim n n).owner.getD 0 0 ≠ 1 then 14 else if (lim n n).prio.getD 0 0 < 0 ∨ 7 < (lim n n).prio.getD 0 0 then 15 else if ((lim n n).moves.set 0 l).getD 0 [] = [] then 17 else if rise ((lim n n).owner.length : Int) (-1) (((lim n n).moves.set 0 l).getD 0 []) = true then 0 else 16) = _
    rw [getD_set_at _ _ _ _ (by rw [hs.2.2]; exact hp), if_neg (by omega), if_neg (by omega), hs.1]
  have bad : ∀ c, c ≠ 0 → G.check { lim n n with moves := (lim n n).moves.set 0 l } 0 = c → G.right { lim n n with moves := (lim n n).moves.set 0 l } = (0, c) := fun c h0 h => by
    rw [right_at (by rw [hs.1]; exact hs.2.1) (by rw [hs.1]; exact hl) (by rw [hs.1]; omega) (by rw [hs.1]; exact hn) 0 (by rw [hs.1]; omega) (fun j hj => by omega) (by rw [h]; exact h0), h]
  by_cases h1 : l = []
  · rw [if_pos h1] at hc ⊢
    exact bad _ (by decide) hc
  · rw [if_neg h1] at hc ⊢
    by_cases h2 : rise (n : Int) (-1) l = true
    · rw [if_pos h2] at hc ⊢
      have key : ∀ (f i : Nat), i + f = n → G.first { lim n n with moves := (lim n n).moves.set 0 l } f i = (0, 0) := by
        intro f
        induction f with
        | zero => intro i _; rfl
        | succ f ih =>
          intro i h3
          have hci : G.check { lim n n with moves := (lim n n).moves.set 0 l } i = 0 := by
            by_cases e : i = 0
            · subst e; exact hc
            · have := lim_check n i (by omega)
              unfold G.check at this ⊢
              rw [hs.1] at this ⊢
              rw [getD_set_ne _ _ _ _ _ e]
              exact this
          rw [G.first_ok hci]
          exact ih (i + 1) (by omega)
      unfold G.right
      rw [if_neg (by rw [hl, hs.1, hs.2.1]; omega), if_neg (by rw [hs.1]; omega), hs.1]
      exact key n 0 (by omega)
    · rw [if_neg h2] at hc ⊢
      exact bad _ (by decide) hc
theorem right_fine {g : G} (h1 : g.prio.length = g.owner.length) (h2 : g.moves.length = g.owner.length) (hp : 0 < g.owner.length) (hm : g.owner.length ≤ 200) (hj : ∀ j, j < g.owner.length → g.check j = 0) : g.right = (0, 0) := by
  have key : ∀ (f i : Nat), i + f = g.owner.length → g.first f i = (0, 0) := by
    intro f
    induction f with
    | zero => intro i _; rfl
    | succ f ih =>
      intro i h3
      rw [G.first_ok (hj i (by omega))]
      exact ih (i + 1) (by omega)
  unfold G.right
  rw [if_neg (by omega), if_neg (by omega)]
  exact key _ 0 (by omega)
theorem lim_fine (n : Nat) (hp : 0 < n) (hn : n ≤ 200) : (lim n n).right = (0, 0) := by
  have hs := lim_size n n
  exact right_fine (by rw [hs.1]; exact hs.2.1) (by rw [hs.1]; exact hs.2.2) (by rw [hs.1]; exact hp) (by rw [hs.1]; exact hn) (fun j hj => lim_check n j (by rw [hs.1] at hj; exact hj))
theorem lim_many (n : Nat) (h : n < 1 ∨ 200 < n) : (lim n n).right = (0, 10) := by
  have hs := lim_size n n
  unfold G.right
  rw [if_neg (by rw [hs.1, hs.2.1, hs.2.2]; omega), hs.1, if_pos h]
theorem lim_owner_ok (n i : Nat) (hi : i < n) (hn : n ≤ 200) (z : Int) (hz : z = 0 ∨ z = 1) : G.right { lim n n with owner := (lim n n).owner.set i z } = (0, 0) := by
  have hs := lim_size n n
  have hl : ((lim n n).owner.set i z).length = n := by rw [List.length_set]; exact hs.1
  refine right_fine (by rw [hl]; exact hs.2.1) (by rw [hl]; exact hs.2.2) (by rw [hl]; omega) (by rw [hl]; exact hn) fun j hj => ?_
  have hj' : j < n := by rw [← hl]; exact hj
  by_cases e : j = i
  · subst e
    obtain ⟨-, h1, h2, h3, h4⟩ := lim_parts n j hi
    unfold G.check P.check
    rw [hl]
    show (if ((lim n n).owner.set j z).getD j 0 ≠ 0 ∧ ((lim n n).owner.set j z).getD j 0 ≠ 1 then 14 else if (lim n n).prio.getD j 0 < 0 ∨ 7 < (lim n n).prio.getD j 0 then 15 else if (lim n n).moves.getD j [] = [] then 17 else if rise (n : Int) (-1) ((lim n n).moves.getD j []) = true then 0 else 16) = 0
    rw [getD_set_at _ _ _ _ (by rw [hs.1]; exact hi), if_neg (by omega), if_neg (by omega), if_neg h3, if_pos h4]
  · have := lim_check n j hj'
    unfold G.check at this ⊢
    rw [hs.1] at this
    rw [hl, getD_set_ne _ _ _ _ _ e]
    exact this
theorem lim_prio_ok (n i : Nat) (hi : i < n) (hn : n ≤ 200) (z : Int) (hz : 0 ≤ z ∧ z ≤ 7) : G.right { lim n n with prio := (lim n n).prio.set i z } = (0, 0) := by
  have hs := lim_size n n
  have hl : ((lim n n).prio.set i z).length = n := by rw [List.length_set]; exact hs.2.1
  refine right_fine (by rw [hs.1]; exact hl) (by rw [hs.1]; exact hs.2.2) (by rw [hs.1]; omega) (by rw [hs.1]; exact hn) fun j hj => ?_
  have hj' : j < n := by rw [hs.1] at hj; exact hj
  by_cases e : j = i
  · subst e
    obtain ⟨h0, -, -, h3, h4⟩ := lim_parts n j hi
    unfold G.check P.check
    rw [hs.1]
    show (if (lim n n).owner.getD j 0 ≠ 0 ∧ (lim n n).owner.getD j 0 ≠ 1 then 14 else if ((lim n n).prio.set j z).getD j 0 < 0 ∨ 7 < ((lim n n).prio.set j z).getD j 0 then 15 else if (lim n n).moves.getD j [] = [] then 17 else if rise (n : Int) (-1) ((lim n n).moves.getD j []) = true then 0 else 16) = 0
    rw [getD_set_at _ _ _ _ (by rw [hs.2.1]; exact hi), if_neg (by omega), if_neg (by omega), if_neg h3, if_pos h4]
  · have := lim_check n j hj'
    unfold G.check at this ⊢
    rw [hs.1] at this ⊢
    rw [getD_set_ne _ _ _ _ _ e]
    exact this
end P
end Go.Proofs.YtlbikfimfaecnaaDoor
