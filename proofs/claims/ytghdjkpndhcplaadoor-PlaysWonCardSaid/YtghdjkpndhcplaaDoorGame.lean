/- What a game is, and which one is right: plain facts, no program. -/
import Derived.Laws.Strings
namespace Go.Proofs.YtghdjkpndhcplaaDoor
namespace P
/-- A game: who owns, what priority, which moves. -/
structure G where
  owner : List Int
  prio : List Int
  moves : List (List Int)
deriving DecidableEq
/-- Do numbers rise from above one on, all below n? -/
def rise (n : Int) : Int → List Int → Bool
  | _, [] => true
  | last, m :: l => decide (last < m) && (decide (m < n) && rise n m l)
/-- What is wrong with a position (0: nothing). -/
def check (n : Int) (o p : Int) (l : List Int) : Nat :=
  if o ≠ 0 ∧ o ≠ 1 then 14 else if p < 0 ∨ 7 < p then 15 else if l = [] then 17 else if rise n (-1) l = true then 0 else 16
def G.check (g : G) (i : Nat) : Nat := P.check (g.owner.length : Int) (g.owner.getD i 0) (g.prio.getD i 0) (g.moves.getD i [])
/-- The first wrong position from i on (at most f of them), and what is wrong. -/
def G.first (g : G) : Nat → Nat → Nat × Nat
  | 0, _ => (0, 0)
  | f + 1, i => if g.check i = 0 then g.first f (i + 1) else (i, g.check i)
def G.right (g : G) : Nat × Nat :=
  if g.prio.length ≠ g.owner.length ∨ g.moves.length ≠ g.owner.length then (0, 1)
  else if g.owner.length < 1 ∨ 200 < g.owner.length then (0, 10)
  else g.first g.owner.length 0
theorem G.first_ok {g : G} {f i : Nat} (h : g.check i = 0) : g.first (f + 1) i = g.first f (i + 1) := by rw [G.first, if_pos h]
theorem G.first_bad {g : G} {f i : Nat} (h : g.check i ≠ 0) : g.first (f + 1) i = (i, g.check i) := by rw [G.first, if_neg h]
/-- Is a game right? -/
def G.ok (g : G) : Bool := g.right.2 == 0
/-- The first place at which a number stands, from place j on; -1. -/
def indexFrom (z : Int) : List Int → Nat → Int
  | [], _ => -1
  | x :: l, j => if x = z then (j : Int) else indexFrom z l (j + 1)
theorem indexFrom_mem (z : Int) : ∀ (l : List Int) (j : Nat), decide (0 ≤ indexFrom z l j) = decide (z ∈ l)
  | [], _ => by simp [indexFrom]
  | x :: l, j => by
    unfold indexFrom
    by_cases h : x = z
    · rw [if_pos h]
      subst h
      simp
    · rw [if_neg h, indexFrom_mem z l (j + 1)]
      congr 1
      simp [Ne.symm h]
/-- The game with no positions. -/
def G.none : G := ⟨[], [], []⟩
/-- With the players exchanged, each priority by 'by' more. -/
def G.turned (g : G) (by_ : Int) : G := ⟨g.owner.map (1 - ·), g.prio.map (· + by_), g.moves⟩
def G.dual (g : G) : G :=
  if g.ok = false then .none else if (7 : Int) ∈ g.prio then (if (0 : Int) ∈ g.prio then .none else g.turned (-1)) else g.turned 1
theorem rise_bounds {n : Int} : ∀ {l : List Int} {last : Int}, rise n last l = true → ∀ m ∈ l, last < m ∧ m < n
  | [], _, _, m, h => by cases h
  | x :: l, last, h, m, hm => by
    unfold rise at h
    simp only [Bool.and_eq_true, decide_eq_true_eq] at h
    obtain ⟨h1, h2, h3⟩ := h
    rcases List.mem_cons.1 hm with rfl | hm
    · exact ⟨h1, h2⟩
    · have := rise_bounds h3 m hm
      exact ⟨by omega, this.2⟩
/-- What a right game is. -/
structure G.Right (g : G) : Prop where
  prio : g.prio.length = g.owner.length
  moves : g.moves.length = g.owner.length
  pos : 0 < g.owner.length
  many : g.owner.length ≤ 200
  each : ∀ i, i < g.owner.length → g.check i = 0
theorem G.first_zero (g : G) : ∀ (f i : Nat), (g.first f i).2 = 0 ↔ ∀ j, i ≤ j → j < i + f → g.check j = 0
  | 0, i => by simp [G.first]; intro j h1 h2; omega
  | f + 1, i => by
    by_cases h : g.check i = 0
    · rw [G.first_ok h, G.first_zero g f (i + 1)]
      constructor
      · intro h2 j h3 h4
        by_cases e : j = i
        · rw [e]; exact h
        · exact h2 j (by omega) (by omega)
      · intro h2 j h3 h4
        exact h2 j (by omega) (by omega)
    · rw [G.first_bad h]
      constructor
      · intro h2; exact absurd h2 h
      · intro h2; exact absurd (h2 i (Nat.le_refl i) (by omega)) h
theorem G.ok_iff (g : G) : g.ok = true ↔ g.Right := by
  unfold G.ok
  rw [beq_iff_eq]
  unfold G.right
  by_cases h1 : g.prio.length ≠ g.owner.length ∨ g.moves.length ≠ g.owner.length
  · rw [if_pos h1]
    constructor
    · intro h; cases h
    · intro h
      have := h.prio
      have := h.moves
      omega
  · rw [if_neg h1]
    by_cases h2 : g.owner.length < 1 ∨ 200 < g.owner.length
    · rw [if_pos h2]
      constructor
      · intro h; cases h
      · intro h
        have := h.pos
        have := h.many
        omega
    · rw [if_neg h2, G.first_zero]
      constructor
      · intro h
        exact ⟨by omega, by omega, by omega, by omega, fun i hi => h i (Nat.zero_le i) (by omega)⟩
      · intro h j _ hj
        exact h.each j (by omega)
/-- What a right position is. -/
theorem G.Right.at {g : G} (h : g.Right) (i : Nat) (hi : i < g.owner.length) :
    (g.owner.getD i 0 = 0 ∨ g.owner.getD i 0 = 1) ∧ 0 ≤ g.prio.getD i 0 ∧ g.prio.getD i 0 ≤ 7 ∧ g.moves.getD i [] ≠ [] ∧ rise (g.owner.length : Int) (-1) (g.moves.getD i []) = true := by
  have hc := h.each i hi
  unfold G.check P.check at hc
  by_cases h1 : g.owner.getD i 0 ≠ 0 ∧ g.owner.getD i 0 ≠ 1
  · rw [if_pos h1] at hc; cases hc
  · rw [if_neg h1] at hc
    by_cases h2 : g.prio.getD i 0 < 0 ∨ 7 < g.prio.getD i 0
    · rw [if_pos h2] at hc; cases hc
    · rw [if_neg h2] at hc
      by_cases h3 : g.moves.getD i [] = []
      · rw [if_pos h3] at hc; cases hc
      · rw [if_neg h3] at hc
        by_cases h4 : rise (g.owner.length : Int) (-1) (g.moves.getD i []) = true
        · exact ⟨by omega, by omega, by omega, h3, h4⟩
        · rw [if_neg h4] at hc; cases hc
end P
end Go.Proofs.YtghdjkpndhcplaaDoor
