/- The positions of the players, and of the priorities, of a right game: plain. -/
import Derived.Test.YtlbikfimfaecnaaDoorAmong
import Derived.Test.YtlbikfimfaecnaaDoorGame
namespace Go.Proofs.YtlbikfimfaecnaaDoor
namespace P
def G.own (g : G) (z : Int) : BitVec 256 := places z g.owner g.owner.length
def G.atp (g : G) (z : Int) : BitVec 256 := places z g.prio g.prio.length
theorem G.own_bit (g : G) (z : Int) (i : Nat) (hi : i < 256) : (g.own z).getLsbD i = (decide (i < g.owner.length) && decide (g.owner.getD i 0 = z)) := getLsbD_places z g.owner i hi _
theorem G.atp_bit (g : G) (z : Int) (i : Nat) (hi : i < 256) : (g.atp z).getLsbD i = (decide (i < g.prio.length) && decide (g.prio.getD i 0 = z)) := getLsbD_places z g.prio i hi _
theorem G.own_or {g : G} (h : g.Right) : g.own 0 ||| g.own 1 = full g.owner.length := by
  apply BitVec.eq_of_getLsbD_eq
  intro i hi
  rw [BitVec.getLsbD_or, g.own_bit 0 i hi, g.own_bit 1 i hi, getLsbD_full]
  by_cases hl : i < g.owner.length
  · have := (h.at i hl).1
    rw [decide_eq_true hl, Bool.true_and, Bool.true_and, decide_eq_true (show i < 256 ∧ (i : Int) < g.owner.length from ⟨hi, by omega⟩)]
    rcases this with h | h
    · rw [decide_eq_true h]; rfl
    · rw [decide_eq_true h]; simp
  · have : ¬ (i < 256 ∧ (i : Int) < g.owner.length) := by omega
    rw [decide_eq_false hl, decide_eq_false this]; rfl
theorem G.own_and (g : G) : g.own 0 &&& g.own 1 = 0#256 := by
  apply BitVec.eq_of_getLsbD_eq
  intro i hi
  rw [BitVec.getLsbD_and, g.own_bit 0 i hi, g.own_bit 1 i hi, BitVec.getLsbD_zero]
  by_cases h : g.owner.getD i 0 = 0
  · rw [h]; simp
  · rw [decide_eq_false h]; simp
theorem G.own_two {g : G} (h : g.Right) : g.own 2 = 0#256 := by
  apply BitVec.eq_of_getLsbD_eq
  intro i hi
  rw [g.own_bit 2 i hi, BitVec.getLsbD_zero]
  by_cases hl : i < g.owner.length
  · have := (h.at i hl).1
    rw [decide_eq_false (show ¬ g.owner.getD i 0 = 2 by omega), Bool.and_false]
  · rw [decide_eq_false hl, Bool.false_and]
theorem G.atp_eight {g : G} (h : g.Right) : g.atp 8 = 0#256 := by
  apply BitVec.eq_of_getLsbD_eq
  intro i hi
  rw [g.atp_bit 8 i hi, BitVec.getLsbD_zero]
  by_cases hl : i < g.prio.length
  · have := (h.at i (by rw [← h.prio]; exact hl)).2
    rw [decide_eq_false (show ¬ g.prio.getD i 0 = 8 by omega), Bool.and_false]
  · rw [decide_eq_false hl, Bool.false_and]
/-- The positions whose priority is less than p. -/
def G.less (g : G) : Nat → BitVec 256
  | 0 => 0#256
  | p + 1 => g.less p ||| g.atp (p : Int)
theorem G.less_bit {g : G} (h : g.Right) (i : Nat) (hi : i < 256) : ∀ p : Nat, (g.less p).getLsbD i = (decide (i < g.prio.length) && decide (g.prio.getD i 0 < p))
  | 0 => by
    unfold G.less
    rw [BitVec.getLsbD_zero]
    by_cases hl : i < g.prio.length
    · have := (h.at i (by rw [← h.prio]; exact hl)).2.1
      rw [decide_eq_false (show ¬ g.prio.getD i 0 < ((0 : Nat) : Int) by omega), Bool.and_false]
    · rw [decide_eq_false hl, Bool.false_and]
  | p + 1 => by
    unfold G.less
    rw [BitVec.getLsbD_or, G.less_bit h i hi p, g.atp_bit _ i hi]
    generalize g.prio.getD i 0 = x
    by_cases h1 : x < p
    · rw [decide_eq_true h1, decide_eq_true (show x < ((p + 1 : Nat) : Int) by omega)]
      cases decide (i < g.prio.length) <;> simp
    · rw [decide_eq_false h1]
      by_cases h2 : x = p
      · rw [decide_eq_true h2, decide_eq_true (show x < ((p + 1 : Nat) : Int) by omega)]
        cases decide (i < g.prio.length) <;> rfl
      · rw [decide_eq_false h2, decide_eq_false (show ¬ x < ((p + 1 : Nat) : Int) by omega)]
        cases decide (i < g.prio.length) <;> rfl
theorem G.less_and {g : G} (h : g.Right) (p : Nat) : g.less p &&& g.atp (p : Int) = 0#256 := by
  apply BitVec.eq_of_getLsbD_eq
  intro i hi
  rw [BitVec.getLsbD_and, G.less_bit h i hi, g.atp_bit _ i hi, BitVec.getLsbD_zero]
  generalize g.prio.getD i 0 = x
  by_cases h2 : x = p
  · rw [decide_eq_false (show ¬ x < (p : Int) by omega)]; simp
  · rw [decide_eq_false h2]; simp
theorem G.less_all {g : G} (h : g.Right) : g.less 8 = full g.owner.length := by
  apply BitVec.eq_of_getLsbD_eq
  intro i hi
  rw [G.less_bit h i hi, getLsbD_full, h.prio]
  by_cases hl : i < g.owner.length
  · have := (h.at i hl).2
    rw [decide_eq_true hl, decide_eq_true (show g.prio.getD i 0 < ((8 : Nat) : Int) by omega), decide_eq_true (show i < 256 ∧ (i : Int) < g.owner.length from ⟨hi, by omega⟩)]
    rfl
  · have : ¬ (i < 256 ∧ (i : Int) < g.owner.length) := by omega
    rw [decide_eq_false hl, decide_eq_false this]; rfl
theorem G.turned_own (g : G) (y z : Int) : (g.turned y).own z = g.own (1 - z) := by
  apply BitVec.eq_of_getLsbD_eq
  intro i hi
  rw [G.own_bit _ _ i hi, G.own_bit _ _ i hi]
  have hl : (g.turned y).owner.length = g.owner.length := by unfold G.turned; simp
  rw [hl]
  by_cases h : i < g.owner.length
  · have e : (g.turned y).owner.getD i 0 = 1 - g.owner.getD i 0 := by unfold G.turned; simp [List.getD, h]
    rw [e]
    generalize g.owner.getD i 0 = x
    rw [decide_eq_decide.2 (show 1 - x = z ↔ x = 1 - z by omega)]
  · rw [decide_eq_false h]; rfl
/-- In a dual that has positions the players have changed places. -/
theorem G.dual_own (g : G) (h : 0 < g.dual.owner.length) (z : Int) : g.dual.own z = g.own (1 - z) := by
  unfold G.dual at h ⊢
  split
  · rename_i e; rw [if_pos e] at h; exact absurd h (by decide)
  · rename_i e
    rw [if_neg e] at h
    split
    · rename_i e2
      rw [if_pos e2] at h
      split
      · rename_i e3; rw [if_pos e3] at h; exact absurd h (by decide)
      · exact g.turned_own _ z
    · exact g.turned_own _ z
end P
end Go.Proofs.YtlbikfimfaecnaaDoor
