/- The dual of a right game, and its dual: plain. -/
import Derived.Test.YtpfponiidppldaaDoorGame
namespace Go.Proofs.YtpfponiidppldaaDoor
namespace P
/-- Which way the dual's priorities are moved. -/
def G.way (g : G) : Int := if (7 : Int) ∈ g.prio then -1 else 1
theorem G.way_01 (g : G) : g.way = 1 ∨ g.way = -1 := by unfold G.way; split <;> simp
theorem G.dual_both {g : G} (h : g.Right) (h0 : (0 : Int) ∈ g.prio) (h7 : (7 : Int) ∈ g.prio) : g.dual = .none := by
  unfold G.dual
  rw [if_neg (by rw [(G.ok_iff g).2 h]; decide), if_pos h7, if_pos h0]
theorem G.dual_none {g : G} (h : g.ok = false) : g.dual = .none := by
  unfold G.dual
  rw [if_pos h]
theorem G.dual_way {g : G} (h : g.Right) (hb : ¬ ((0 : Int) ∈ g.prio ∧ (7 : Int) ∈ g.prio)) : g.dual = g.turned g.way := by
  unfold G.dual G.way
  rw [if_neg (by rw [(G.ok_iff g).2 h]; decide)]
  by_cases h7 : (7 : Int) ∈ g.prio
  · rw [if_pos h7, if_pos h7, if_neg (fun h0 => hb ⟨h0, h7⟩)]
  · rw [if_neg h7, if_neg h7]
theorem G.turned_len (g : G) (y : Int) : (g.turned y).owner.length = g.owner.length ∧ (g.turned y).prio.length = g.prio.length ∧ (g.turned y).moves.length = g.moves.length := by unfold G.turned; simp
theorem G.turned_owner (g : G) (y : Int) (i : Nat) (hi : i < g.owner.length) : (g.turned y).owner.getD i 0 = 1 - g.owner.getD i 0 := by unfold G.turned; simp [List.getD, hi]
theorem G.turned_prio (g : G) (y : Int) (i : Nat) (hi : i < g.prio.length) : (g.turned y).prio.getD i 0 = g.prio.getD i 0 + y := by unfold G.turned; simp [List.getD, hi]
theorem G.turned_moves (g : G) (y : Int) (i : Nat) : (g.turned y).moves.getD i [] = g.moves.getD i [] := rfl
theorem G.mem_prio {g : G} (h : g.Right) (i : Nat) (hi : i < g.owner.length) : g.prio.getD i 0 ∈ g.prio := by
  have : i < g.prio.length := by rw [h.prio]; exact hi
  rw [List.getD_eq_getElem?_getD, List.getElem?_eq_getElem this]
  exact List.getElem_mem this
theorem G.prio_mem {g : G} (h : g.Right) {z : Int} (hz : z ∈ g.prio) : ∃ i, i < g.owner.length ∧ g.prio.getD i 0 = z := by
  obtain ⟨i, hi, e⟩ := List.mem_iff_getElem.1 hz
  refine ⟨i, by rw [← h.prio]; exact hi, ?_⟩
  rw [List.getD_eq_getElem?_getD, List.getElem?_eq_getElem hi, ← e]
  rfl
theorem G.turned_check {g : G} (h : g.Right) (y : Int) (i : Nat) (hi : i < g.owner.length) (hy : 0 ≤ g.prio.getD i 0 + y ∧ g.prio.getD i 0 + y ≤ 7) : (g.turned y).check i = 0 := by
  obtain ⟨h1, h2, h3, h4, h5⟩ := h.at i hi
  unfold G.check
  rw [G.turned_owner g y i hi, G.turned_prio g y i (by rw [h.prio]; exact hi), G.turned_moves, (G.turned_len g y).1]
  generalize g.owner.getD i 0 = o at h1
  generalize g.prio.getD i 0 = p at hy
  unfold P.check
  rw [if_neg (by omega), if_neg (by omega), if_neg h4, if_pos h5]
/-- The dual of a right game is right. -/
theorem G.turned_right {g : G} (h : g.Right) (hb : ¬ ((0 : Int) ∈ g.prio ∧ (7 : Int) ∈ g.prio)) : (g.turned g.way).Right := by
  have hl := G.turned_len g g.way
  refine ⟨by rw [hl.1, hl.2.1]; exact h.prio, by rw [hl.1, hl.2.2]; exact h.moves, by rw [hl.1]; exact h.pos, by rw [hl.1]; exact h.many, fun i hi => ?_⟩
  rw [hl.1] at hi
  refine G.turned_check h _ i hi ?_
  have hm := G.mem_prio h i hi
  have ha := (h.at i hi).2
  unfold G.way
  generalize g.prio.getD i 0 = p at ha hm
  by_cases h7 : (7 : Int) ∈ g.prio
  · rw [if_pos h7]
    have : p ≠ 0 := fun e => hb ⟨e ▸ hm, h7⟩
    omega
  · rw [if_neg h7]
    have : p ≠ 7 := fun e => h7 (e ▸ hm)
    omega
theorem G.turned_not {g : G} (h : g.Right) (hb : ¬ ((0 : Int) ∈ g.prio ∧ (7 : Int) ∈ g.prio)) : ¬ ((0 : Int) ∈ (g.turned g.way).prio ∧ (7 : Int) ∈ (g.turned g.way).prio) := by
  rintro ⟨h0, h7⟩
  have hr := G.turned_right h hb
  obtain ⟨i, hi, ei⟩ := G.prio_mem hr h0
  obtain ⟨j, hj, ej⟩ := G.prio_mem hr h7
  rw [(G.turned_len g g.way).1] at hi hj
  rw [G.turned_prio g _ i (by rw [h.prio]; exact hi)] at ei
  rw [G.turned_prio g _ j (by rw [h.prio]; exact hj)] at ej
  have h1 := (h.at i hi).2
  have h2 := (h.at j hj).2
  rcases G.way_01 g with e | e <;> rw [e] at ei ej <;> omega
/-- The dual of the dual. -/
theorem G.dual_dual {g : G} (h : g.Right) (hb : ¬ ((0 : Int) ∈ g.prio ∧ (7 : Int) ∈ g.prio)) : (g.turned g.way).dual = (g.turned g.way).turned (g.turned g.way).way := G.dual_way (G.turned_right h hb) (G.turned_not h hb)
/-- d is g with the players exchanged, the priorities moved by y; n positions. -/
structure Turn (g d : G) (n : Nat) (y : Int) : Prop where
  ol : d.owner.length = n
  pl : d.prio.length = n
  ml : d.moves.length = n
  ow : ∀ i, i < n → d.owner.getD i 0 = 1 - g.owner.getD i 0
  pr : ∀ i, i < n → d.prio.getD i 0 = g.prio.getD i 0 + y
  mo : ∀ i, d.moves.getD i [] = g.moves.getD i []
  right : d.Right
  y1 : y = 1 ∨ y = -1
theorem turn_is {g : G} (h : g.Right) (hb : ¬ ((0 : Int) ∈ g.prio ∧ (7 : Int) ∈ g.prio)) : Turn g (g.turned g.way) g.owner.length g.way := by
  have hl := G.turned_len g g.way
  exact ⟨hl.1, by rw [hl.2.1]; exact h.prio, by rw [hl.2.2]; exact h.moves, fun i hi => G.turned_owner g _ i hi, fun i hi => G.turned_prio g _ i (by rw [h.prio]; exact hi), fun i => G.turned_moves g _ i, G.turned_right h hb, g.way_01⟩
/-- A right game of n positions, and what a position of it is. -/
structure OfSize (g : G) (n : Nat) : Prop where
  ol : g.owner.length = n
  pl : g.prio.length = n
  ml : g.moves.length = n
  pos : 0 < n
  many : n ≤ 200
  ow : ∀ i, i < n → g.owner.getD i 0 = 0 ∨ g.owner.getD i 0 = 1
  pr : ∀ i, i < n → 0 ≤ g.prio.getD i 0 ∧ g.prio.getD i 0 ≤ 7
theorem G.Right.ofSize {g : G} (h : g.Right) : OfSize g g.owner.length := ⟨rfl, h.prio, h.moves, h.pos, h.many, fun i hi => (h.at i hi).1, fun i hi => ⟨(h.at i hi).2.1, (h.at i hi).2.2.1⟩⟩
end P
end Go.Proofs.YtpfponiidppldaaDoor
