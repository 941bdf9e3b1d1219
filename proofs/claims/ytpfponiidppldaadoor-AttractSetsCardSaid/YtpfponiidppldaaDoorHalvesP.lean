/- Parts of games, and of their duals: plain. -/
import Derived.Test.YtpfponiidppldaaDoorPart
import Derived.Test.YtpfponiidppldaaDoorDualsP
namespace Go.Proofs.YtpfponiidppldaaDoor
namespace P
theorem G.part_len (g : G) (s : BitVec 256) : (g.part s).owner.length = (g.old s).length ∧ (g.part s).prio.length = (g.old s).length ∧ (g.part s).moves.length = (g.old s).length := g.partTo_len s _ _ (Nat.le_refl _)
theorem G.part_owner (g : G) (s : BitVec 256) (i : Nat) (hi : i < (g.old s).length) : (g.part s).owner.getD i 0 = g.owner.getD ((g.old s).getD i 0) 0 := by
  unfold G.part G.partTo
  simp [List.getD, hi]
theorem G.part_prio (g : G) (s : BitVec 256) (i : Nat) (hi : i < (g.old s).length) : (g.part s).prio.getD i 0 = g.prio.getD ((g.old s).getD i 0) 0 := by
  unfold G.part G.partTo
  simp [List.getD, hi]
theorem G.part_moves (g : G) (s : BitVec 256) (i : Nat) (hi : i < (g.old s).length) : (g.part s).moves.getD i [] = renum (g.old s) s (g.moves.getD ((g.old s).getD i 0) []) := by
  unfold G.part G.partTo
  simp [List.getD, hi]
theorem G.old_len (g : G) (s : BitVec 256) : (g.old s).length ≤ 256 := by
  unfold G.old lst
  refine Nat.le_trans (List.length_filter_le _ _) ?_
  simp
theorem G.old_at (g : G) (s : BitVec 256) (i : Nat) (hi : i < (g.old s).length) : (g.old s).getD i 0 < g.owner.length := by
  rw [List.getD_eq_getElem?_getD, List.getElem?_eq_getElem hi]
  exact (old_lt g s _ (List.getElem_mem hi)).1
theorem G.turned_old (g : G) (y : Int) (s : BitVec 256) : (g.turned y).old s = g.old s := by
  unfold G.old
  rw [(G.turned_len g y).1]
theorem G.turned_has {g : G} (h : g.Right) (y : Int) (s : BitVec 256) (hr : (g.turned y).Right) : (g.turned y).has s = g.has s := by
  unfold G.has
  rw [(G.ok_iff _).2 h, (G.ok_iff _).2 hr, G.turned_old]
  rfl
theorem G.none_has (s : BitVec 256) : G.none.has s = false := by
  unfold G.has
  rw [show G.none.ok = false by decide, Bool.false_and]
/-- B is a part of the dual, A of the game. -/
structure Half (A B : G) (n : Nat) (y : Int) : Prop where
  al : A.owner.length = n
  apl : A.prio.length = n
  aml : A.moves.length = n
  bl : B.owner.length = n
  bpl : B.prio.length = n
  bml : B.moves.length = n
  ow : ∀ i, i < n → B.owner.getD i 0 = 1 - A.owner.getD i 0 ∧ (A.owner.getD i 0 = 0 ∨ A.owner.getD i 0 = 1)
  pr : ∀ i, i < n → B.prio.getD i 0 = A.prio.getD i 0 + y ∧ 0 ≤ A.prio.getD i 0 ∧ A.prio.getD i 0 ≤ 7
  mo : ∀ i, i < n → B.moves.getD i [] = A.moves.getD i []
  y1 : y = 1 ∨ y = -1
theorem half_is {g : G} (h : g.Right) (s : BitVec 256) : Half (g.part s) ((g.turned g.way).part s) (g.old s).length g.way := by
  have ha := g.part_len s
  have hb := (g.turned g.way).part_len s
  rw [G.turned_old] at hb
  refine ⟨ha.1, ha.2.1, ha.2.2, hb.1, hb.2.1, hb.2.2, fun i hi => ?_, fun i hi => ?_, fun i hi => ?_, g.way_01⟩
  · have hi' : i < ((g.turned g.way).old s).length := by rw [G.turned_old]; exact hi
    have hl := g.old_at s i hi
    rw [G.part_owner _ s i hi', G.part_owner g s i hi, G.turned_old, G.turned_owner g _ _ hl]
    exact ⟨rfl, (h.at _ hl).1⟩
  · have hi' : i < ((g.turned g.way).old s).length := by rw [G.turned_old]; exact hi
    have hl := g.old_at s i hi
    rw [G.part_prio _ s i hi', G.part_prio g s i hi, G.turned_old, G.turned_prio g _ _ (by rw [h.prio]; exact hl)]
    exact ⟨rfl, (h.at _ hl).2.1, (h.at _ hl).2.2.1⟩
  · have hi' : i < ((g.turned g.way).old s).length := by rw [G.turned_old]; exact hi
    rw [G.part_moves _ s i hi', G.part_moves g s i hi, G.turned_old, G.turned_moves]
theorem G.old_pos {g : G} {s : BitVec 256} (h : g.has s = true) : 0 < (g.old s).length := by
  unfold G.has at h
  simp only [Bool.and_eq_true, Bool.not_eq_true', List.isEmpty_eq_false_iff] at h
  exact List.length_pos_iff.2 h.2.1
end P
end Go.Proofs.YtpfponiidppldaaDoor
