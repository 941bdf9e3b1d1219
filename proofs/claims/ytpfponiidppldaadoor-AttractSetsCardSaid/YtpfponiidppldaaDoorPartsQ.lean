/- What GameParts asks of a part: plain. -/
import Derived.Test.YtpfponiidppldaaDoorPartsP
namespace Go.Proofs.YtpfponiidppldaaDoor
namespace P
theorem full_all (i : Nat) (hi : i < 256) : (full 256).getLsbD i = true := by
  rw [getLsbD_full]
  exact decide_eq_true ⟨hi, by omega⟩
theorem pre2_full (n : Nat) (hn : n ≤ 256) : pre2 (full 256) n = List.range n := by
  unfold pre2
  rw [List.filter_eq_self]
  intro i hi
  exact full_all i (by have := List.mem_range.1 hi; omega)
theorem map_getD {α : Type} (l : List α) (d : α) : (List.range l.length).map (fun i => l.getD i d) = l := by
  apply List.ext_getElem
  · simp
  · intro i h1 h2
    simp [List.getD, h2]
theorem renum_full (n : Nat) (hn : n ≤ 256) (l : List Int) (hl : ∀ y ∈ l, 0 ≤ y ∧ y < (n : Int)) : renum (List.range n) (full 256) l = l := by
  unfold renum
  have hf : l.filter (has (full 256)) = l := by
    rw [List.filter_eq_self]
    intro y hy
    obtain ⟨h0, h1⟩ := hl y hy
    obtain ⟨z, rfl⟩ := Int.eq_ofNat_of_zero_le h0
    rw [has_nat]
    exact full_all z (by omega)
  rw [hf]
  conv => rhs; rw [← List.map_id l]
  apply List.map_congr_left
  intro y hy
  obtain ⟨h0, h1⟩ := hl y hy
  obtain ⟨z, rfl⟩ := Int.eq_ofNat_of_zero_le h0
  have hz : z < (List.range n).length := by rw [List.length_range]; omega
  have := idx_nodup (List.nodup_range (n := n)) z hz
  rw [List.getElem_range] at this
  rw [Int.toNat_natCast, this]
  rfl
/-- The part of all is the game. -/
theorem part_full {g : G} (hr : g.Right) : g.has (full 256) = true ∧ g.part (full 256) = g := by
  have hn : g.owner.length ≤ 256 := by have := hr.many; omega
  have ho := old_pre2 g (full 256) hn
  rw [pre2_full _ hn] at ho
  have hin : ∀ i, i < g.owner.length → ∀ y ∈ g.moves.getD i [], 0 ≤ y ∧ y < (g.owner.length : Int) := fun i hi => rise_in (hr.at i hi).2.2.2.2
  constructor
  · refine has_true ((G.ok_iff g).2 hr) (by rw [ho, List.length_range]; exact hr.pos) fun i hi => ?_
    rw [ho] at hi
    have hi' := List.mem_range.1 hi
    have hf : (g.moves.getD i []).filter (has (full 256)) = g.moves.getD i [] := by
      rw [List.filter_eq_self]
      intro y hy
      obtain ⟨h0, h1⟩ := hin i hi' y hy
      obtain ⟨z, rfl⟩ := Int.eq_ofNat_of_zero_le h0
      rw [has_nat]
      exact full_all z (by omega)
    rw [hf]
    exact (hr.at i hi').2.2.2.1
  · rw [part_eq, ho]
    obtain ⟨ow, pr, ms⟩ := g
    have h1 : pr.length = ow.length := hr.prio
    have h2 : ms.length = ow.length := hr.moves
    show G.mk _ _ _ = G.mk ow pr ms
    congr 1
    · exact map_getD ow 0
    · show (List.range ow.length).map (fun i => pr.getD i 0) = pr
      rw [← h1]
      exact map_getD pr 0
    · show (List.range ow.length).map (fun i => renum (List.range ow.length) (full 256) (ms.getD i [])) = ms
      have e : (List.range ow.length).map (fun i => renum (List.range ow.length) (full 256) (ms.getD i [])) = (List.range ow.length).map (fun i => ms.getD i []) := by
        apply List.map_congr_left
        intro i hi
        exact renum_full _ hn _ (hin i (List.mem_range.1 hi))
      rw [e, ← h2]
      exact map_getD ms []
/-- The moves that stay in the set. -/
theorem ofL_filter (s : BitVec 256) (n : Nat) (l : List Int) (hl : ∀ y ∈ l, 0 ≤ y ∧ y < (n : Int)) : ofL (l.filter (has s)) = ofL l &&& (s &&& full (n : Int)) := by
  apply BitVec.eq_of_getLsbD_eq
  intro i hi
  rw [BitVec.getLsbD_and, BitVec.getLsbD_and, getLsbD_ofL _ _ hi, getLsbD_ofL _ _ hi, getLsbD_full, Bool.eq_iff_iff]
  simp only [Bool.and_eq_true, decide_eq_true_eq, List.mem_filter, has_nat]
  constructor
  · rintro ⟨h1, h2⟩
    have := hl _ h1
    exact ⟨h1, h2, hi, this.2⟩
  · rintro ⟨h1, h2, -⟩
    exact ⟨h1, h2⟩
theorem and_zero_iff (s : BitVec 256) (n : Nat) (l : List Int) (hl : ∀ y ∈ l, 0 ≤ y ∧ y < (n : Int)) (hn : n ≤ 256) : l.filter (has s) = [] ↔ ofL l &&& (s &&& full (n : Int)) = 0#256 := by
  rw [← ofL_filter s n l hl]
  constructor
  · intro h; rw [h]; rfl
  · intro h
    rw [List.eq_nil_iff_forall_not_mem]
    intro y hy
    obtain ⟨h0, h1⟩ := hl y (List.mem_filter.1 hy).1
    obtain ⟨z, rfl⟩ := Int.eq_ofNat_of_zero_le h0
    have hb : (ofL (l.filter (has s))).getLsbD z = true := by
      rw [getLsbD_ofL _ _ (by omega)]
      exact decide_eq_true hy
    rw [h, BitVec.getLsbD_zero] at hb
    cases hb
/-- Where there is no part, and nothing is stuck, nothing is in. -/
theorem no_part {g : G} (hr : g.Right) {s : BitVec 256} (h : g.has s = false) (hs : ∀ i, i < g.owner.length → (s &&& full (g.owner.length : Int)).getLsbD i = true → ofL (g.moves.getD i []) &&& (s &&& full (g.owner.length : Int)) ≠ 0#256) : s &&& full (g.owner.length : Int) = 0#256 := by
  have hn : g.owner.length ≤ 256 := by have := hr.many; omega
  have ho := old_pre2 g s hn
  by_cases h0 : 0 < (g.old s).length
  · exfalso
    have ht := has_true (s := s) ((G.ok_iff g).2 hr) h0 fun i hi e => by
      have hlt := old_lt g s i hi
      refine hs i hlt.1 ?_ ((and_zero_iff s _ _ (rise_in (hr.at i hlt.1).2.2.2.2) hn).1 e)
      rw [BitVec.getLsbD_and, old_has g s i hi, getLsbD_full]
      exact decide_eq_true ⟨hlt.2, by omega⟩
    rw [h] at ht
    cases ht
  · apply BitVec.eq_of_getLsbD_eq
    intro i hi
    rw [BitVec.getLsbD_zero]
    cases hb : (s &&& full (g.owner.length : Int)).getLsbD i with
    | false => rfl
    | true =>
      exfalso
      rw [BitVec.getLsbD_and, Bool.and_eq_true, getLsbD_full, decide_eq_true_eq] at hb
      have := mem_old g s i (by omega) hi hb.1
      exact h0 (List.length_pos_iff.2 (List.ne_nil_of_mem this))
theorem ofL_old (g : G) (s : BitVec 256) : ofL ((g.old s).map fun (i : Nat) => (i : Int)) = s &&& full (g.owner.length : Int) := by
  apply BitVec.eq_of_getLsbD_eq
  intro i hi
  rw [getLsbD_ofL _ _ hi, BitVec.getLsbD_and, getLsbD_full, Bool.eq_iff_iff]
  simp only [decide_eq_true_eq, Bool.and_eq_true, List.mem_map]
  constructor
  · rintro ⟨a, ha, e⟩
    obtain rfl : a = i := by omega
    exact ⟨old_has g s a ha, hi, by have := (old_lt g s a ha).1; omega⟩
  · rintro ⟨h1, -, h2⟩
    exact ⟨i, mem_old g s i (by omega) hi h1, rfl⟩
/-- What the numbers of a part's moves were. -/
def back (old : List Nat) (l : List Int) : List Int := l.map fun z => ((old.getD z.toNat 0 : Nat) : Int)
theorem back_renum (s : BitVec 256) (n : Nat) (l : List Int) (hl : ∀ y ∈ l, 0 ≤ y ∧ y < (n : Int)) : back (pre2 s n) (renum (pre2 s n) s l) = l.filter (has s) := by
  unfold back renum
  rw [List.map_map]
  conv => rhs; rw [← List.map_id (l.filter (has s))]
  apply List.map_congr_left
  intro y hy
  obtain ⟨h0, h1⟩ := hl y (List.mem_filter.1 hy).1
  have hb := (List.mem_filter.1 hy).2
  obtain ⟨z, rfl⟩ := Int.eq_ofNat_of_zero_le h0
  rw [has_nat] at hb
  simp only [Function.comp, Int.toNat_natCast]
  rw [getD_idx ((pre2_mem s n z).2 ⟨by omega, hb⟩)]
  rfl
end P
end Go.Proofs.YtpfponiidppldaaDoor
