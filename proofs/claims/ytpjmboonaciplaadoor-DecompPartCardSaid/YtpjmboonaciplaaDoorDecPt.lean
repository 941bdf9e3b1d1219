/- The game on one player's region is won by that player everywhere. Plain. -/
import Derived.Test.YtpjmboonaciplaaDoorDecA
import Derived.Test.YtpjmboonaciplaaDoorHlv
namespace Go.Proofs.YtpjmboonaciplaaDoor
namespace P
theorem mem_renum {old : List Nat} {s : BitVec 256} {l : List Int} {y : Nat} (h : (y : Int) ∈ renum old s l) : ∃ m ∈ l, has s m = true ∧ y = old.idxOf m.toNat := by
  unfold renum at h
  obtain ⟨m, h1, h2⟩ := List.mem_map.1 h
  have h3 := List.mem_filter.1 h1
  exact ⟨m, h3.1, h3.2, by omega⟩
theorem renum_mem {old : List Nat} {s : BitVec 256} {l : List Int} {m : Nat} (h : (m : Int) ∈ l) (hs : Bit s m) : ((old.idxOf m : Nat) : Int) ∈ renum old s l := by
  unfold renum
  refine List.mem_map.2 ⟨(m : Int), List.mem_filter.2 ⟨h, ?_⟩, by simp⟩
  rw [has_nat]
  exact hs
theorem memOld {g : G} {s : BitVec 256} (hs : ∀ i, Bit s i → i < g.owner.length) (i : Nat) : i ∈ g.old s ↔ Bit s i := by
  unfold G.old
  rw [full_and hs, mem_lst]
  exact Iff.rfl
theorem part_at {g : G} {s : BitVec 256} {j : Nat} (hj : j < (g.old s).length) : (g.part s).owner.getD j 0 = g.owner.getD ((g.old s).getD j 0) 0 ∧ (g.part s).prio.getD j 0 = g.prio.getD ((g.old s).getD j 0) 0 ∧ (g.part s).moves.getD j [] = renum (g.old s) s (g.moves.getD ((g.old s).getD j 0) []) := by
  rw [part_eq]
  have e : (g.old s).getD j 0 = (g.old s)[j] := by rw [List.getD_eq_getElem?_getD, List.getElem?_eq_getElem hj]; rfl
  refine ⟨?_, ?_, ?_⟩ <;> rw [e, List.getD_eq_getElem?_getD, List.getElem?_map, List.getElem?_eq_getElem hj] <;> rfl
section
variable {g : G} (hr : g.Right) {s : BitVec 256} {p : Int} {mv : Nat → Int} (hs : ∀ i, Bit s i → i < g.owner.length) (h : WinsIn g (· < g.owner.length) p mv (Bit s))
include hr hs h in
/-- There is such a game. -/
theorem part_has (hne : ∃ i, Bit s i) : g.has s = true := by
  have hm := hr.many
  unfold G.has
  rw [(G.ok_iff g).2 hr, Bool.true_and, Bool.and_eq_true]
  constructor
  · obtain ⟨i, hi⟩ := hne
    have := (memOld hs i).2 hi
    cases hl : g.old s with
    | nil => rw [hl] at this; cases this
    | cons x l => rfl
  · rw [List.all_eq_true]
    intro i hi
    have hb := (memOld hs i).1 hi
    have hin := hs i hb
    obtain ⟨j, h1, h2⟩ : ∃ j : Nat, (j : Int) ∈ g.moves.getD i [] ∧ Bit s j := by
      by_cases ho : g.owner.getD i 0 = p
      · obtain ⟨j, -, h2, h3⟩ := h.own i hb ho
        exact ⟨j, h2, h3⟩
      · obtain ⟨z, hz⟩ := List.exists_mem_of_ne_nil _ (hr.at i hin).2.2.2.1
        have := hr.moves_in hin z hz
        obtain ⟨j, rfl⟩ := Int.eq_ofNat_of_zero_le this.1
        exact ⟨j, hz, h.oth i hb ho j hz (by show j < _; omega)⟩
    have hmem : (j : Int) ∈ (g.moves.getD i []).filter (has s) := List.mem_filter.2 ⟨h1, by rw [has_nat]; exact h2⟩
    cases hl : (g.moves.getD i []).filter (has s) with
    | nil => rw [hl] at hmem; cases hmem
    | cons x l => rfl
include hr hs h in
/-- .. and the player wins it everywhere. -/
theorem part_wins : WinsIn (g.part s) (· < (g.old s).length) p (fun j => (((g.old s).idxOf (mv ((g.old s).getD j 0)).toNat : Nat) : Int)) (· < (g.old s).length) := by
  have hm := hr.many
  have hold := memOld hs
  have hat : ∀ j, j < (g.old s).length → Bit s ((g.old s).getD j 0) := fun j hj => (hold _).1 (getD_mem hj)
  refine ⟨fun i hi => hi, fun j hj ho => ?_, fun j _ _ y _ hy => hy, fun j hj hpj hc => ?_⟩
  · rw [(part_at hj).1] at ho
    obtain ⟨i, h1, h2, h3⟩ := h.own _ (hat j hj) ho
    have hi := (hold i).2 h3
    have e : (mv ((g.old s).getD j 0)).toNat = i := by rw [← h1]; simp
    refine ⟨(g.old s).idxOf i, by rw [e], ?_, List.idxOf_lt_length_of_mem hi⟩
    rw [(part_at hj).2.2]
    exact renum_mem h2 h3
  · rw [(part_at hj).2.1] at hpj hc
    have key : ∀ x y, x < (g.old s).length → Path (Edge (g.part s) (· < (g.old s).length) p fun j => (((g.old s).idxOf (mv ((g.old s).getD j 0)).toNat : Nat) : Int)) (fun y => y < (g.old s).length ∧ (g.part s).prio.getD y 0 ≤ g.prio.getD ((g.old s).getD j 0) 0) x y →
        Path (Edge g (· < g.owner.length) p mv) (fun y => Bit s y ∧ g.prio.getD y 0 ≤ g.prio.getD ((g.old s).getD j 0) 0) ((g.old s).getD x 0) ((g.old s).getD y 0) := by
      intro x y hx hp
      have he : ∀ {a b : Nat}, a < (g.old s).length → Edge (g.part s) (· < (g.old s).length) p (fun j => (((g.old s).idxOf (mv ((g.old s).getD j 0)).toNat : Nat) : Int)) a b → Edge g (· < g.owner.length) p mv ((g.old s).getD a 0) ((g.old s).getD b 0) := fun {a b} ha e => by
        have e1 := e.1
        rw [(part_at ha).2.2] at e1
        obtain ⟨m, h1, h2, h3⟩ := mem_renum e1
        have hin := hs _ (hat a ha)
        have h4 := hr.moves_in hin m h1
        obtain ⟨m', rfl⟩ := Int.eq_ofNat_of_zero_le h4.1
        rw [has_nat] at h2
        have hmo : m' ∈ g.old s := (hold m').2 h2
        have eb : (g.old s).getD b 0 = m' := by
          rw [h3]
          simp only [Int.toNat_natCast]
          exact getD_idx hmo
        rw [eb]
        refine ⟨h1, by omega, fun ho => ?_⟩
        have h5 : (b : Int) = (((g.old s).idxOf (mv ((g.old s).getD a 0)).toNat : Nat) : Int) := e.2.2 (by rw [(part_at ha).1]; exact ho)
        obtain ⟨i, h6, h7, h8⟩ := h.own _ (hat a ha) ho
        have e2 : (mv ((g.old s).getD a 0)).toNat = i := by rw [← h6]; simp
        rw [e2] at h5
        have h9 : b = (g.old s).idxOf i := by omega
        rw [h9, getD_idx ((hold i).2 h8)] at eb
        rw [← h6, eb]
      have hk : ∀ {b : Nat}, b < (g.old s).length ∧ (g.part s).prio.getD b 0 ≤ g.prio.getD ((g.old s).getD j 0) 0 → Bit s ((g.old s).getD b 0) ∧ g.prio.getD ((g.old s).getD b 0) 0 ≤ g.prio.getD ((g.old s).getD j 0) 0 := fun {b} hb => ⟨hat b hb.1, by rw [← (part_at hb.1).2.1]; exact hb.2⟩
      induction hp with
      | one e hok => exact .one (he hx e) (hk hok)
      | more e hok _ ih => exact .more (he hx e) (hk hok) (ih hok.1)
    exact h.good _ (hat j hj) hpj (key j j hj hc)
include hr hs h in
/-- What Solve says of that game: all is this player's. -/
theorem part_all (hp : p = 0 ∨ p = 1) {m : Nat} (hm : (g.old s).length = m) {X Y : BitVec 256} (k : Solved (g.part s) (· < m) (Bit X) (Bit Y)) : (∀ i, Bit (if p = 0 then X else Y) i ↔ i < m) ∧ ∀ i, ¬ Bit (if p = 0 then Y else X) i := by
  subst hm
  have hw := part_wins hr hs h
  have hown : ∀ j, j < (g.old s).length → (g.part s).owner.getD j 0 = 0 ∨ (g.part s).owner.getD j 0 = 1 := fun j hj => by
    rw [(part_at hj).1]
    exact (hr.at _ (hs _ ((memOld hs _).1 (getD_mem hj)))).1
  rcases hp with rfl | rfl
  · have hsol : Solved (g.part s) (· < (g.old s).length) (· < (g.old s).length) (fun _ => False) := ⟨_, fun _ => 0, hw, wins_none _ _ _ _, fun i hi => .inl hi⟩
    have hu := fun i => hsol.unique (g.old s).length (fun i hi => hi) hown k i
    rw [if_pos rfl, if_pos rfl]
    exact ⟨fun i => (hu i).1.symm, fun i hi => (hu i).2.2 hi⟩
  · have hsol : Solved (g.part s) (· < (g.old s).length) (fun _ => False) (· < (g.old s).length) := ⟨fun _ => 0, _, wins_none _ _ _ _, hw, fun i hi => .inr hi⟩
    have hu := fun i => hsol.unique (g.old s).length (fun i hi => hi) hown k i
    rw [if_neg (by decide), if_neg (by decide)]
    exact ⟨fun i => (hu i).2.symm, fun i hi => (hu i).1.2 hi⟩
end
end P
end Go.Proofs.YtpjmboonaciplaaDoor
