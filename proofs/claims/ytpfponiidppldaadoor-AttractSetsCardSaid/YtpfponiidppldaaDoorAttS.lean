/- What Attract's set is, as a set; what follows from it. Plain facts, no program. -/
import Derived.Test.YtpfponiidppldaaDoorAttP
import Derived.Test.YtpfponiidppldaaDoorPartsP
namespace Go.Proofs.YtpfponiidppldaaDoor
namespace P
open Classical in
/-- The positions from where the player can force its way. -/
noncomputable def attSet (g : G) (I : BitVec 256) (p : Int) (To : BitVec 256) : BitVec 256 := ofL (((List.range g.owner.length).filter (fun x => decide (Att g I p To x))).map fun (x : Nat) => (x : Int))
theorem attSet_bit {g : G} (hr : g.Right) {I To : BitVec 256} {p : Int} (x : Nat) : (attSet g I p To).getLsbD x = true ↔ Att g I p To x := by
  have hm := hr.many
  rcases Nat.lt_or_ge x 256 with hx | hx
  · unfold attSet
    rw [getLsbD_ofL _ _ hx, decide_eq_true_eq, List.mem_map]
    constructor
    · rintro ⟨y, hy, e⟩
      obtain rfl : y = x := by omega
      simpa using (List.mem_filter.1 hy).2
    · intro h
      exact ⟨x, List.mem_filter.2 ⟨List.mem_range.2 h.bound.1, by simpa using h⟩, rfl⟩
  · rw [BitVec.getLsbD_of_ge _ _ hx]
    constructor
    · intro h; cases h
    · intro h; have := h.bound.1; omega
/-- What Attract answers. -/
noncomputable def attOf (g : G) (I : BitVec 256) (p : Int) (To : BitVec 256) : BitVec 256 := if g.ok = true ∧ (p = 0 ∨ p = 1) then attSet g I p To else 0#256
theorem attOf_ok {g : G} (hr : g.Right) {p : Int} (hp : p = 0 ∨ p = 1) (I To : BitVec 256) : attOf g I p To = attSet g I p To := by
  unfold attOf
  rw [if_pos ⟨(G.ok_iff g).2 hr, hp⟩]
theorem set_ext {s t : BitVec 256} (h : ∀ x, x < 256 → (s.getLsbD x = true ↔ t.getLsbD x = true)) : s = t := by
  apply BitVec.eq_of_getLsbD_eq
  intro i hi
  rw [Bool.eq_iff_iff]
  exact h i hi
theorem set_in {s t : BitVec 256} (h : ∀ x, s.getLsbD x = true → t.getLsbD x = true) : s ||| t = t := by
  refine set_ext fun x _ => ?_
  rw [BitVec.getLsbD_or, Bool.or_eq_true]
  exact ⟨fun h1 => h1.elim (h x) id, fun h1 => .inr h1⟩
theorem att_full {g : G} (hr : g.Right) {I To : BitVec 256} {p : Int} (x : Nat) : Att g (I &&& full g.owner.length) p To x ↔ Att g I p To x := by
  have hf : ∀ y, y < g.owner.length → (I &&& full g.owner.length).getLsbD y = I.getLsbD y := fun y hy => by
    have hm := hr.many
    rw [BitVec.getLsbD_and, getLsbD_full, decide_eq_true (by omega), Bool.and_true]
  have hb : ∀ (y m : Nat), y < g.owner.length → (m : Int) ∈ g.moves.getD y [] → m < g.owner.length := fun y m hy h => by
    have := (rise_bounds (hr.at y hy).2.2.2.2 m h).2
    omega
  constructor
  · intro h
    induction h with
    | base i h1 h2 h3 => exact .base i h1 (by rw [← hf i h1]; exact h2) h3
    | own i m h1 h2 h3 h4 h5 _ ih => exact .own i m h1 (by rw [← hf i h1]; exact h2) h3 h4 (by rw [← hf m (hb i m h1 h4)]; exact h5) ih
    | oth i h1 h2 h3 h4 _ ih =>
      obtain ⟨m, h5, h6⟩ := h4
      exact .oth i h1 (by rw [← hf i h1]; exact h2) h3 ⟨m, h5, by rw [← hf m (hb i m h1 h5)]; exact h6⟩ fun k h7 h8 => ih k h7 (by rw [hf k (hb i k h1 h7)]; exact h8)
  · intro h
    induction h with
    | base i h1 h2 h3 => exact .base i h1 (by rw [hf i h1]; exact h2) h3
    | own i m h1 h2 h3 h4 h5 _ ih => exact .own i m h1 (by rw [hf i h1]; exact h2) h3 h4 (by rw [hf m (hb i m h1 h4)]; exact h5) ih
    | oth i h1 h2 h3 h4 _ ih =>
      obtain ⟨m, h5, h6⟩ := h4
      exact .oth i h1 (by rw [hf i h1]; exact h2) h3 ⟨m, h5, by rw [hf m (hb i m h1 h5)]; exact h6⟩ fun k h7 h8 => ih k h7 (by rw [← hf k (hb i k h1 h7)]; exact h8)
theorem attOf_full (g : G) (I To : BitVec 256) (p : Int) : attOf g (I &&& full g.owner.length) p To = attOf g I p To := by
  unfold attOf
  by_cases h : g.ok = true ∧ (p = 0 ∨ p = 1)
  · have hr := (G.ok_iff g).1 h.1
    rw [if_pos h, if_pos h]
    exact set_ext fun x _ => by rw [attSet_bit hr, attSet_bit hr, att_full hr]
  · rw [if_neg h, if_neg h]
theorem attOf_again (g : G) (I To : BitVec 256) (p : Int) : attOf g I p (attOf g I p To) = attOf g I p To := by
  by_cases h : g.ok = true ∧ (p = 0 ∨ p = 1)
  · have hr := (G.ok_iff g).1 h.1
    rw [attOf_ok hr h.2, attOf_ok hr h.2]
    refine set_ext fun x _ => ?_
    rw [attSet_bit hr, attSet_bit hr]
    exact att_again (fun i _ => attSet_bit hr i) x
  · unfold attOf
    rw [if_neg h, if_neg h]
theorem attOf_more (g : G) (I To More : BitVec 256) (p : Int) : attOf g I p To ||| attOf g I p (To ||| More) = attOf g I p (To ||| More) := by
  by_cases h : g.ok = true ∧ (p = 0 ∨ p = 1)
  · have hr := (G.ok_iff g).1 h.1
    rw [attOf_ok hr h.2, attOf_ok hr h.2]
    refine set_in fun x hx => ?_
    rw [attSet_bit hr] at hx ⊢
    exact hx.mono fun i hi => by rw [BitVec.getLsbD_or, hi, Bool.true_or]
  · unfold attOf
    rw [if_neg h, if_neg h]
    rfl
theorem attOf_none (g : G) (I : BitVec 256) (p : Int) : attOf g I p 0#256 = 0#256 := by
  by_cases h : g.ok = true ∧ (p = 0 ∨ p = 1)
  · have hr := (G.ok_iff g).1 h.1
    rw [attOf_ok hr h.2]
    refine set_ext fun x _ => ?_
    rw [attSet_bit hr, BitVec.getLsbD_zero]
    exact ⟨fun h1 => absurd h1 (att_none x), fun h1 => by cases h1⟩
  · unfold attOf
    rw [if_neg h]
theorem attOf_nowhere (g : G) (To : BitVec 256) (p : Int) : attOf g 0#256 p To = 0#256 := by
  by_cases h : g.ok = true ∧ (p = 0 ∨ p = 1)
  · have hr := (G.ok_iff g).1 h.1
    rw [attOf_ok hr h.2]
    refine set_ext fun x _ => ?_
    rw [attSet_bit hr, BitVec.getLsbD_zero]
    exact ⟨fun h1 => by have := h1.bound.2; rw [BitVec.getLsbD_zero] at this; exact this, fun h1 => by cases h1⟩
  · unfold attOf
    rw [if_neg h]
/-- In the game's dual the other player attracts the same. -/
theorem attOf_turned {g d : G} {n : Nat} {y : Int} (hr : g.Right) (hn : n = g.owner.length) (hd : Turn g d n y) (I To : BitVec 256) {p : Int} (hp : p = 0 ∨ p = 1) : attOf d I (1 - p) To = attOf g I p To := by
  subst hn
  rw [attOf_ok hr hp, attOf_ok hd.right (by omega)]
  refine set_ext fun x _ => ?_
  rw [attSet_bit hr, attSet_bit hd.right]
  exact (att_dual hd.ol hd.ow hd.mo x).symm
/-- Who owns more attracts no less. -/
theorem attOf_owners {g d : G} (hr : g.Right) (hd : d.Right) {p : Int} (hp : p = 0 ∨ p = 1) (hl : d.owner.length = g.owner.length) (ho : ∀ i, i < g.owner.length → g.owner.getD i 0 = p → d.owner.getD i 0 = p) (hm : ∀ i, d.moves.getD i [] = g.moves.getD i []) (I To : BitVec 256) : attOf g I p To ||| attOf d I p To = attOf d I p To := by
  rw [attOf_ok hr hp, attOf_ok hd hp]
  refine set_in fun x hx => ?_
  rw [attSet_bit hr] at hx
  rw [attSet_bit hd]
  exact att_owners hl ho hm hx
/-- The set lies within. -/
theorem attOf_within (g : G) (I To : BitVec 256) (p : Int) : attOf g I p To ||| I = I := by
  by_cases h : g.ok = true ∧ (p = 0 ∨ p = 1)
  · have hr := (G.ok_iff g).1 h.1
    rw [attOf_ok hr h.2]
    refine set_in fun x hx => ?_
    rw [attSet_bit hr] at hx
    exact hx.bound.2
  · unfold attOf
    rw [if_neg h]
    simp
/-- What of to lies within is in it. -/
theorem attOf_holds {g : G} (hr : g.Right) {p : Int} (hp : p = 0 ∨ p = 1) (I To : BitVec 256) : (To &&& (I &&& full g.owner.length)) ||| attOf g I p To = attOf g I p To := by
  rw [attOf_ok hr hp]
  refine set_in fun x hx => ?_
  rw [attSet_bit hr]
  simp only [BitVec.getLsbD_and, Bool.and_eq_true, getLsbD_full, decide_eq_true_eq] at hx
  exact .base x (by omega) hx.2.1 hx.1
/-- From what is left the player can't come in: a position of its own. -/
theorem attOf_mine {g : G} (hr : g.Right) {p : Int} (hp : p = 0 ∨ p = 1) {I To : BitVec 256} {i : Nat} (hi : i < g.owner.length) (h1 : I.getLsbD i = true) (h2 : (attOf g I p To).getLsbD i = false) (ho : g.owner.getD i 0 = p) : ofL (g.moves.getD i []) &&& I &&& attOf g I p To = 0#256 := by
  rw [attOf_ok hr hp] at h2 ⊢
  refine set_ext fun x hx => ?_
  rw [BitVec.getLsbD_zero]
  simp only [BitVec.getLsbD_and, Bool.and_eq_true, getLsbD_ofL _ _ hx, decide_eq_true_eq]
  refine ⟨fun ⟨⟨h3, h4⟩, h5⟩ => ?_, fun h => by cases h⟩
  have := (attSet_bit hr i).2 (.own i x hi h1 ho h3 h4 ((attSet_bit hr x).1 h5))
  rw [this] at h2
  exact h2.symm
/-- And a position of the other's. -/
theorem attOf_his {g : G} (hr : g.Right) {p : Int} (hp : p = 0 ∨ p = 1) {I To : BitVec 256} {i : Nat} (hi : i < g.owner.length) (h1 : I.getLsbD i = true) (h2 : (attOf g I p To).getLsbD i = false) (ho : g.owner.getD i 0 ≠ p) (hl : ofL (g.moves.getD i []) &&& I ≠ 0#256) : ofL (g.moves.getD i []) &&& I &&& (I &&& ~~~ attOf g I p To) ≠ 0#256 := by
  rw [attOf_ok hr hp] at h2 ⊢
  intro hz
  have hbit : ∀ x : Nat, x < 256 → ¬ ((x : Int) ∈ g.moves.getD i [] ∧ I.getLsbD x = true ∧ (attSet g I p To).getLsbD x = false) := fun x hx ⟨h3, h4, h5⟩ => by
    have := congrArg (fun s => s.getLsbD x) hz
    simp only [BitVec.getLsbD_and, BitVec.getLsbD_not, BitVec.getLsbD_zero, getLsbD_ofL _ _ hx, h4, h5, decide_eq_true h3, decide_eq_true hx] at this
    cases this
  have lt : ∀ x, I.getLsbD x = true → x < 256 := fun x h => by
    rcases Nat.lt_or_ge x 256 with h3 | h3
    · exact h3
    · rw [BitVec.getLsbD_of_ge _ _ h3] at h; cases h
  have hex : ∃ m : Nat, (m : Int) ∈ g.moves.getD i [] ∧ I.getLsbD m = true := by
    by_cases e : ∃ m : Nat, (m : Int) ∈ g.moves.getD i [] ∧ I.getLsbD m = true
    · exact e
    · refine absurd (set_ext fun x hx => ?_) hl
      rw [BitVec.getLsbD_zero]
      simp only [BitVec.getLsbD_and, Bool.and_eq_true, getLsbD_ofL _ _ hx, decide_eq_true_eq]
      exact ⟨fun h3 => absurd ⟨x, h3⟩ e, fun h3 => by cases h3⟩
  have := (attSet_bit hr i).2 (.oth i hi h1 ho hex fun m h3 h4 => by
    cases e : (attSet g I p To).getLsbD m
    · exact absurd ⟨h3, h4, e⟩ (hbit m (lt m h4))
    · exact (attSet_bit hr m).1 e)
  rw [this] at h2
  cases h2
end P
end Go.Proofs.YtpfponiidppldaaDoor
