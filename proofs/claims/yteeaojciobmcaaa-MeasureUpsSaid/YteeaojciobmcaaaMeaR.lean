/- How far a tuple is from Top; the least list that no lift changes. Plain. -/
import Derived.Test.YteeaojciobmcaaaMeaQ
namespace Go.Proofs.Yteeaojciobmcaaa
namespace P
namespace Tup
def span (n : Tup) : Nat := (((n.d.toNat + 1) * (n.c.toNat + 1)) * (n.b.toNat + 1)) * (n.a.toNat + 1)
/-- A tuple's number. -/
def rk (n t : Tup) : Nat := if t.top = true then span n else ((t.d.toNat * (n.c.toNat + 1) + t.c.toNat) * (n.b.toNat + 1) + t.b.toNat) * (n.a.toNat + 1) + t.a.toNat
theorem mix_lt {x x' y y' B : Nat} (h : x < x' ∨ x = x' ∧ y < y') (hy : y < B) : x * B + y < x' * B + y' := by
  rcases h with h | ⟨rfl, h⟩
  · have := Nat.mul_le_mul_right B (show x + 1 ≤ x' from h)
    rw [Nat.add_mul, Nat.one_mul] at this
    omega
  · omega
theorem mix_le {x X y B : Nat} (h : x < X) (hy : y < B) : x * B + y < X * B := by
  have := Nat.mul_le_mul_right B (show x + 1 ≤ X from h)
  rw [Nat.add_mul, Nat.one_mul] at this
  omega
theorem rk_span {n t : Tup} (ht : inR n t) (h : t.top = false) : rk n t < span n := by
  unfold rk span
  rw [if_neg (by rw [h]; simp)]
  unfold inR at ht
  exact mix_le (mix_le (mix_le (by omega) (by omega)) (by omega)) (by omega)
theorem rk_le {n t : Tup} (ht : inR n t) : rk n t ≤ span n := by
  cases h : t.top
  · exact Nat.le_of_lt (rk_span ht h)
  · unfold rk
    rw [if_pos h]
    exact Nat.le_refl _
theorem rk_lt {n s t : Tup} (hs : inR n s) (ht : inR n t) (h : ¬ le t s) : rk n s < rk n t := by
  have h1 := h
  unfold le at h1
  cases es : s.top
  · cases et : t.top
    · unfold rk
      rw [if_neg (by rw [es]; simp), if_neg (by rw [et]; simp)]
      rw [es, et] at h1
      simp only [Bool.false_eq_true, false_or, true_and] at h1
      unfold inR at hs ht
      refine mix_lt ?_ (by omega)
      by_cases e1 : s.d < t.d ∨ s.d = t.d ∧ (s.c < t.c ∨ s.c = t.c ∧ s.b < t.b)
      · left
        refine mix_lt ?_ (by omega)
        by_cases e2 : s.d < t.d ∨ s.d = t.d ∧ s.c < t.c
        · left
          exact mix_lt (by omega) (by omega)
        · right
          have e3 : s.d = t.d := by omega
          have e4 : s.c = t.c := by omega
          rw [e3, e4]
          exact ⟨rfl, by omega⟩
      · right
        have e3 : s.d = t.d := by omega
        have e4 : s.c = t.c := by omega
        have e5 : s.b = t.b := by omega
        rw [e3, e4, e5]
        exact ⟨rfl, by omega⟩
    · have := rk_span hs es
      unfold rk at this ⊢
      rw [if_pos et]
      exact this
  · exact absurd (.inl es) h1
end Tup
/-- How much a list can still be lifted. -/
def slack (n : Tup) : List Tup → Nat
  | [] => 0
  | t :: l => (Tup.span n - Tup.rk n t) + slack n l
theorem slack_set (n : Tup) (t : Tup) : ∀ (l : List Tup) (i : Nat), i < l.length → Tup.rk n (l.getD i .zero) < Tup.rk n t → Tup.rk n t ≤ Tup.span n → slack n (l.set i t) < slack n l
  | [], i, h, _, _ => nomatch h
  | u :: l, 0, _, h1, h2 => by
    rw [List.set_cons_zero, slack, slack]
    rw [List.getD_cons_zero] at h1
    omega
  | u :: l, i + 1, h, h1, h2 => by
    rw [List.set_cons_succ, slack, slack]
    rw [List.getD_cons_succ] at h1
    have := slack_set n t l i (by simpa using h) h1 h2
    omega
theorem tget_nat (l : List Tup) (i : Nat) : tget l (i : Int) = l.getD i .zero := by rw [tget, Int.toNat_natCast]
theorem tget_at {g : G} (hr : g.Right) {i : Nat} (hi : i < g.owner.length) {x : Int} (hx : x ∈ g.moves.getD i []) : ∃ j : Nat, j < g.owner.length ∧ x = j ∧ ∀ l, tget l x = l.getD j .zero := by
  have := hr.moves_in hi x hx
  exact ⟨x.toNat, by omega, by omega, fun l => rfl⟩
/-- Are all of a list's tuples as high as what the moves make? -/
def Fixed (g : G) (l : List Tup) : Prop := ∀ i, i < g.owner.length → Tup.le (g.choose l i).2 (l.getD i .zero)
def Rng (g : G) (l : List Tup) : Prop := l.length = g.owner.length ∧ ∀ i, i < g.owner.length → Tup.inR g.tups (l.getD i .zero)
/-- A list below all that stand. -/
def Low (g : G) (l : List Tup) : Prop := l.length = g.owner.length ∧ (∀ i, i < g.owner.length → Tup.good g.tups (l.getD i .zero)) ∧ ∀ m, Rng g m → Fixed g m → ∀ i, i < g.owner.length → Tup.le (l.getD i .zero) (m.getD i .zero)
theorem Low.rng {g : G} {l : List Tup} (h : Low g l) : Rng g l := ⟨h.1, fun i hi => (h.2.1 i hi).1⟩
theorem choose_good {g : G} (hr : g.Right) {l : List Tup} (h : Rng g l) {i : Nat} (hi : i < g.owner.length) : Tup.good g.tups (g.choose l i).2 := by
  obtain ⟨⟨x, hx, e⟩, -, -⟩ := G.choose_spec hr l hi
  obtain ⟨j, hj, -, hg⟩ := tget_at hr hi hx
  rw [e, hg]
  exact Tup.up_good _ g.tups_inR (h.2 j hj)
theorem choose_mono {g : G} (hr : g.Right) {l m : List Tup} (hl : Rng g l) (hm : Rng g m) (h : ∀ i, i < g.owner.length → Tup.le (l.getD i .zero) (m.getD i .zero)) {i : Nat} (hi : i < g.owner.length) : Tup.le (g.choose l i).2 (g.choose m i).2 := by
  obtain ⟨⟨x, hx, e⟩, a0, a1⟩ := G.choose_spec hr l hi
  obtain ⟨⟨y, hy, f⟩, b0, b1⟩ := G.choose_spec hr m hi
  have mono : ∀ z ∈ g.moves.getD i [], Tup.le (Tup.up g.tups (g.prio.getD i 0) (tget l z)) (Tup.up g.tups (g.prio.getD i 0) (tget m z)) := by
    intro z hz
    obtain ⟨j, hj, -, hg⟩ := tget_at hr hi hz
    rw [hg, hg]
    exact Tup.up_mono _ (hl.2 j hj) (hm.2 j hj) (h j hj)
  rcases (hr.at i hi).1 with ho | ho
  · have h1 := a0 ho y hy
    rw [f]
    exact Tup.le_trans h1 (mono y hy)
  · have h1 := b1 ho x hx
    rw [e]
    exact Tup.le_trans (mono x hx) h1
theorem zero_low {g : G} : Low g (List.replicate g.owner.length .zero) := by
  refine ⟨List.length_replicate, fun i hi => ?_, fun m hm _ i hi => ?_⟩
  all_goals rw [List.getD_eq_getElem?_getD, List.getElem?_replicate, if_pos hi, Option.getD_some]
  · refine Tup.good_of ?_ rfl
    have := g.tups_inR
    unfold Tup.inR Tup.zero at *
    simp only
    omega
  · exact Tup.zero_le (hm.2 i hi)
theorem getD_set (l : List Tup) (i j : Nat) (t : Tup) (hi : i < l.length) : (l.set i t).getD j .zero = if i = j then t else l.getD j .zero := by
  rw [List.getD_eq_getElem?_getD, List.getD_eq_getElem?_getD, List.getElem?_set]
  by_cases h : i = j
  · rw [if_pos h, if_pos h, if_pos hi, Option.getD_some]
  · rw [if_neg h, if_neg h]
/-- Lifted, a list that is below all that stand is so still. -/
theorem Low.lifted {g : G} (hr : g.Right) {l : List Tup} (h : Low g l) {i : Nat} (hi : i < g.owner.length) : Low g (l.set i (g.choose l i).2) := by
  have hl : i < l.length := by rw [h.1]; exact hi
  refine ⟨by rw [List.length_set]; exact h.1, fun j hj => ?_, fun m hm hf j hj => ?_⟩
  · rw [getD_set l i j _ hl]
    split
    · exact choose_good hr h.rng hi
    · exact h.2.1 j hj
  · rw [getD_set l i j _ hl]
    split
    · rename_i e
      subst e
      exact Tup.le_trans (choose_mono hr h.rng hm (h.2.2 m hm hf) hi) (hf i hi)
    · exact h.2.2 m hm hf j hj
/-- What lifting ends in. -/
def IsSol (g : G) (l : List Tup) : Prop := Low g l ∧ Fixed g l
theorem IsSol.unique {g : G} {l m : List Tup} (h : IsSol g l) (k : IsSol g m) : l = m := by
  apply List.ext_getElem (by rw [h.1.1, k.1.1])
  intro i h1 h2
  have hi : i < g.owner.length := by rw [← h.1.1]; exact h1
  have e := Tup.le_antisymm (h.1.2.1 i hi) (k.1.2.1 i hi) (h.1.2.2 m k.1.rng k.2 i hi) (k.1.2.2 l h.1.rng h.2 i hi)
  rw [List.getD_eq_getElem?_getD, List.getD_eq_getElem?_getD, List.getElem?_eq_getElem h1, List.getElem?_eq_getElem h2] at e
  exact e
theorem lift_eq {g : G} {l : List Tup} {i : Nat} (h : ¬ Tup.le (g.choose l i).2 (l.getD i .zero)) : g.lift l i = (g.choose l i).2 := by
  unfold G.lift
  rw [if_pos ((Tup.cmp_lt _ _).2 h)]
theorem lift_same {g : G} {l : List Tup} {i : Nat} (h : Tup.le (g.choose l i).2 (l.getD i .zero)) : g.lift l i = l.getD i .zero := by
  unfold G.lift
  rw [if_neg (fun e => (Tup.cmp_lt _ _).1 e h)]
/-- A lift changes what is not as high as what the moves make, and nothing else. -/
theorem lift_iff {g : G} {l : List Tup} {i : Nat} : g.lift l i = l.getD i .zero ↔ Tup.le (g.choose l i).2 (l.getD i .zero) := by
  constructor
  · intro h
    by_cases e : Tup.le (g.choose l i).2 (l.getD i .zero)
    · exact e
    · rw [lift_eq e] at h
      rw [h]
      exact Tup.le_refl _
  · exact lift_same
theorem slack_lifted {g : G} (hr : g.Right) {l : List Tup} (h : Rng g l) {i : Nat} (hi : i < g.owner.length) (hn : ¬ Tup.le (g.choose l i).2 (l.getD i .zero)) : slack g.tups (l.set i (g.choose l i).2) < slack g.tups l :=
  slack_set _ _ _ _ (by rw [h.1]; exact hi) (Tup.rk_lt (h.2 i hi) (choose_good hr h hi).1 hn) (Tup.rk_le (choose_good hr h hi).1)
end P
end Go.Proofs.Yteeaojciobmcaaa
