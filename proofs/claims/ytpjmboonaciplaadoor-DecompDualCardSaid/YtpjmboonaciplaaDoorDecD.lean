/- With the players exchanged the regions change places. Plain. -/
import Derived.Test.YtpjmboonaciplaaDoorDecX
import Derived.Test.YtpjmboonaciplaaDoorHlv
namespace Go.Proofs.YtpjmboonaciplaaDoor
namespace P
section
variable {g : G} {y : Int}
theorem turned_own {i : Nat} (hi : i < g.owner.length) : (g.turned y).owner.getD i 0 = 1 - g.owner.getD i 0 := by
  unfold G.turned
  rw [List.getD_eq_getElem?_getD, List.getD_eq_getElem?_getD, List.getElem?_map, List.getElem?_eq_getElem hi]
  rfl
theorem turned_prio {i : Nat} (hi : i < g.prio.length) : (g.turned y).prio.getD i 0 = g.prio.getD i 0 + y := by
  unfold G.turned
  rw [List.getD_eq_getElem?_getD, List.getD_eq_getElem?_getD, List.getElem?_map, List.getElem?_eq_getElem hi]
  rfl
theorem turned_moves : (g.turned y).moves = g.moves := rfl
theorem WinsIn.turned (hr : g.Right) {R : Nat → Prop} {p : Int} {mv : Nat → Int} (hy : y % 2 ≠ 0) (h : WinsIn g (· < g.owner.length) (1 - p) mv R) : WinsIn (g.turned y) (· < g.owner.length) p mv R := by
  have hpl : g.prio.length = g.owner.length := hr.prio
  have hown : ∀ i, i < g.owner.length → ((g.turned y).owner.getD i 0 = p ↔ g.owner.getD i 0 = 1 - p) := fun i hi => by
    rw [turned_own hi]
    omega
  refine ⟨h.sub, fun i hi ho => h.own i hi ((hown i (h.sub i hi)).1 ho), fun i hi ho => h.oth i hi (fun e => ho ((hown i (h.sub i hi)).2 e)), fun i hi hpi hc => ?_⟩
  have hin := h.sub i hi
  rw [turned_prio (by omega)] at hpi hc
  have key : ∀ x z, R x → Path (Edge (g.turned y) (· < g.owner.length) p mv) (fun j => R j ∧ (g.turned y).prio.getD j 0 ≤ g.prio.getD i 0 + y) x z → Path (Edge g (· < g.owner.length) (1 - p) mv) (fun j => R j ∧ g.prio.getD j 0 ≤ g.prio.getD i 0) x z := by
    intro x z hx hpth
    have he : ∀ {a b : Nat}, R a → Edge (g.turned y) (· < g.owner.length) p mv a b → Edge g (· < g.owner.length) (1 - p) mv a b := fun ha e => ⟨e.1, e.2.1, fun ho => e.2.2 ((hown _ (h.sub _ ha)).2 ho)⟩
    have hk : ∀ {b : Nat}, R b ∧ (g.turned y).prio.getD b 0 ≤ g.prio.getD i 0 + y → R b ∧ g.prio.getD b 0 ≤ g.prio.getD i 0 := fun {b} hb => by
      have h1 := hb.2
      have h2 : b < g.owner.length := h.sub b hb.1
      rw [turned_prio (by omega)] at h1
      exact ⟨hb.1, by omega⟩
    induction hpth with
    | one e hok => exact .one (he hx e) (hk hok)
    | more e hok _ ih => exact .more (he hx e) (hk hok) (ih hok.1)
  exact h.good i hi (by omega) (key i i hi hc)
theorem Solved.turned (hr : g.Right) {A B : Nat → Prop} (hy : y % 2 ≠ 0) (h : Solved g (· < g.owner.length) A B) : Solved (g.turned y) (· < g.owner.length) B A := by
  obtain ⟨m0, m1, h0, h1, h2⟩ := h
  exact ⟨m1, m0, h1.turned (p := 0) hr hy, h0.turned (p := 1) hr hy, fun i hi => (h2 i hi).symm⟩
/-- Of two ways to part the games, each to the other's. -/
theorem dual_same (hr : g.Right) {d : G} (hd : g.dual = d) (hd0 : d.owner.length ≠ 0) {X Y X' Y' : BitVec 256} (h : Solved g (· < g.owner.length) (Bit X) (Bit Y)) (k : Solved d (· < d.owner.length) (Bit X') (Bit Y')) : d.owner.length = g.owner.length ∧ X = Y' ∧ Y = X' := by
  subst hd
  have hb : ¬ ((0 : Int) ∈ g.prio ∧ (7 : Int) ∈ g.prio) := fun hb => hd0 (by rw [G.dual_both hr hb.1 hb.2]; rfl)
  have e := G.dual_way hr hb
  have hy : g.way % 2 ≠ 0 := by unfold G.way; split <;> decide
  rw [e] at k hd0 ⊢
  have hl : (g.turned g.way).owner.length = g.owner.length := by unfold G.turned; simp
  rw [hl] at k
  have hu := fun i => (h.turned hr hy).unique g.owner.length (fun i hi => hi) (fun i hi => by
    have h1 := (hr.at i hi).1
    rw [turned_own hi]
    omega) k i
  exact ⟨hl, set_ext fun x _ => (hu x).2, set_ext fun x _ => (hu x).1⟩
theorem dual_right13 (hr : g.Right) (hd0 : g.dual.owner.length ≠ 0) : g.dual.Right ∧ g.dual.owner.length = g.owner.length := by
  have hb : ¬ ((0 : Int) ∈ g.prio ∧ (7 : Int) ∈ g.prio) := fun hb => hd0 (by rw [G.dual_both hr hb.1 hb.2]; rfl)
  rw [G.dual_way hr hb]
  exact ⟨G.turned_right hr hb, (G.turned_len g _).1⟩
end
end P
end Go.Proofs.YtpjmboonaciplaaDoor
