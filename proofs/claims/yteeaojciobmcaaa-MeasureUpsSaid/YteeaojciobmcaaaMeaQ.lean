/- What the moves make of a position; lists that no lift changes; the least of them. Plain. -/
import Derived.Test.YteeaojciobmcaaaMeaP
namespace Go.Proofs.Yteeaojciobmcaaa
namespace P
/-- A tuple of a list. -/
def tget (l : List Tup) (x : Int) : Tup := l.getD x.toNat .zero
/-- Does an owner like one tuple better? -/
def better (o : Int) (t u : Tup) : Bool := decide (o = 0) && decide (Tup.cmp t u 0 < 0) || decide (o = 1) && decide (0 < Tup.cmp t u 0)
/-- The move that an owner likes best, and what it makes; m: what was so so far. -/
def pick (n : Tup) (o p : Int) (l : List Tup) : List Int → Int × Tup → Int × Tup
  | [], m => m
  | x :: xs, m => pick n o p l xs (if m.1 = -1 ∨ better o (Tup.up n p (tget l x)) m.2 = true then (x, Tup.up n p (tget l x)) else m)
/-- How often each counted priority comes. -/
def G.tups (g : G) : Tup := ⟨false, g.prio.count 1, g.prio.count 3, g.prio.count 5, g.prio.count 7⟩
def G.choose (g : G) (l : List Tup) (i : Nat) : Int × Tup := pick g.tups (g.owner.getD i 0) (g.prio.getD i 0) l (g.moves.getD i []) (-1, .zero)
def G.lift (g : G) (l : List Tup) (i : Nat) : Tup := if Tup.cmp (l.getD i .zero) (g.choose l i).2 0 < 0 then (g.choose l i).2 else l.getD i .zero
theorem pick_spec (n : Tup) (o p : Int) (l : List Tup) : ∀ (xs : List Int) (m : Int × Tup), m.1 ≠ -1 → (∀ x ∈ xs, x ≠ -1) →
    (pick n o p l xs m = m ∨ ∃ x ∈ xs, pick n o p l xs m = (x, Tup.up n p (tget l x))) ∧
    (o = 0 → Tup.le (pick n o p l xs m).2 m.2 ∧ ∀ x ∈ xs, Tup.le (pick n o p l xs m).2 (Tup.up n p (tget l x))) ∧
    (o = 1 → Tup.le m.2 (pick n o p l xs m).2 ∧ ∀ x ∈ xs, Tup.le (Tup.up n p (tget l x)) (pick n o p l xs m).2)
  | [], m, _, _ => ⟨.inl rfl, fun _ => ⟨Tup.le_refl _, fun _ h => nomatch h⟩, fun _ => ⟨Tup.le_refl _, fun _ h => nomatch h⟩⟩
  | x :: xs, m, hm, hx => by
    have hx0 := hx x (List.mem_cons_self ..)
    have hxs : ∀ y ∈ xs, y ≠ -1 := fun y hy => hx y (List.mem_cons_of_mem _ hy)
    unfold pick
    by_cases hb : m.1 = -1 ∨ better o (Tup.up n p (tget l x)) m.2 = true
    · rw [if_pos hb]
      obtain ⟨i1, i2, i3⟩ := pick_spec n o p l xs (x, Tup.up n p (tget l x)) hx0 hxs
      have hb := hb.resolve_left hm
      refine ⟨?_, fun h0 => ?_, fun h1 => ?_⟩
      · rcases i1 with i1 | ⟨y, hy, i1⟩
        · exact .inr ⟨x, List.mem_cons_self .., i1⟩
        · exact .inr ⟨y, List.mem_cons_of_mem _ hy, i1⟩
      · obtain ⟨j1, j2⟩ := i2 h0
        subst h0
        have hb : Tup.cmp (Tup.up n p (tget l x)) m.2 0 < 0 := by simpa [better] using hb
        refine ⟨Tup.le_trans j1 ((Tup.cmp_le _ _).1 (Int.le_of_lt hb)), fun y hy => ?_⟩
        rcases List.mem_cons.1 hy with rfl | hy
        · exact j1
        · exact j2 y hy
      · obtain ⟨j1, j2⟩ := i3 h1
        subst h1
        have hb : 0 < Tup.cmp (Tup.up n p (tget l x)) m.2 0 := by simpa [better] using hb
        refine ⟨Tup.le_trans ((Tup.cmp_le _ _).1 (by rw [Tup.cmp_back]; exact (by omega : - Tup.cmp (Tup.up n p (tget l x)) m.2 0 ≤ 0))) j1, fun y hy => ?_⟩
        rcases List.mem_cons.1 hy with rfl | hy
        · exact j1
        · exact j2 y hy
    · rw [if_neg hb]
      obtain ⟨i1, i2, i3⟩ := pick_spec n o p l xs m hm hxs
      have hb : ¬ better o (Tup.up n p (tget l x)) m.2 = true := fun h => hb (.inr h)
      refine ⟨?_, fun h0 => ?_, fun h1 => ?_⟩
      · rcases i1 with i1 | ⟨y, hy, i1⟩
        · exact .inl i1
        · exact .inr ⟨y, List.mem_cons_of_mem _ hy, i1⟩
      · obtain ⟨j1, j2⟩ := i2 h0
        subst h0
        have hb : ¬ Tup.cmp (Tup.up n p (tget l x)) m.2 0 < 0 := by simpa [better] using hb
        refine ⟨j1, fun y hy => ?_⟩
        rcases List.mem_cons.1 hy with rfl | hy
        · exact Tup.le_trans j1 ((Tup.cmp_le _ _).1 (by rw [Tup.cmp_back]; omega))
        · exact j2 y hy
      · obtain ⟨j1, j2⟩ := i3 h1
        subst h1
        have hb : ¬ 0 < Tup.cmp (Tup.up n p (tget l x)) m.2 0 := by simpa [better] using hb
        refine ⟨j1, fun y hy => ?_⟩
        rcases List.mem_cons.1 hy with rfl | hy
        · exact Tup.le_trans ((Tup.cmp_le _ _).1 (by omega)) j1
        · exact j2 y hy
/-- Of player 0's: the move is the first one that makes no more than any. -/
theorem pick_first (n : Tup) (p : Int) (l : List Tup) : ∀ (xs : List Int) (m : Int × Tup), m.1 ≠ -1 → (∀ x ∈ xs, x ≠ -1) →
    (pick n 0 p l xs m = m ∨ ∃ ys x zs, xs = ys ++ x :: zs ∧ pick n 0 p l xs m = (x, Tup.up n p (tget l x)) ∧ Tup.cmp m.2 (Tup.up n p (tget l x)) 0 ≠ 0 ∧ ∀ y ∈ ys, Tup.cmp (Tup.up n p (tget l y)) (Tup.up n p (tget l x)) 0 ≠ 0)
  | [], m, _, _ => .inl rfl
  | x :: xs, m, hm, hx => by
    have hx0 := hx x (List.mem_cons_self ..)
    have hxs : ∀ y ∈ xs, y ≠ -1 := fun y hy => hx y (List.mem_cons_of_mem _ hy)
    have key : ∀ (m' : Int × Tup), m'.1 ≠ -1 → ∀ (t : Tup), Tup.le m'.2 t → ∀ u, pick n 0 p l xs m' = u → Tup.cmp m'.2 u.2 0 ≠ 0 → Tup.cmp t u.2 0 ≠ 0 := by
      intro m' hm' t ht u hu hne h
      have hs := ((pick_spec n 0 p l xs m' hm' hxs).2.1 rfl).1
      rw [hu] at hs
      have h2 : ¬ Tup.cmp m'.2 u.2 0 ≤ 0 := by
        intro h3
        have : Tup.cmp u.2 m'.2 0 ≤ 0 := (Tup.cmp_le _ _).2 hs
        rw [Tup.cmp_back] at this
        omega
      exact h2 ((Tup.cmp_le _ _).2 (Tup.le_trans ht ((Tup.cmp_le _ _).1 (by omega))))
    unfold pick
    by_cases hb : m.1 = -1 ∨ better 0 (Tup.up n p (tget l x)) m.2 = true
    · rw [if_pos hb]
      have hb := hb.resolve_left hm
      have hb : Tup.cmp (Tup.up n p (tget l x)) m.2 0 < 0 := by simpa [better] using hb
      rcases pick_first n p l xs (x, Tup.up n p (tget l x)) hx0 hxs with i1 | ⟨ys, y, zs, e1, e2, e3, e4⟩
      · exact .inr ⟨[], x, xs, rfl, i1, by rw [Tup.cmp_back]; omega, fun _ h => nomatch h⟩
      · refine .inr ⟨x :: ys, y, zs, by rw [e1]; rfl, e2, ?_, ?_⟩
        · exact key (x, Tup.up n p (tget l x)) hx0 m.2 ((Tup.cmp_le _ _).1 (by exact Int.le_of_lt hb)) (y, Tup.up n p (tget l y)) e2 e3
        · intro z hz
          rcases List.mem_cons.1 hz with rfl | hz
          · exact e3
          · exact e4 z hz
    · rw [if_neg hb]
      have hb : ¬ better 0 (Tup.up n p (tget l x)) m.2 = true := fun h => hb (.inr h)
      have hb : ¬ Tup.cmp (Tup.up n p (tget l x)) m.2 0 < 0 := by simpa [better] using hb
      rcases pick_first n p l xs m hm hxs with i1 | ⟨ys, y, zs, e1, e2, e3, e4⟩
      · exact .inl i1
      · refine .inr ⟨x :: ys, y, zs, by rw [e1]; rfl, e2, e3, ?_⟩
        intro z hz
        rcases List.mem_cons.1 hz with rfl | hz
        · exact key m hm (Tup.up n p (tget l z)) ((Tup.cmp_le _ _).1 (by rw [Tup.cmp_back]; omega)) (y, Tup.up n p (tget l y)) e2 e3
        · exact e4 z hz
theorem G.tups_inR (g : G) : Tup.inR g.tups g.tups := by
  unfold Tup.inR G.tups
  simp only
  omega
theorem G.Right.moves_in {g : G} (hr : g.Right) {i : Nat} (hi : i < g.owner.length) : ∀ x ∈ g.moves.getD i [], 0 ≤ x ∧ x < (g.owner.length : Int) := fun x hx => by
  have := rise_bounds (hr.at i hi).2.2.2.2 x hx
  omega
/-- What the moves make: of one of them; of the one that the owner likes best. -/
theorem G.choose_spec {g : G} (hr : g.Right) (l : List Tup) {i : Nat} (hi : i < g.owner.length) :
    (∃ x ∈ g.moves.getD i [], g.choose l i = (x, Tup.up g.tups (g.prio.getD i 0) (tget l x))) ∧
    (g.owner.getD i 0 = 0 → ∀ x ∈ g.moves.getD i [], Tup.le (g.choose l i).2 (Tup.up g.tups (g.prio.getD i 0) (tget l x))) ∧
    (g.owner.getD i 0 = 1 → ∀ x ∈ g.moves.getD i [], Tup.le (Tup.up g.tups (g.prio.getD i 0) (tget l x)) (g.choose l i).2) := by
  have hin := hr.moves_in hi
  have hne := (hr.at i hi).2.2.2.1
  unfold G.choose
  generalize g.moves.getD i [] = xs at *
  cases xs with
  | nil => exact absurd rfl hne
  | cons x xs =>
    unfold pick
    rw [if_pos (.inl rfl)]
    obtain ⟨i1, i2, i3⟩ := pick_spec g.tups (g.owner.getD i 0) (g.prio.getD i 0) l xs (x, Tup.up g.tups (g.prio.getD i 0) (tget l x)) (by have := (hin x (List.mem_cons_self ..)).1; simp only; omega) (fun y hy => by have := (hin y (List.mem_cons_of_mem _ hy)).1; omega)
    refine ⟨?_, fun h0 y hy => ?_, fun h1 y hy => ?_⟩
    · rcases i1 with i1 | ⟨y, hy, i1⟩
      · exact ⟨x, List.mem_cons_self .., i1⟩
      · exact ⟨y, List.mem_cons_of_mem _ hy, i1⟩
    · rcases List.mem_cons.1 hy with rfl | hy
      · exact (i2 h0).1
      · exact (i2 h0).2 y hy
    · rcases List.mem_cons.1 hy with rfl | hy
      · exact (i3 h1).1
      · exact (i3 h1).2 y hy
/-- The move is the first of those that make as much. -/
theorem G.choose_first {g : G} (hr : g.Right) (l : List Tup) {i : Nat} (hi : i < g.owner.length) (ho : g.owner.getD i 0 = 0) :
    ∃ ys x zs, g.moves.getD i [] = ys ++ x :: zs ∧ g.choose l i = (x, Tup.up g.tups (g.prio.getD i 0) (tget l x)) ∧ ∀ y ∈ ys, Tup.cmp (Tup.up g.tups (g.prio.getD i 0) (tget l y)) (Tup.up g.tups (g.prio.getD i 0) (tget l x)) 0 ≠ 0 := by
  have hin := hr.moves_in hi
  have hne := (hr.at i hi).2.2.2.1
  unfold G.choose
  rw [ho]
  generalize g.moves.getD i [] = xs at *
  cases xs with
  | nil => exact absurd rfl hne
  | cons x xs =>
    unfold pick
    rw [if_pos (.inl rfl)]
    rcases pick_first g.tups (g.prio.getD i 0) l xs (x, Tup.up g.tups (g.prio.getD i 0) (tget l x)) (by have := (hin x (List.mem_cons_self ..)).1; simp only; omega) (fun y hy => by have := (hin y (List.mem_cons_of_mem _ hy)).1; omega) with i1 | ⟨ys, y, zs, e1, e2, e3, e4⟩
    · exact ⟨[], x, xs, rfl, i1, fun _ h => nomatch h⟩
    · refine ⟨x :: ys, y, zs, by rw [e1]; rfl, e2, fun z hz => ?_⟩
      rcases List.mem_cons.1 hz with rfl | hz
      · exact e3
      · exact e4 z hz
end P
end Go.Proofs.Yteeaojciobmcaaa
