/- Tuples of counters: their order, what a move makes of one, what a position makes of its moves'. Plain. What the moves make of a position; lists that no lift changes; the least of them. Plain. How far a tuple is from Top; the least list that no lift changes. Plain. Who is at rest behind a lift. Plain. A depth-first walk: what is met, what comes into the order. Plain. Which positions move where, as rows; orders of positions. Plain. Lifting until nobody waits ends in what stands. Plain. The example at the head of stage 14's statements. Plain. -/
import Derived.Test.YteeaojciobmcaaaGame
section
namespace Go.Proofs.Yteeaojciobmcaaa
namespace P
/-- A tuple: is it above all others; its counters. -/
structure Tup where
  top : Bool
  a : Int
  b : Int
  c : Int
  d : Int
deriving DecidableEq
namespace Tup
def zero : Tup := ⟨false, 0, 0, 0, 0⟩
def over : Tup := ⟨true, 0, 0, 0, 0⟩
/-- One counter's word in it; r: what lower ones say. -/
def dig (p q x y r : Int) : Int := if q < p then 0 else if x < y then -1 else if y < x then 1 else r
/-- -1, 0, 1: how two tuples stand, from a priority on. -/
def cmp (s t : Tup) (p : Int) : Int :=
  if s.top = true then (if t.top = true then 0 else 1) else if t.top = true then -1
  else dig p 7 s.d t.d (dig p 5 s.c t.c (dig p 3 s.b t.b (dig p 1 s.a t.a 0)))
theorem dig_back (p q x y r : Int) : dig p q y x (-r) = - dig p q x y r := by
  unfold dig
  repeat' split
  all_goals omega
theorem dig_one (p q x y r : Int) (h : r = -1 ∨ r = 0 ∨ r = 1) : dig p q x y r = -1 ∨ dig p q x y r = 0 ∨ dig p q x y r = 1 := by
  unfold dig
  repeat' split
  all_goals omega
theorem dig_le (q x y r : Int) (hq : 0 ≤ q) : dig 0 q x y r ≤ 0 ↔ x < y ∨ x = y ∧ r ≤ 0 := by
  unfold dig
  rw [if_neg (by omega)]
  repeat' split
  all_goals omega
/-- Is one at most the other? -/
def le (s t : Tup) : Prop := t.top = true ∨ s.top = false ∧ (s.d < t.d ∨ s.d = t.d ∧ (s.c < t.c ∨ s.c = t.c ∧ (s.b < t.b ∨ s.b = t.b ∧ s.a ≤ t.a)))
theorem cmp_le (s t : Tup) : cmp s t 0 ≤ 0 ↔ le s t := by
  obtain ⟨s0, s1, s2, s3, s4⟩ := s
  obtain ⟨t0, t1, t2, t3, t4⟩ := t
  unfold cmp le
  cases s0 <;> cases t0 <;> simp
  rw [dig_le _ _ _ _ (by omega), dig_le _ _ _ _ (by omega), dig_le _ _ _ _ (by omega), dig_le _ _ _ _ (by omega)]
  omega
theorem cmp_back (s t : Tup) (p : Int) : cmp t s p = - cmp s t p := by
  obtain ⟨s0, s1, s2, s3, s4⟩ := s
  obtain ⟨t0, t1, t2, t3, t4⟩ := t
  unfold cmp
  cases s0 <;> cases t0 <;> simp
  rw [← dig_back, ← dig_back, ← dig_back, ← dig_back, Int.neg_zero]
theorem cmp_one (s t : Tup) (p : Int) : cmp s t p = -1 ∨ cmp s t p = 0 ∨ cmp s t p = 1 := by
  unfold cmp
  split
  · split <;> simp
  · split
    · simp
    · exact dig_one _ _ _ _ _ (dig_one _ _ _ _ _ (dig_one _ _ _ _ _ (dig_one _ _ _ _ _ (.inr (.inl rfl)))))
theorem cmp_lt (s t : Tup) : cmp s t 0 < 0 ↔ ¬ le t s := by
  rw [← cmp_le t s, cmp_back s t]
  omega
theorem cmp_gt (s t : Tup) : 0 < cmp s t 0 ↔ ¬ le s t := by
  rw [← cmp_le s t]
  omega
theorem le_refl (s : Tup) : le s s := by
  unfold le
  cases s.top
  · exact .inr ⟨rfl, .inr ⟨rfl, .inr ⟨rfl, .inr ⟨rfl, Int.le_refl _⟩⟩⟩⟩
  · exact .inl rfl
theorem le_trans {s t u : Tup} (h1 : le s t) (h2 : le t u) : le s u := by
  obtain ⟨s0, s1, s2, s3, s4⟩ := s
  obtain ⟨t0, t1, t2, t3, t4⟩ := t
  obtain ⟨u0, u1, u2, u3, u4⟩ := u
  unfold le at *
  cases s0 <;> cases t0 <;> cases u0 <;> simp at h1 h2 ⊢ <;> omega
theorem le_total {s t : Tup} (h : ¬ le s t) : le t s := by
  rw [← cmp_le] at *
  rw [cmp_back s t]
  omega
theorem le_over (s : Tup) : le s over := .inl rfl
/-- Is each counter from 0 to what it may be? -/
def inR (n t : Tup) : Prop := (0 ≤ t.a ∧ t.a ≤ n.a) ∧ (0 ≤ t.b ∧ t.b ≤ n.b) ∧ (0 ≤ t.c ∧ t.c ≤ n.c) ∧ 0 ≤ t.d ∧ t.d ≤ n.d
/-- As the program makes them. -/
def good (n t : Tup) : Prop := inR n t ∧ (t.top = true → t = over)
theorem le_antisymm {n s t : Tup} (hs : good n s) (ht : good n t) (h1 : le s t) (h2 : le t s) : s = t := by
  obtain ⟨-, hs⟩ := hs
  obtain ⟨-, ht⟩ := ht
  obtain ⟨s0, s1, s2, s3, s4⟩ := s
  obtain ⟨t0, t1, t2, t3, t4⟩ := t
  unfold le at *
  cases s0 <;> cases t0 <;> simp at h1 h2
  · simp only [mk.injEq, true_and]; omega
  · rw [hs rfl, ht rfl]
theorem zero_le {n t : Tup} (h : inR n t) : le zero t := by
  unfold le inR zero at *
  cases t.top
  · refine .inr ⟨rfl, ?_⟩
    simp only
    omega
  · exact .inl rfl
/-- What a move makes of a tuple, counter by counter; n: what each may be. -/
def up3 (n : Tup) (p : Int) (t : Tup) : Tup :=
  if 7 < p then (if p % 2 = 1 then over else { t with d := 0 }) else if p % 2 ≠ 1 then t else if t.d < n.d then { t with d := t.d + 1 } else over
def up2 (n : Tup) (p : Int) (t : Tup) : Tup :=
  if 5 < p then up3 n p { t with c := 0 } else if p % 2 ≠ 1 then t else if t.c < n.c then { t with c := t.c + 1 } else up3 n p { t with c := 0 }
def up1 (n : Tup) (p : Int) (t : Tup) : Tup :=
  if 3 < p then up2 n p { t with b := 0 } else if p % 2 ≠ 1 then t else if t.b < n.b then { t with b := t.b + 1 } else up2 n p { t with b := 0 }
def up0 (n : Tup) (p : Int) (t : Tup) : Tup :=
  if 1 < p then up1 n p { t with a := 0 } else if p % 2 ≠ 1 then t else if t.a < n.a then { t with a := t.a + 1 } else up1 n p { t with a := 0 }
def up (n : Tup) (p : Int) (t : Tup) : Tup := if t.top = true then over else up0 n p t
theorem over_good {n : Tup} (hn : inR n n) : good n over := by
  unfold good inR over at *
  simp only [implies_true, and_true]
  omega
theorem good_of {n t : Tup} (h : inR n t) (ht : t.top = false) : good n t := ⟨h, fun e => by rw [ht] at e; cases e⟩
theorem up3_good {n t : Tup} (p : Int) (hn : inR n n) (h : inR n t) (ht : t.top = false) : good n (up3 n p t) := by
  have := hn
  have := h
  unfold inR at *
  unfold up3
  repeat' split
  all_goals first | exact over_good hn | exact good_of (by unfold inR; (try simp only); omega) ht
theorem up2_good {n t : Tup} (p : Int) (hn : inR n n) (h : inR n t) (ht : t.top = false) : good n (up2 n p t) := by
  have := hn
  have := h
  unfold inR at *
  unfold up2
  repeat' split
  all_goals first | exact good_of (by unfold inR; (try simp only); omega) ht | exact up3_good p hn (by unfold inR; (try simp only); omega) ht
theorem up1_good {n t : Tup} (p : Int) (hn : inR n n) (h : inR n t) (ht : t.top = false) : good n (up1 n p t) := by
  have := hn
  have := h
  unfold inR at *
  unfold up1
  repeat' split
  all_goals first | exact good_of (by unfold inR; (try simp only); omega) ht | exact up2_good p hn (by unfold inR; (try simp only); omega) ht
theorem up_good {n t : Tup} (p : Int) (hn : inR n n) (h : inR n t) : good n (up n p t) := by
  unfold up
  split
  · exact over_good hn
  · rename_i ht
    have ht : t.top = false := by simpa using ht
    have := hn
    have := h
    unfold inR at *
    unfold up0
    repeat' split
    all_goals first | exact good_of (by unfold inR; (try simp only); omega) ht | exact up1_good p hn (by unfold inR; (try simp only); omega) ht
theorem up_mono {n s t : Tup} (p : Int) (hs : inR n s) (ht : inR n t) (h : le s t) : le (up n p s) (up n p t) := by
  obtain ⟨s0, s1, s2, s3, s4⟩ := s
  obtain ⟨t0, t1, t2, t3, t4⟩ := t
  cases t0
  · cases s0
    · unfold le inR up at *
      simp only [Bool.false_eq_true, if_false, false_or, true_and] at *
      by_cases hp : p % 2 = 1
      · simp only [up0, up1, up2, up3, hp, ne_eq, not_true_eq_false, if_false, if_true]
        by_cases q7 : 7 < p
        · simp [q7, show 5 < p by omega, show 3 < p by omega, show 1 < p by omega, over]
        by_cases q5 : 5 < p
        · simp only [q7, q5, show 3 < p by omega, show 1 < p by omega, if_true, if_false]
          (repeat' split) <;> simp [over] <;> omega
        by_cases q3 : 3 < p
        · simp only [q7, q5, q3, show 1 < p by omega, if_true, if_false]
          (repeat' split) <;> simp [over] <;> omega
        by_cases q1 : 1 < p
        · simp only [q7, q5, q3, q1, if_true, if_false]
          (repeat' split) <;> simp [over] <;> omega
        simp only [q7, q5, q3, q1, if_false]
        (repeat' split) <;> simp [over] <;> omega
      · simp only [up0, up1, up2, up3, hp, ne_eq, not_false_eq_true, if_false, if_true]
        (repeat' split) <;> simp <;> omega
    · simp [le] at h
  · exact .inl (by simp [up, over])
end Tup
end P
end Go.Proofs.Yteeaojciobmcaaa
end
section
namespace Go.Proofs.Yteeaojciobmcaaa
namespace P
/-- A tuple of a list. -/
def tget (l : List Tup) (x : Int) : Tup := l.getD x.toNat .zero
/-- Does an owner like one tuple better? -/
def better (o : Int) (t u : Tup) : Bool := decide (o = 0) && decide (Tup.cmp t u 0 < 0) || decide (o = 1) && decide (0 < Tup.cmp t u 0)
/-- The move that an owner likes best, and what it makes; m: what was so so far. -/
def pick (n : Tup) (o p : Int) (l : List Tup) : List Int → Int × Tup → Int × Tup
  | [], m => m
  | x :: xs, m => pick n o p l xs (if m.1 = -1 ∨ better o (Tup.up n p (tget l x)) m.2 = true then (x, Tup.up n p (tget l x)) else m)
/-- How often each counted priority comes. -/
def G.tups (g : G) : Tup := ⟨false, g.prio.count 1, g.prio.count 3, g.prio.count 5, g.prio.count 7⟩
def G.choose (g : G) (l : List Tup) (i : Nat) : Int × Tup := pick g.tups (g.owner.getD i 0) (g.prio.getD i 0) l (g.moves.getD i []) (-1, .zero)
def G.lift (g : G) (l : List Tup) (i : Nat) : Tup := if Tup.cmp (l.getD i .zero) (g.choose l i).2 0 < 0 then (g.choose l i).2 else l.getD i .zero
theorem pick_spec (n : Tup) (o p : Int) (l : List Tup) : ∀ (xs : List Int) (m : Int × Tup), m.1 ≠ -1 → (∀ x ∈ xs, x ≠ -1) →
    (pick n o p l xs m = m ∨ ∃ x ∈ xs, pick n o p l xs m = (x, Tup.up n p (tget l x))) ∧
    (o = 0 → Tup.le (pick n o p l xs m).2 m.2 ∧ ∀ x ∈ xs, Tup.le (pick n o p l xs m).2 (Tup.up n p (tget l x))) ∧
    (o = 1 → Tup.le m.2 (pick n o p l xs m).2 ∧ ∀ x ∈ xs, Tup.le (Tup.up n p (tget l x)) (pick n o p l xs m).2)
  | [], m, _, _ => ⟨.inl rfl, fun _ => ⟨Tup.le_refl _, fun _ h => nomatch h⟩, fun _ => ⟨Tup.le_refl _, fun _ h => nomatch h⟩⟩
  | x :: xs, m, hm, hx => by
    have hx0 := hx x (List.mem_cons_self ..)
    have hxs : ∀ y ∈ xs, y ≠ -1 := fun y hy => hx y (List.mem_cons_of_mem _ hy)
    unfold pick
    by_cases hb : m.1 = -1 ∨ better o (Tup.up n p (tget l x)) m.2 = true
    · rw [if_pos hb]
      obtain ⟨i1, i2, i3⟩ := pick_spec n o p l xs (x, Tup.up n p (tget l x)) hx0 hxs
      have hb := hb.resolve_left hm
      refine ⟨?_, fun h0 => ?_, fun h1 => ?_⟩
      · rcases i1 with i1 | ⟨y, hy, i1⟩
        · exact .inr ⟨x, List.mem_cons_self .., i1⟩
        · exact .inr ⟨y, List.mem_cons_of_mem _ hy, i1⟩
      · obtain ⟨j1, j2⟩ := i2 h0
        subst h0
        have hb : Tup.cmp (Tup.up n p (tget l x)) m.2 0 < 0 := by simpa [better] using hb
        refine ⟨Tup.le_trans j1 ((Tup.cmp_le _ _).1 (Int.le_of_lt hb)), fun y hy => ?_⟩
        rcases List.mem_cons.1 hy with rfl | hy
        · exact j1
        · exact j2 y hy
      · obtain ⟨j1, j2⟩ := i3 h1
        subst h1
        have hb : 0 < Tup.cmp (Tup.up n p (tget l x)) m.2 0 := by simpa [better] using hb
        refine ⟨Tup.le_trans ((Tup.cmp_le _ _).1 (by rw [Tup.cmp_back]; exact (by omega : - Tup.cmp (Tup.up n p (tget l x)) m.2 0 ≤ 0))) j1, fun y hy => ?_⟩
        rcases List.mem_cons.1 hy with rfl | hy
        · exact j1
        · exact j2 y hy
    · rw [if_neg hb]
      obtain ⟨i1, i2, i3⟩ := pick_spec n o p l xs m hm hxs
      have hb : ¬ better o (Tup.up n p (tget l x)) m.2 = true := fun h => hb (.inr h)
      refine ⟨?_, fun h0 => ?_, fun h1 => ?_⟩
      · rcases i1 with i1 | ⟨y, hy, i1⟩
        · exact .inl i1
        · exact .inr ⟨y, List.mem_cons_of_mem _ hy, i1⟩
      · obtain ⟨j1, j2⟩ := i2 h0
        subst h0
        have hb : ¬ Tup.cmp (Tup.up n p (tget l x)) m.2 0 < 0 := by simpa [better] using hb
        refine ⟨j1, fun y hy => ?_⟩
        rcases List.mem_cons.1 hy with rfl | hy
        · exact Tup.le_trans j1 ((Tup.cmp_le _ _).1 (by rw [Tup.cmp_back]; omega))
        · exact j2 y hy
      · obtain ⟨j1, j2⟩ := i3 h1
        subst h1
        have hb : ¬ 0 < Tup.cmp (Tup.up n p (tget l x)) m.2 0 := by simpa [better] using hb
        refine ⟨j1, fun y hy => ?_⟩
        rcases List.mem_cons.1 hy with rfl | hy
        · exact Tup.le_trans ((Tup.cmp_le _ _).1 (by omega)) j1
        · exact j2 y hy
/-- Of player 0's: the move is the first one that makes no more than any. -/
theorem pick_first (n : Tup) (p : Int) (l : List Tup) : ∀ (xs : List Int) (m : Int × Tup), m.1 ≠ -1 → (∀ x ∈ xs, x ≠ -1) →
    (pick n 0 p l xs m = m ∨ ∃ ys x zs, xs = ys ++ x :: zs ∧ pick n 0 p l xs m = (x, Tup.up n p (tget l x)) ∧ Tup.cmp m.2 (Tup.up n p (tget l x)) 0 ≠ 0 ∧ ∀ y ∈ ys, Tup.cmp (Tup.up n p (tget l y)) (Tup.up n p (tget l x)) 0 ≠ 0)
  | [], m, _, _ => .inl rfl
  | x :: xs, m, hm, hx => by
    have hx0 := hx x (List.mem_cons_self ..)
    have hxs : ∀ y ∈ xs, y ≠ -1 := fun y hy => hx y (List.mem_cons_of_mem _ hy)
    have key : ∀ (m' : Int × Tup), m'.1 ≠ -1 → ∀ (t : Tup), Tup.le m'.2 t → ∀ u, pick n 0 p l xs m' = u → Tup.cmp m'.2 u.2 0 ≠ 0 → Tup.cmp t u.2 0 ≠ 0 := by
      intro m' hm' t ht u hu hne h
      have hs := ((pick_spec n 0 p l xs m' hm' hxs).2.1 rfl).1
      rw [hu] at hs
      have h2 : ¬ Tup.cmp m'.2 u.2 0 ≤ 0 := by
        intro h3
        have : Tup.cmp u.2 m'.2 0 ≤ 0 := (Tup.cmp_le _ _).2 hs
        rw [Tup.cmp_back] at this
        omega
      exact h2 ((Tup.cmp_le _ _).2 (Tup.le_trans ht ((Tup.cmp_le _ _).1 (by omega))))
    unfold pick
    by_cases hb : m.1 = -1 ∨ better 0 (Tup.up n p (tget l x)) m.2 = true
    · rw [if_pos hb]
      have hb := hb.resolve_left hm
      have hb : Tup.cmp (Tup.up n p (tget l x)) m.2 0 < 0 := by simpa [better] using hb
      rcases pick_first n p l xs (x, Tup.up n p (tget l x)) hx0 hxs with i1 | ⟨ys, y, zs, e1, e2, e3, e4⟩
      · exact .inr ⟨[], x, xs, rfl, i1, by rw [Tup.cmp_back]; omega, fun _ h => nomatch h⟩
      · refine .inr ⟨x :: ys, y, zs, by rw [e1]; rfl, e2, ?_, ?_⟩
        · exact key (x, Tup.up n p (tget l x)) hx0 m.2 ((Tup.cmp_le _ _).1 (by exact Int.le_of_lt hb)) (y, Tup.up n p (tget l y)) e2 e3
        · intro z hz
          rcases List.mem_cons.1 hz with rfl | hz
          · exact e3
          · exact e4 z hz
    · rw [if_neg hb]
      have hb : ¬ better 0 (Tup.up n p (tget l x)) m.2 = true := fun h => hb (.inr h)
      have hb : ¬ Tup.cmp (Tup.up n p (tget l x)) m.2 0 < 0 := by simpa [better] using hb
      rcases pick_first n p l xs m hm hxs with i1 | ⟨ys, y, zs, e1, e2, e3, e4⟩
      · exact .inl i1
      · refine .inr ⟨x :: ys, y, zs, by rw [e1]; rfl, e2, e3, ?_⟩
        intro z hz
        rcases List.mem_cons.1 hz with rfl | hz
        · exact key m hm (Tup.up n p (tget l z)) ((Tup.cmp_le _ _).1 (by rw [Tup.cmp_back]; omega)) (y, Tup.up n p (tget l y)) e2 e3
        · exact e4 z hz
theorem G.tups_inR (g : G) : Tup.inR g.tups g.tups := by
  unfold Tup.inR G.tups
  simp only
  omega
theorem G.Right.moves_in {g : G} (hr : g.Right) {i : Nat} (hi : i < g.owner.length) : ∀ x ∈ g.moves.getD i [], 0 ≤ x ∧ x < (g.owner.length : Int) := fun x hx => by
  have := rise_bounds (hr.at i hi).2.2.2.2 x hx
  omega
/-- What the moves make: of one of them; of the one that the owner likes best. -/
theorem G.choose_spec {g : G} (hr : g.Right) (l : List Tup) {i : Nat} (hi : i < g.owner.length) :
    (∃ x ∈ g.moves.getD i [], g.choose l i = (x, Tup.up g.tups (g.prio.getD i 0) (tget l x))) ∧
    (g.owner.getD i 0 = 0 → ∀ x ∈ g.moves.getD i [], Tup.le (g.choose l i).2 (Tup.up g.tups (g.prio.getD i 0) (tget l x))) ∧
    (g.owner.getD i 0 = 1 → ∀ x ∈ g.moves.getD i [], Tup.le (Tup.up g.tups (g.prio.getD i 0) (tget l x)) (g.choose l i).2) := by
  have hin := hr.moves_in hi
  have hne := (hr.at i hi).2.2.2.1
  unfold G.choose
  generalize g.moves.getD i [] = xs at *
  cases xs with
  | nil => exact absurd rfl hne
  | cons x xs =>
    unfold pick
    rw [if_pos (.inl rfl)]
    obtain ⟨i1, i2, i3⟩ := pick_spec g.tups (g.owner.getD i 0) (g.prio.getD i 0) l xs (x, Tup.up g.tups (g.prio.getD i 0) (tget l x)) (by have := (hin x (List.mem_cons_self ..)).1; simp only; omega) (fun y hy => by have := (hin y (List.mem_cons_of_mem _ hy)).1; omega)
    refine ⟨?_, fun h0 y hy => ?_, fun h1 y hy => ?_⟩
    · rcases i1 with i1 | ⟨y, hy, i1⟩
      · exact ⟨x, List.mem_cons_self .., i1⟩
      · exact ⟨y, List.mem_cons_of_mem _ hy, i1⟩
    · rcases List.mem_cons.1 hy with rfl | hy
      · exact (i2 h0).1
      · exact (i2 h0).2 y hy
    · rcases List.mem_cons.1 hy with rfl | hy
      · exact (i3 h1).1
      · exact (i3 h1).2 y hy
/-- The move is the first of those that make as much. -/
theorem G.choose_first {g : G} (hr : g.Right) (l : List Tup) {i : Nat} (hi : i < g.owner.length) (ho : g.owner.getD i 0 = 0) :
    ∃ ys x zs, g.moves.getD i [] = ys ++ x :: zs ∧ g.choose l i = (x, Tup.up g.tups (g.prio.getD i 0) (tget l x)) ∧ ∀ y ∈ ys, Tup.cmp (Tup.up g.tups (g.prio.getD i 0) (tget l y)) (Tup.up g.tups (g.prio.getD i 0) (tget l x)) 0 ≠ 0 := by
  have hin := hr.moves_in hi
  have hne := (hr.at i hi).2.2.2.1
  unfold G.choose
  rw [ho]
  generalize g.moves.getD i [] = xs at *
  cases xs with
  | nil => exact absurd rfl hne
  | cons x xs =>
    unfold pick
    rw [if_pos (.inl rfl)]
    rcases pick_first g.tups (g.prio.getD i 0) l xs (x, Tup.up g.tups (g.prio.getD i 0) (tget l x)) (by have := (hin x (List.mem_cons_self ..)).1; simp only; omega) (fun y hy => by have := (hin y (List.mem_cons_of_mem _ hy)).1; omega) with i1 | ⟨ys, y, zs, e1, e2, e3, e4⟩
    · exact ⟨[], x, xs, rfl, i1, fun _ h => nomatch h⟩
    · refine ⟨x :: ys, y, zs, by rw [e1]; rfl, e2, fun z hz => ?_⟩
      rcases List.mem_cons.1 hz with rfl | hz
      · exact e3
      · exact e4 z hz
end P
end Go.Proofs.Yteeaojciobmcaaa
end
section
namespace Go.Proofs.Yteeaojciobmcaaa
namespace P
namespace Tup
def span (n : Tup) : Nat := (((n.d.toNat + 1) * (n.c.toNat + 1)) * (n.b.toNat + 1)) * (n.a.toNat + 1)
/-- A tuple's number. -/
def rk (n t : Tup) : Nat := if t.top = true then span n else ((t.d.toNat * (n.c.toNat + 1) + t.c.toNat) * (n.b.toNat + 1) + t.b.toNat) * (n.a.toNat + 1) + t.a.toNat
theorem mix_lt {x x' y y' B : Nat} (h : x < x' ∨ x = x' ∧ y < y') (hy : y < B) : x * B + y < x' * B + y' := by
  rcases h with h | ⟨rfl, h⟩
  · have := Nat.mul_le_mul_right B (show x + 1 ≤ x' from h)
    rw [Nat.add_mul, Nat.one_mul] at this
    omega
  · omega
theorem mix_le {x X y B : Nat} (h : x < X) (hy : y < B) : x * B + y < X * B := by
  have := Nat.mul_le_mul_right B (show x + 1 ≤ X from h)
  rw [Nat.add_mul, Nat.one_mul] at this
  omega
theorem rk_span {n t : Tup} (ht : inR n t) (h : t.top = false) : rk n t < span n := by
  unfold rk span
  rw [if_neg (by rw [h]; simp)]
  unfold inR at ht
  exact mix_le (mix_le (mix_le (by omega) (by omega)) (by omega)) (by omega)
theorem rk_le {n t : Tup} (ht : inR n t) : rk n t ≤ span n := by
  cases h : t.top
  · exact Nat.le_of_lt (rk_span ht h)
  · unfold rk
    rw [if_pos h]
    exact Nat.le_refl _
theorem rk_lt {n s t : Tup} (hs : inR n s) (ht : inR n t) (h : ¬ le t s) : rk n s < rk n t := by
  have h1 := h
  unfold le at h1
  cases es : s.top
  · cases et : t.top
    · unfold rk
      rw [if_neg (by rw [es]; simp), if_neg (by rw [et]; simp)]
      rw [es, et] at h1
      simp only [Bool.false_eq_true, false_or, true_and] at h1
      unfold inR at hs ht
      refine mix_lt ?_ (by omega)
      by_cases e1 : s.d < t.d ∨ s.d = t.d ∧ (s.c < t.c ∨ s.c = t.c ∧ s.b < t.b)
      · left
        refine mix_lt ?_ (by omega)
        by_cases e2 : s.d < t.d ∨ s.d = t.d ∧ s.c < t.c
        · left
          exact mix_lt (by omega) (by omega)
        · right
          have e3 : s.d = t.d := by omega
          have e4 : s.c = t.c := by omega
          rw [e3, e4]
          exact ⟨rfl, by omega⟩
      · right
        have e3 : s.d = t.d := by omega
        have e4 : s.c = t.c := by omega
        have e5 : s.b = t.b := by omega
        rw [e3, e4, e5]
        exact ⟨rfl, by omega⟩
    · have := rk_span hs es
      unfold rk at this ⊢
      rw [if_pos et]
      exact this
  · exact absurd (.inl es) h1
end Tup
/-- How much a list can still be lifted. -/
def slack (n : Tup) : List Tup → Nat
  | [] => 0
  | t :: l => (Tup.span n - Tup.rk n t) + slack n l
theorem slack_set (n : Tup) (t : Tup) : ∀ (l : List Tup) (i : Nat), i < l.length → Tup.rk n (l.getD i .zero) < Tup.rk n t → Tup.rk n t ≤ Tup.span n → slack n (l.set i t) < slack n l
  | [], i, h, _, _ => nomatch h
  | u :: l, 0, _, h1, h2 => by
    rw [List.set_cons_zero, slack, slack]
    rw [List.getD_cons_zero] at h1
    omega
  | u :: l, i + 1, h, h1, h2 => by
    rw [List.set_cons_succ, slack, slack]
    rw [List.getD_cons_succ] at h1
    have := slack_set n t l i (by simpa using h) h1 h2
    omega
theorem tget_nat (l : List Tup) (i : Nat) : tget l (i : Int) = l.getD i .zero := by rw [tget, Int.toNat_natCast]
theorem tget_at {g : G} (hr : g.Right) {i : Nat} (hi : i < g.owner.length) {x : Int} (hx : x ∈ g.moves.getD i []) : ∃ j : Nat, j < g.owner.length ∧ x = j ∧ ∀ l, tget l x = l.getD j .zero := by
  have := hr.moves_in hi x hx
  exact ⟨x.toNat, by omega, by omega, fun l => rfl⟩
/-- Are all of a list's tuples as high as what the moves make? -/
def Fixed (g : G) (l : List Tup) : Prop := ∀ i, i < g.owner.length → Tup.le (g.choose l i).2 (l.getD i .zero)
def Rng (g : G) (l : List Tup) : Prop := l.length = g.owner.length ∧ ∀ i, i < g.owner.length → Tup.inR g.tups (l.getD i .zero)
/-- A list below all that stand. -/
def Low (g : G) (l : List Tup) : Prop := l.length = g.owner.length ∧ (∀ i, i < g.owner.length → Tup.good g.tups (l.getD i .zero)) ∧ ∀ m, Rng g m → Fixed g m → ∀ i, i < g.owner.length → Tup.le (l.getD i .zero) (m.getD i .zero)
theorem Low.rng {g : G} {l : List Tup} (h : Low g l) : Rng g l := ⟨h.1, fun i hi => (h.2.1 i hi).1⟩
theorem choose_good {g : G} (hr : g.Right) {l : List Tup} (h : Rng g l) {i : Nat} (hi : i < g.owner.length) : Tup.good g.tups (g.choose l i).2 := by
  obtain ⟨⟨x, hx, e⟩, -, -⟩ := G.choose_spec hr l hi
  obtain ⟨j, hj, -, hg⟩ := tget_at hr hi hx
  rw [e, hg]
  exact Tup.up_good _ g.tups_inR (h.2 j hj)
theorem choose_mono {g : G} (hr : g.Right) {l m : List Tup} (hl : Rng g l) (hm : Rng g m) (h : ∀ i, i < g.owner.length → Tup.le (l.getD i .zero) (m.getD i .zero)) {i : Nat} (hi : i < g.owner.length) : Tup.le (g.choose l i).2 (g.choose m i).2 := by
  obtain ⟨⟨x, hx, e⟩, a0, a1⟩ := G.choose_spec hr l hi
  obtain ⟨⟨y, hy, f⟩, b0, b1⟩ := G.choose_spec hr m hi
  have mono : ∀ z ∈ g.moves.getD i [], Tup.le (Tup.up g.tups (g.prio.getD i 0) (tget l z)) (Tup.up g.tups (g.prio.getD i 0) (tget m z)) := by
    intro z hz
    obtain ⟨j, hj, -, hg⟩ := tget_at hr hi hz
    rw [hg, hg]
    exact Tup.up_mono _ (hl.2 j hj) (hm.2 j hj) (h j hj)
  rcases (hr.at i hi).1 with ho | ho
  · have h1 := a0 ho y hy
    rw [f]
    exact Tup.le_trans h1 (mono y hy)
  · have h1 := b1 ho x hx
    rw [e]
    exact Tup.le_trans (mono x hx) h1
theorem zero_low {g : G} : Low g (List.replicate g.owner.length .zero) := by
  refine ⟨List.length_replicate, fun i hi => ?_, fun m hm _ i hi => ?_⟩
  all_goals rw [List.getD_eq_getElem?_getD, List.getElem?_replicate, if_pos hi, Option.getD_some]
  · refine Tup.good_of ?_ rfl
    have := g.tups_inR
    unfold Tup.inR Tup.zero at *
    simp only
    omega
  · exact Tup.zero_le (hm.2 i hi)
theorem getD_set (l : List Tup) (i j : Nat) (t : Tup) (hi : i < l.length) : (l.set i t).getD j .zero = if i = j then t else l.getD j .zero := by
  rw [List.getD_eq_getElem?_getD, List.getD_eq_getElem?_getD, List.getElem?_set]
  by_cases h : i = j
  · rw [if_pos h, if_pos h, if_pos hi, Option.getD_some]
  · rw [if_neg h, if_neg h]
/-- Lifted, a list that is below all that stand is so still. -/
theorem Low.lifted {g : G} (hr : g.Right) {l : List Tup} (h : Low g l) {i : Nat} (hi : i < g.owner.length) : Low g (l.set i (g.choose l i).2) := by
  have hl : i < l.length := by rw [h.1]; exact hi
  refine ⟨by rw [List.length_set]; exact h.1, fun j hj => ?_, fun m hm hf j hj => ?_⟩
  · rw [getD_set l i j _ hl]
    split
    · exact choose_good hr h.rng hi
    · exact h.2.1 j hj
  · rw [getD_set l i j _ hl]
    split
    · rename_i e
      subst e
      exact Tup.le_trans (choose_mono hr h.rng hm (h.2.2 m hm hf) hi) (hf i hi)
    · exact h.2.2 m hm hf j hj
/-- What lifting ends in. -/
def IsSol (g : G) (l : List Tup) : Prop := Low g l ∧ Fixed g l
theorem IsSol.unique {g : G} {l m : List Tup} (h : IsSol g l) (k : IsSol g m) : l = m := by
  apply List.ext_getElem (by rw [h.1.1, k.1.1])
  intro i h1 h2
  have hi : i < g.owner.length := by rw [← h.1.1]; exact h1
  have e := Tup.le_antisymm (h.1.2.1 i hi) (k.1.2.1 i hi) (h.1.2.2 m k.1.rng k.2 i hi) (k.1.2.2 l h.1.rng h.2 i hi)
  rw [List.getD_eq_getElem?_getD, List.getD_eq_getElem?_getD, List.getElem?_eq_getElem h1, List.getElem?_eq_getElem h2] at e
  exact e
theorem lift_eq {g : G} {l : List Tup} {i : Nat} (h : ¬ Tup.le (g.choose l i).2 (l.getD i .zero)) : g.lift l i = (g.choose l i).2 := by
  unfold G.lift
  rw [if_pos ((Tup.cmp_lt _ _).2 h)]
theorem lift_same {g : G} {l : List Tup} {i : Nat} (h : Tup.le (g.choose l i).2 (l.getD i .zero)) : g.lift l i = l.getD i .zero := by
  unfold G.lift
  rw [if_neg (fun e => (Tup.cmp_lt _ _).1 e h)]
/-- A lift changes what is not as high as what the moves make, and nothing else. -/
theorem lift_iff {g : G} {l : List Tup} {i : Nat} : g.lift l i = l.getD i .zero ↔ Tup.le (g.choose l i).2 (l.getD i .zero) := by
  constructor
  · intro h
    by_cases e : Tup.le (g.choose l i).2 (l.getD i .zero)
    · exact e
    · rw [lift_eq e] at h
      rw [h]
      exact Tup.le_refl _
  · exact lift_same
theorem slack_lifted {g : G} (hr : g.Right) {l : List Tup} (h : Rng g l) {i : Nat} (hi : i < g.owner.length) (hn : ¬ Tup.le (g.choose l i).2 (l.getD i .zero)) : slack g.tups (l.set i (g.choose l i).2) < slack g.tups l :=
  slack_set _ _ _ _ (by rw [h.1]; exact hi) (Tup.rk_lt (h.2 i hi) (choose_good hr h hi).1 hn) (Tup.rk_le (choose_good hr h hi).1)
end P
end Go.Proofs.Yteeaojciobmcaaa
end
section
namespace Go.Proofs.Yteeaojciobmcaaa
namespace P
theorem pick_congr (n : Tup) (o p : Int) (l m : List Tup) : ∀ (xs : List Int) (k : Int × Tup), (∀ x ∈ xs, tget l x = tget m x) → pick n o p l xs k = pick n o p m xs k
  | [], _, _ => rfl
  | x :: xs, k, h => by
    unfold pick
    rw [h x (List.mem_cons_self ..)]
    exact pick_congr n o p l m xs _ fun y hy => h y (List.mem_cons_of_mem _ hy)
theorem choose_congr {g : G} {l m : List Tup} {i : Nat} (h : ∀ x ∈ g.moves.getD i [], tget l x = tget m x) : g.choose l i = g.choose m i := pick_congr _ _ _ _ _ _ _ h
/-- Is a position's tuple as high as what its moves make? -/
def Rest (g : G) (l : List Tup) (i : Nat) : Prop := Tup.le (g.choose l i).2 (l.getD i .zero)
/-- Behind a lift of 'at_' all are at rest that were and have no move to it; it itself, too, if it has none. -/
theorem Rest.lifted {g : G} (hr : g.Right) {l : List Tup} (hl : l.length = g.owner.length) {a i : Nat} (ha : a < g.owner.length) (hi : i < g.owner.length) (hm : (a : Int) ∉ g.moves.getD i []) (h : i = a ∨ Rest g l i) : Rest g (l.set a (g.choose l a).2) i := by
  have hal : a < l.length := by omega
  have e : g.choose (l.set a (g.choose l a).2) i = g.choose l i := by
    refine choose_congr fun x hx => ?_
    obtain ⟨j, hj, rfl, -⟩ := tget_at hr hi hx
    rw [tget_nat, tget_nat, getD_set l a j _ hal, if_neg]
    intro e
    rw [e] at hm
    exact hm hx
  unfold Rest
  rw [e, getD_set l a i _ hal]
  by_cases e2 : a = i
  · rw [if_pos e2, e2]
    exact Tup.le_refl _
  · rw [if_neg e2]
    exact h.resolve_left (fun e => e2 e.symm)
end P
end Go.Proofs.Yteeaojciobmcaaa
end
section
namespace Go.Proofs.Yteeaojciobmcaaa
namespace P
/-- How many of the first n are not yet met. -/
def unmet (M : Nat → Bool) : Nat → Nat
  | 0 => 0
  | n + 1 => unmet M n + (if M n = true then 0 else 1)
def mark (M : Nat → Bool) (i : Nat) : Nat → Bool := fun y => if y = i then true else M y
theorem mark_self (M : Nat → Bool) (i : Nat) : mark M i i = true := if_pos rfl
theorem unmet_zero {M : Nat → Bool} : ∀ {n i : Nat}, unmet M n = 0 → i < n → M i = true
  | 0, i, _, h => absurd h (Nat.not_lt_zero i)
  | n + 1, i, h, hi => by
    unfold unmet at h
    by_cases hM : M n = true
    · rw [if_pos hM] at h
      by_cases e : i = n
      · rw [e]; exact hM
      · exact unmet_zero (n := n) (by omega) (by omega)
    · rw [if_neg hM] at h
      omega
theorem unmet_mark_out (M : Nat → Bool) (i : Nat) : ∀ n, n ≤ i → unmet (mark M i) n = unmet M n
  | 0, _ => rfl
  | n + 1, h => by
    unfold unmet
    rw [unmet_mark_out M i n (by omega)]
    have : mark M i n = M n := if_neg (by omega)
    rw [this]
theorem unmet_mark {M : Nat → Bool} {i : Nat} (h : M i = false) : ∀ n, i < n → unmet (mark M i) n + 1 = unmet M n
  | 0, hi => absurd hi (Nat.not_lt_zero i)
  | n + 1, hi => by
    unfold unmet
    by_cases e : i = n
    · subst e
      rw [unmet_mark_out M i i (Nat.le_refl _), mark_self, h]
      rfl
    · have := unmet_mark h n (by omega)
      have e2 : mark M i n = M n := if_neg (fun h => e h.symm)
      rw [e2]
      omega
/-- From M on X has come into the order, so that M' is met. -/
structure Ext (n : Nat) (M : Nat → Bool) (X : List Nat) (M' : Nat → Bool) : Prop where
  eq : ∀ y, M' y = true ↔ M y = true ∨ y ∈ X
  nodup : X.Nodup
  fresh : ∀ x ∈ X, x < n ∧ M x = false
  cap : X.length + unmet M' n ≤ unmet M n
theorem Ext.nil (n : Nat) (M : Nat → Bool) : Ext n M [] M := ⟨fun y => by simp, List.nodup_nil, fun _ h => (nomatch h), by simp⟩
theorem Ext.trans {n : Nat} {M M' M'' : Nat → Bool} {X Y : List Nat} (h : Ext n M X M') (k : Ext n M' Y M'') : Ext n M (X ++ Y) M'' where
  eq y := by rw [k.eq, h.eq, List.mem_append, or_assoc]
  nodup := by
    rw [List.nodup_append]
    refine ⟨h.nodup, k.nodup, fun x hx y hy e => ?_⟩
    subst e
    have h1 := (k.fresh x hy).2
    rw [(h.eq x).2 (.inr hx)] at h1
    cases h1
  fresh x hx := by
    rcases List.mem_append.1 hx with hx | hx
    · exact h.fresh x hx
    · refine ⟨(k.fresh x hx).1, ?_⟩
      have h1 := (k.fresh x hx).2
      cases hM : M x
      · rfl
      · rw [(h.eq x).2 (.inl hM)] at h1
        cases h1
  cap := by
    have := h.cap
    have := k.cap
    rw [List.length_append]
    omega
theorem Ext.done {n i : Nat} {M M' : Nat → Bool} {X : List Nat} (hi : i < n) (hM : M i = false) (h : Ext n (mark M i) X M') : Ext n M (X ++ [i]) M' where
  eq y := by
    rw [h.eq, List.mem_append, List.mem_singleton]
    unfold mark
    by_cases e : y = i
    · rw [if_pos e]; simp [e]
    · rw [if_neg e]; simp [e]
  nodup := by
    rw [List.nodup_append]
    refine ⟨h.nodup, by simp, fun x hx y hy e => ?_⟩
    rw [List.mem_singleton] at hy
    rw [e, hy] at hx
    have := (h.fresh i hx).2
    rw [mark_self] at this
    cases this
  fresh x hx := by
    rcases List.mem_append.1 hx with hx | hx
    · have h1 := h.fresh x hx
      refine ⟨h1.1, ?_⟩
      have h2 := h1.2
      unfold mark at h2
      split at h2
      · cases h2
      · exact h2
    · rw [List.mem_singleton] at hx
      rw [hx]
      exact ⟨hi, hM⟩
  cap := by
    have := h.cap
    have := unmet_mark hM n hi
    rw [List.length_append, List.length_singleton]
    omega
theorem unmet_le (M : Nat → Bool) : ∀ n, unmet M n ≤ n
  | 0 => Nat.le_refl _
  | n + 1 => by
    unfold unmet
    have := unmet_le M n
    split <;> omega
end P
end Go.Proofs.Yteeaojciobmcaaa
end
section
namespace Go.Proofs.Yteeaojciobmcaaa
namespace P
/-- The moves of the positions of a list: pairs (to, from). -/
def pairs (g : G) (O : List Nat) : List (Nat × Nat) := O.flatMap fun x => (g.moves.getD x []).map fun m => (m.toNat, x)
theorem pairs_nil (g : G) : pairs g [] = [] := rfl
theorem pairs_snoc (g : G) (O : List Nat) (x : Nat) : pairs g (O ++ [x]) = pairs g O ++ (g.moves.getD x []).map fun m => (m.toNat, x) := by
  unfold pairs
  rw [List.flatMap_append]
  simp
/-- Rows by where the moves lead. -/
def prv (n : Nat) (ps : List (Nat × Nat)) : List (List Int) := (List.range n).map fun j => (ps.filter fun p => p.1 == j).map fun p => (p.2 : Int)
theorem prv_len (n : Nat) (ps : List (Nat × Nat)) : (prv n ps).length = n := by unfold prv; simp
theorem prv_at {n : Nat} {ps : List (Nat × Nat)} {j : Nat} (hj : j < n) : (prv n ps)[j]? = some ((ps.filter fun p => p.1 == j).map fun p => (p.2 : Int)) := by
  unfold prv
  rw [List.getElem?_map, List.getElem?_range hj]
  rfl
theorem prv_getD {n : Nat} {ps : List (Nat × Nat)} {j : Nat} (hj : j < n) : (prv n ps).getD j [] = (ps.filter fun p => p.1 == j).map fun p => (p.2 : Int) := by
  rw [List.getD_eq_getElem?_getD, prv_at hj]
  rfl
theorem prv_start (n : Nat) : prv n [] = List.replicate n [] := by
  apply List.ext_getElem?
  intro j
  rw [List.getElem?_replicate]
  by_cases hj : j < n
  · rw [if_pos hj, prv_at hj]
    rfl
  · rw [if_neg hj, List.getElem?_eq_none (by rw [prv_len]; omega)]
theorem prv_push (n : Nat) (ps : List (Nat × Nat)) (m x : Nat) (hm : m < n) : prv n (ps ++ [(m, x)]) = (prv n ps).set m ((prv n ps).getD m [] ++ [(x : Int)]) := by
  apply List.ext_getElem?
  intro j
  by_cases hj : j < n
  · rw [prv_at hj, List.getElem?_set, prv_getD hm, prv_at hj, List.filter_append, List.map_append]
    by_cases e : m = j
    · subst e
      rw [if_pos rfl, if_pos (by rw [prv_len]; exact hm)]
      simp
    · rw [if_neg e]
      simp [e]
  · rw [List.getElem?_eq_none (by rw [prv_len]; omega), List.getElem?_eq_none (by rw [List.length_set, prv_len]; omega)]
theorem prv_row_len {n : Nat} {ps : List (Nat × Nat)} {j : Nat} (hj : j < n) : ((prv n ps).getD j []).length ≤ ps.length := by
  rw [prv_getD hj, List.length_map]
  exact List.length_filter_le _ _
theorem prv_mem {g : G} {n : Nat} {O : List Nat} {j : Nat} (hj : j < n) (z : Int) : z ∈ (prv n (pairs g O)).getD j [] ↔ ∃ x ∈ O, (∃ m ∈ g.moves.getD x [], m.toNat = j) ∧ z = x := by
  rw [prv_getD hj]
  simp only [List.mem_map, List.mem_filter, pairs, List.mem_flatMap, beq_iff_eq]
  constructor
  · rintro ⟨p, ⟨⟨x, hx, m, hm, rfl⟩, h2⟩, rfl⟩
    exact ⟨x, hx, ⟨m, hm, h2⟩, rfl⟩
  · rintro ⟨x, hx, ⟨m, hm, h2⟩, rfl⟩
    exact ⟨(m.toNat, x), ⟨⟨x, hx, m, hm, rfl⟩, h2⟩, rfl⟩
theorem pairs_len {g : G} {O : List Nat} (h : ∀ x ∈ O, (g.moves.getD x []).length ≤ 200) : (pairs g O).length ≤ O.length * 200 := by
  induction O with
  | nil => exact Nat.zero_le _
  | cons x O ih =>
    have h1 := h x (List.mem_cons_self ..)
    have h2 := ih fun y hy => h y (List.mem_cons_of_mem _ hy)
    unfold pairs at h2 ⊢
    rw [List.flatMap_cons, List.length_append, List.length_map, List.length_cons]
    omega
/-- An order of all positions. -/
def Order (n : Nat) (O : List Nat) : Prop := O.Nodup ∧ ∀ x, x ∈ O ↔ x < n
theorem nodup_le {O P : List Nat} (h : O.Nodup) (hs : ∀ x ∈ O, x ∈ P) : O.length ≤ P.length := by
  induction O generalizing P with
  | nil => exact Nat.zero_le _
  | cons x O ih =>
    rw [List.nodup_cons] at h
    have hx := hs x (List.mem_cons_self ..)
    have := ih (P := P.erase x) h.2 fun y hy => by
      have hne : y ≠ x := fun e => h.1 (e ▸ hy)
      exact (List.mem_erase_of_ne hne).2 (hs y (List.mem_cons_of_mem _ hy))
    rw [List.length_erase_of_mem hx] at this
    have hp := List.length_pos_of_mem hx
    rw [List.length_cons]
    omega
theorem Order.len {n : Nat} {O : List Nat} (h : Order n O) : O.length = n := by
  have h1 := nodup_le h.1 (P := List.range n) fun x hx => List.mem_range.2 ((h.2 x).1 hx)
  have h2 := nodup_le (List.nodup_range (n := n)) (P := O) fun x hx => (h.2 x).2 (List.mem_range.1 hx)
  rw [List.length_range] at h1 h2
  omega
theorem Order.inj {n : Nat} {O : List Nat} (h : Order n O) {i j : Nat} {x : Nat} (hi : O[i]? = some x) (hj : O[j]? = some x) : i = j := by
  obtain ⟨a, ha⟩ := List.getElem?_eq_some_iff.1 hi
  obtain ⟨b, hb⟩ := List.getElem?_eq_some_iff.1 hj
  exact (List.getElem_inj h.1).1 (ha.trans hb.symm)
end P
end Go.Proofs.Yteeaojciobmcaaa
end
section
namespace Go.Proofs.Yteeaojciobmcaaa
namespace P
theorem unmet_congr {M K : Nat → Bool} : ∀ {n : Nat}, (∀ y, y < n → M y = K y) → unmet M n = unmet K n
  | 0, _ => rfl
  | n + 1, h => by
    unfold unmet
    rw [unmet_congr (n := n) fun y hy => h y (by omega), h n (by omega)]
/-- How many wait. -/
def waiting (Wt : Nat → Bool) (n : Nat) : Nat := unmet (fun y => !Wt y) n
theorem waiting_le (Wt : Nat → Bool) (n : Nat) : waiting Wt n ≤ n := unmet_le _ n
theorem waiting_off {Wt Wt' : Nat → Bool} {n k : Nat} (hk : k < n) (h : Wt k = true) (h2 : ∀ y, Wt' y = if y = k then false else Wt y) : waiting Wt' n + 1 = waiting Wt n := by
  have h1 := unmet_mark (M := fun y => !Wt y) (i := k) (by show (!Wt k) = false; rw [h]; rfl) n hk
  have e : unmet (fun y => !Wt' y) n = unmet (mark (fun y => !Wt y) k) n := unmet_congr fun y _ => by
    show (!Wt' y) = mark _ k y
    rw [h2]
    unfold mark
    by_cases e : y = k
    · rw [if_pos e, if_pos e]; rfl
    · rw [if_neg e, if_neg e]
  unfold waiting
  omega
/-- What holds while lifting goes on. -/
structure SInv (g : G) (m : Nat → Int) (l : List Tup) (Wt : Nat → Bool) (next : Nat) : Prop where
  low : Low g l
  ahead : ∀ y, y < next → Wt y = false
  rest : ∀ (i y : Nat), i < g.owner.length → m i = (y : Int) → Wt y = false → Rest g l i
theorem SInv.start (g : G) (m : Nat → Int) (Wt : Nat → Bool) (n : Nat) (hm : ∀ i, i < g.owner.length → ∃ y : Nat, y < n ∧ m i = (y : Int)) (hW : ∀ y, y < n → Wt y = true) : SInv g m (List.replicate g.owner.length .zero) Wt 0 :=
  ⟨zero_low, fun y hy => absurd hy (Nat.not_lt_zero y), fun i y hi hy h => by
    obtain ⟨z, hz, e⟩ := hm i hi
    have : z = y := by omega
    rw [hW y (by omega)] at h
    cases h⟩
theorem SInv.skip {g : G} {m : Nat → Int} {l : List Tup} {Wt : Nat → Bool} {next : Nat} (h : SInv g m l Wt next) (h1 : Wt next = false) : SInv g m l Wt (next + 1) :=
  ⟨h.low, fun y hy => by
    by_cases e : y = next
    · rw [e]; exact h1
    · exact h.ahead y (by omega), h.rest⟩
theorem SInv.same {g : G} {m : Nat → Int} {l : List Tup} {Wt Wt' : Nat → Bool} {k x : Nat} (h : SInv g m l Wt k) (hr : Rest g l x) (hx : ∀ i, i < g.owner.length → m i = (k : Int) → i = x) (h2 : ∀ y, Wt' y = if y = k then false else Wt y) : SInv g m l Wt' k :=
  ⟨h.low, fun y hy => by rw [h2, if_neg (by omega)]; exact h.ahead y hy, fun i y hi hy hw => by
    rw [h2] at hw
    by_cases e : y = k
    · rw [hx i hi (by rw [hy, e])]
      exact hr
    · rw [if_neg e] at hw
      exact h.rest i y hi hy hw⟩
theorem SInv.lifted {g : G} (hg : g.Right) {m : Nat → Int} {l : List Tup} {Wt Wt' : Nat → Bool} {k x first : Nat} {bs : List Int} (h : SInv g m l Wt k) (hxn : x < g.owner.length) (hx : ∀ i, i < g.owner.length → m i = (k : Int) → i = x)
    (hf : first ≤ k) (h1 : ∀ y, y < first → Wt' y = true → Wt y = true) (h2 : ∀ y, Wt' y = false → (y = k ∨ Wt y = false) ∧ ∀ z ∈ bs, m z.toNat ≠ (y : Int)) (hbs : ∀ i, i < g.owner.length → (x : Int) ∈ g.moves.getD i [] → (i : Int) ∈ bs) :
    SInv g m (l.set x (g.choose l x).2) Wt' first := by
  refine ⟨h.low.lifted hg hxn, fun y hy => ?_, fun i y hi hy hw => ?_⟩
  · cases hw : Wt' y with
    | false => rfl
    | true =>
      have := h1 y hy hw
      rw [h.ahead y (by omega)] at this
      cases this
  · obtain ⟨h3, h4⟩ := h2 y hw
    refine Rest.lifted hg h.low.1 hxn hi (fun hm => ?_) ?_
    · have := h4 (i : Int) (hbs i hi hm)
      rw [Int.toNat_natCast] at this
      exact this hy
    · rcases h3 with h3 | h3
      · exact .inl (hx i hi (by rw [hy, h3]))
      · exact .inr (h.rest i y hi hy h3)
theorem SInv.done {g : G} {m : Nat → Int} {l : List Tup} {Wt : Nat → Bool} {n : Nat} (h : SInv g m l Wt n) (hm : ∀ i, i < g.owner.length → ∃ y : Nat, y < n ∧ m i = (y : Int)) : IsSol g l :=
  ⟨h.low, fun i hi => by
    obtain ⟨y, hy, e⟩ := hm i hi
    exact h.rest i y hi e (h.ahead y hy)⟩
/-- Where positions stand. -/
theorem Order.places {n : Nat} {O : List Nat} (hO : Order n O) {m : Nat → Int} (hm : ∀ (i x : Nat), O[i]? = some x → m x = i) : ∀ x, x < n → ∃ y : Nat, y < n ∧ m x = (y : Int) ∧ O[y]? = some x := by
  intro x hx
  obtain ⟨i, hi⟩ := List.getElem?_of_mem ((hO.2 x).2 hx)
  have := (List.getElem?_eq_some_iff.1 hi).1
  rw [hO.len] at this
  exact ⟨i, this, hm i x hi, hi⟩
theorem measure_lt {s s' n a a' b b' : Nat} (h : s' < s) (ha : a' ≤ n) (hb : b' ≤ n) : s' * (2 * n + 1) + (a' + b') < s * (2 * n + 1) + (a + b) := by
  have := Nat.mul_le_mul_right (2 * n + 1) (show s' + 1 ≤ s from h)
  rw [Nat.add_mul, Nat.one_mul] at this
  omega
end P
end Go.Proofs.Yteeaojciobmcaaa
end
section
namespace Go.Proofs.Yteeaojciobmcaaa
namespace P
def EX14 : G := ⟨[0, 1], [1, 2], [[0, 1], [0]]⟩
def EL14 : List Tup := [⟨false, 1, 0, 0, 0⟩, .zero]
theorem ex14_right : EX14.Right := (G.ok_iff _).1 (by decide +kernel)
theorem ex14_sol : IsSol EX14 EL14 := by
  constructor
  · have h := (zero_low (g := EX14)).lifted ex14_right (i := 0) (by decide)
    have e : (List.replicate EX14.owner.length Tup.zero).set 0 (EX14.choose (List.replicate EX14.owner.length Tup.zero) 0).2 = EL14 := by decide +kernel
    rw [e] at h
    exact h
  · intro i hi
    have hi : i < 2 := hi
    match i, hi with
    | 0, _ => exact (Tup.cmp_le _ _).1 (by decide +kernel)
    | 1, _ => exact (Tup.cmp_le _ _).1 (by decide +kernel)
/-- What lifting the example ends in. -/
theorem ex14_is {l : List Tup} (h : IsSol EX14 l) : l = EL14 := h.unique ex14_sol
theorem ex14_move : EX14.choose EL14 0 = (1, ⟨false, 1, 0, 0, 0⟩) := by decide +kernel
end P
end Go.Proofs.Yteeaojciobmcaaa
end
