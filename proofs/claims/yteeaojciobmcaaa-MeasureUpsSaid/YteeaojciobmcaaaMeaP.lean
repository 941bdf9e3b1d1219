/- Tuples of counters: their order, what a move makes of one, what a position makes of its moves'. Plain. -/
import Derived.Test.YteeaojciobmcaaaGame
namespace Go.Proofs.Yteeaojciobmcaaa
namespace P
/-- A tuple: is it above all others; its counters. -/
structure Tup where
  top : Bool
  a : Int
  b : Int
  c : Int
  d : Int
deriving DecidableEq
namespace Tup
def zero : Tup := ⟨false, 0, 0, 0, 0⟩
def over : Tup := ⟨true, 0, 0, 0, 0⟩
/-- One counter's word in it; r: what lower ones say. -/
def dig (p q x y r : Int) : Int := if q < p then 0 else if x < y then -1 else if y < x then 1 else r
/-- -1, 0, 1: how two tuples stand, from a priority on. -/
def cmp (s t : Tup) (p : Int) : Int :=
  if s.top = true then (if t.top = true then 0 else 1) else if t.top = true then -1
  else dig p 7 s.d t.d (dig p 5 s.c t.c (dig p 3 s.b t.b (dig p 1 s.a t.a 0)))
theorem dig_back (p q x y r : Int) : dig p q y x (-r) = - dig p q x y r := by
  unfold dig
  repeat' split
  all_goals omega
theorem dig_one (p q x y r : Int) (h : r = -1 ∨ r = 0 ∨ r = 1) : dig p q x y r = -1 ∨ dig p q x y r = 0 ∨ dig p q x y r = 1 := by
  unfold dig
  repeat' split
  all_goals omega
theorem dig_le (q x y r : Int) (hq : 0 ≤ q) : dig 0 q x y r ≤ 0 ↔ x < y ∨ x = y ∧ r ≤ 0 := by
  unfold dig
  rw [if_neg (by omega)]
  repeat' split
  all_goals omega
/-- Is one at most the other? -/
def le (s t : Tup) : Prop := t.top = true ∨ s.top = false ∧ (s.d < t.d ∨ s.d = t.d ∧ (s.c < t.c ∨ s.c = t.c ∧ (s.b < t.b ∨ s.b = t.b ∧ s.a ≤ t.a)))
theorem cmp_le (s t : Tup) : cmp s t 0 ≤ 0 ↔ le s t := by
  obtain ⟨s0, s1, s2, s3, s4⟩ := s
  obtain ⟨t0, t1, t2, t3, t4⟩ := t
  unfold cmp le
  cases s0 <;> cases t0 <;> simp
  rw [dig_le _ _ _ _ (by omega), dig_le _ _ _ _ (by omega), dig_le _ _ _ _ (by omega), dig_le _ _ _ _ (by omega)]
  omega
theorem cmp_back (s t : Tup) (p : Int) : cmp t s p = - cmp s t p := by
  obtain ⟨s0, s1, s2, s3, s4⟩ := s
  obtain ⟨t0, t1, t2, t3, t4⟩ := t
  unfold cmp
  cases s0 <;> cases t0 <;> simp
  rw [← dig_back, ← dig_back, ← dig_back, ← dig_back, Int.neg_zero]
theorem cmp_one (s t : Tup) (p : Int) : cmp s t p = -1 ∨ cmp s t p = 0 ∨ cmp s t p = 1 := by
  unfold cmp
  split
  · split <;> simp
  · split
    · simp
    · exact dig_one _ _ _ _ _ (dig_one _ _ _ _ _ (dig_one _ _ _ _ _ (dig_one _ _ _ _ _ (.inr (.inl rfl)))))
theorem cmp_lt (s t : Tup) : cmp s t 0 < 0 ↔ ¬ le t s := by
  rw [← cmp_le t s, cmp_back s t]
  omega
theorem cmp_gt (s t : Tup) : 0 < cmp s t 0 ↔ ¬ le s t := by
  rw [← cmp_le s t]
  omega
theorem le_refl (s : Tup) : le s s := by
  unfold le
  cases s.top
  · exact .inr ⟨rfl, .inr ⟨rfl, .inr ⟨rfl, .inr ⟨rfl, Int.le_refl _⟩⟩⟩⟩
  · exact .inl rfl
theorem le_trans {s t u : Tup} (h1 : le s t) (h2 : le t u) : le s u := by
  obtain ⟨s0, s1, s2, s3, s4⟩ := s
  obtain ⟨t0, t1, t2, t3, t4⟩ := t
  obtain ⟨u0, u1, u2, u3, u4⟩ := u
  unfold le at *
  cases s0 <;> cases t0 <;> cases u0 <;> simp at h1 h2 ⊢ <;> omega
theorem le_total {s t : Tup} (h : ¬ le s t) : le t s := by
  rw [← cmp_le] at *
  rw [cmp_back s t]
  omega
theorem le_over (s : Tup) : le s over := .inl rfl
/-- Is each counter from 0 to what it may be? -/
def inR (n t : Tup) : Prop := (0 ≤ t.a ∧ t.a ≤ n.a) ∧ (0 ≤ t.b ∧ t.b ≤ n.b) ∧ (0 ≤ t.c ∧ t.c ≤ n.c) ∧ 0 ≤ t.d ∧ t.d ≤ n.d
/-- As the program makes them. -/
def good (n t : Tup) : Prop := inR n t ∧ (t.top = true → t = over)
theorem le_antisymm {n s t : Tup} (hs : good n s) (ht : good n t) (h1 : le s t) (h2 : le t s) : s = t := by
  obtain ⟨-, hs⟩ := hs
  obtain ⟨-, ht⟩ := ht
  obtain ⟨s0, s1, s2, s3, s4⟩ := s
  obtain ⟨t0, t1, t2, t3, t4⟩ := t
  unfold le at *
  cases s0 <;> cases t0 <;> simp at h1 h2
  · simp only [mk.injEq, true_and]; omega
  · rw [hs rfl, ht rfl]
theorem zero_le {n t : Tup} (h : inR n t) : le zero t := by
  unfold le inR zero at *
  cases t.top
  · refine .inr ⟨rfl, ?_⟩
    simp only
    omega
  · exact .inl rfl
/-- What a move makes of a tuple, counter by counter; n: what each may be. -/
def up3 (n : Tup) (p : Int) (t : Tup) : Tup :=
  if 7 < p then (if p % 2 = 1 then over else { t with d := 0 }) else if p % 2 ≠ 1 then t else if t.d < n.d then { t with d := t.d + 1 } else over
def up2 (n : Tup) (p : Int) (t : Tup) : Tup :=
  if 5 < p then up3 n p { t with c := 0 } else if p % 2 ≠ 1 then t else if t.c < n.c then { t with c := t.c + 1 } else up3 n p { t with c := 0 }
def up1 (n : Tup) (p : Int) (t : Tup) : Tup :=
  if 3 < p then up2 n p { t with b := 0 } else if p % 2 ≠ 1 then t else if t.b < n.b then { t with b := t.b + 1 } else up2 n p { t with b := 0 }
def up0 (n : Tup) (p : Int) (t : Tup) : Tup :=
  if 1 < p then up1 n p { t with a := 0 } else if p % 2 ≠ 1 then t else if t.a < n.a then { t with a := t.a + 1 } else up1 n p { t with a := 0 }
def up (n : Tup) (p : Int) (t : Tup) : Tup := if t.top = true then over else up0 n p t
theorem over_good {n : Tup} (hn : inR n n) : good n over := by
  unfold good inR over at *
  simp only [implies_true, and_true]
  omega
theorem good_of {n t : Tup} (h : inR n t) (ht : t.top = false) : good n t := ⟨h, fun e => by rw [ht] at e; cases e⟩
theorem up3_good {n t : Tup} (p : Int) (hn : inR n n) (h : inR n t) (ht : t.top = false) : good n (up3 n p t) := by
  have := hn
  have := h
  unfold inR at *
  unfold up3
  repeat' split
  all_goals first | exact over_good hn | exact good_of (by unfold inR; (try simp only); omega) ht
theorem up2_good {n t : Tup} (p : Int) (hn : inR n n) (h : inR n t) (ht : t.top = false) : good n (up2 n p t) := by
  have := hn
  have := h
  unfold inR at *
  unfold up2
  repeat' split
  all_goals first | exact good_of (by unfold inR; (try simp only); omega) ht | exact up3_good p hn (by unfold inR; (try simp only); omega) ht
theorem up1_good {n t : Tup} (p : Int) (hn : inR n n) (h : inR n t) (ht : t.top = false) : good n (up1 n p t) := by
  have := hn
  have := h
  unfold inR at *
  unfold up1
  repeat' split
  all_goals first | exact good_of (by unfold inR; (try simp only); omega) ht | exact up2_good p hn (by unfold inR; (try simp only); omega) ht
theorem up_good {n t : Tup} (p : Int) (hn : inR n n) (h : inR n t) : good n (up n p t) := by
  unfold up
  split
  · exact over_good hn
  · rename_i ht
    have ht : t.top = false := by simpa using ht
    have := hn
    have := h
    unfold inR at *
    unfold up0
    repeat' split
    all_goals first | exact good_of (by unfold inR; (try simp only); omega) ht | exact up1_good p hn (by unfold inR; (try simp only); omega) ht
theorem up_mono {n s t : Tup} (p : Int) (hs : inR n s) (ht : inR n t) (h : le s t) : le (up n p s) (up n p t) := by
  obtain ⟨s0, s1, s2, s3, s4⟩ := s
  obtain ⟨t0, t1, t2, t3, t4⟩ := t
  cases t0
  · cases s0
    · unfold le inR up at *
      simp only [Bool.false_eq_true, if_false, false_or, true_and] at *
      by_cases hp : p % 2 = 1
      · simp only [up0, up1, up2, up3, hp, ne_eq, not_true_eq_false, if_false, if_true]
        by_cases q7 : 7 < p
        · simp [q7, show 5 < p by omega, show 3 < p by omega, show 1 < p by omega, over]
        by_cases q5 : 5 < p
        · simp only [q7, q5, show 3 < p by omega, show 1 < p by omega, if_true, if_false]
          (repeat' split) <;> simp [over] <;> omega
        by_cases q3 : 3 < p
        · simp only [q7, q5, q3, show 1 < p by omega, if_true, if_false]
          (repeat' split) <;> simp [over] <;> omega
        by_cases q1 : 1 < p
        · simp only [q7, q5, q3, q1, if_true, if_false]
          (repeat' split) <;> simp [over] <;> omega
        simp only [q7, q5, q3, q1, if_false]
        (repeat' split) <;> simp [over] <;> omega
      · simp only [up0, up1, up2, up3, hp, ne_eq, not_false_eq_true, if_false, if_true]
        (repeat' split) <;> simp <;> omega
    · simp [le] at h
  · exact .inl (by simp [up, over])
end Tup
end P
end Go.Proofs.Yteeaojciobmcaaa
