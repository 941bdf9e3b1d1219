/- From where a player can force its way into a set: the least set that A1's rules close. Plain facts, no program. -/
import Derived.Test.YtpfponiidppldaaDoorGame
import Derived.Test.YtpfponiidppldaaDoorPure
import Derived.Test.YtpfponiidppldaaDoorRSubP
namespace Go.Proofs.YtpfponiidppldaaDoor
namespace P
/-- A1: the position i comes into the set. -/
inductive Att (g : G) (I : BitVec 256) (p : Int) (To : BitVec 256) : Nat → Prop
  | base (i : Nat) (hn : i < g.owner.length) (hi : I.getLsbD i = true) (ht : To.getLsbD i = true) : Att g I p To i
  | own (i m : Nat) (hn : i < g.owner.length) (hi : I.getLsbD i = true) (ho : g.owner.getD i 0 = p) (hm : (m : Int) ∈ g.moves.getD i []) (hmi : I.getLsbD m = true) (h : Att g I p To m) : Att g I p To i
  | oth (i : Nat) (hn : i < g.owner.length) (hi : I.getLsbD i = true) (ho : g.owner.getD i 0 ≠ p) (he : ∃ m : Nat, (m : Int) ∈ g.moves.getD i [] ∧ I.getLsbD m = true) (h : ∀ m : Nat, (m : Int) ∈ g.moves.getD i [] → I.getLsbD m = true → Att g I p To m) : Att g I p To i
theorem Att.bound {g : G} {I To : BitVec 256} {p : Int} {i : Nat} (h : Att g I p To i) : i < g.owner.length ∧ I.getLsbD i = true := by
  cases h with
  | base _ h1 h2 _ => exact ⟨h1, h2⟩
  | own _ _ h1 h2 _ _ _ _ => exact ⟨h1, h2⟩
  | oth _ h1 h2 _ _ _ => exact ⟨h1, h2⟩
/-- A set that holds what of To is in, whose positions all come in, and that the rules close, is the one. -/
theorem att_iff {g : G} {I To : BitVec 256} {p : Int} (A : Nat → Prop) (ha : ∀ i, A i → Att g I p To i) (hb : ∀ i, i < g.owner.length → I.getLsbD i = true → To.getLsbD i = true → A i)
    (ho : ∀ i m : Nat, i < g.owner.length → I.getLsbD i = true → g.owner.getD i 0 = p → (m : Int) ∈ g.moves.getD i [] → I.getLsbD m = true → A m → A i)
    (hx : ∀ i : Nat, i < g.owner.length → I.getLsbD i = true → g.owner.getD i 0 ≠ p → (∃ m : Nat, (m : Int) ∈ g.moves.getD i [] ∧ I.getLsbD m = true) → (∀ m : Nat, (m : Int) ∈ g.moves.getD i [] → I.getLsbD m = true → A m) → A i) (i : Nat) : A i ↔ Att g I p To i := by
  constructor
  · exact ha i
  · intro h
    induction h with
    | base i h1 h2 h3 => exact hb i h1 h2 h3
    | own i m h1 h2 h3 h4 h5 _ ih => exact ho i m h1 h2 h3 h4 h5 ih
    | oth i h1 h2 h3 h4 _ ih => exact hx i h1 h2 h3 h4 ih
theorem Att.mono {g : G} {I To To' : BitVec 256} {p : Int} (hs : ∀ i, To.getLsbD i = true → To'.getLsbD i = true) {i : Nat} (h : Att g I p To i) : Att g I p To' i := by
  induction h with
  | base i h1 h2 h3 => exact .base i h1 h2 (hs i h3)
  | own i m h1 h2 h3 h4 h5 _ ih => exact .own i m h1 h2 h3 h4 h5 ih
  | oth i h1 h2 h3 h4 _ ih => exact .oth i h1 h2 h3 h4 ih
/-- Attracted to what was attracted it is that. -/
theorem att_again {g : G} {I To A : BitVec 256} {p : Int} (hA : ∀ i, i < 256 → (A.getLsbD i = true ↔ Att g I p To i)) (i : Nat) : Att g I p A i ↔ Att g I p To i := by
  have lt : ∀ (s : BitVec 256) (j : Nat), s.getLsbD j = true → j < 256 := fun s j h => by
    rcases Nat.lt_or_ge j 256 with h1 | h1
    · exact h1
    · rw [BitVec.getLsbD_of_ge s j h1] at h; cases h
  constructor
  · intro h
    induction h with
    | base i h1 h2 h3 => exact (hA i (lt A i h3)).1 h3
    | own i m h1 h2 h3 h4 h5 _ ih => exact .own i m h1 h2 h3 h4 h5 ih
    | oth i h1 h2 h3 h4 _ ih => exact .oth i h1 h2 h3 h4 ih
  · intro h
    exact .base i h.bound.1 h.bound.2 ((hA i (lt I i h.bound.2)).2 h)
/-- Of nothing, nothing. -/
theorem att_none {g : G} {I : BitVec 256} {p : Int} (i : Nat) : ¬ Att g I p 0#256 i := by
  intro h
  induction h with
  | base i h1 h2 h3 => rw [BitVec.getLsbD_zero] at h3; cases h3
  | own i m h1 h2 h3 h4 h5 _ ih => exact ih
  | oth i h1 h2 h3 h4 _ ih => obtain ⟨m, hm, hmi⟩ := h4; exact ih m hm hmi
/-- With the players exchanged the other one attracts the same. -/
theorem att_dual {g d : G} {I To : BitVec 256} {p : Int} (hl : d.owner.length = g.owner.length) (ho : ∀ i, i < g.owner.length → d.owner.getD i 0 = 1 - g.owner.getD i 0) (hm : ∀ i, d.moves.getD i [] = g.moves.getD i []) (i : Nat) : Att g I p To i ↔ Att d I (1 - p) To i := by
  constructor
  · intro h
    induction h with
    | base i h1 h2 h3 => exact .base i (by rw [hl]; exact h1) h2 h3
    | own i m h1 h2 h3 h4 h5 _ ih => exact .own i m (by rw [hl]; exact h1) h2 (by rw [ho i h1, h3]) (by rw [hm]; exact h4) h5 ih
    | oth i h1 h2 h3 h4 _ ih => exact .oth i (by rw [hl]; exact h1) h2 (by rw [ho i h1]; omega) (by rw [hm]; exact h4) (fun m h5 h6 => ih m (by rw [hm] at h5; exact h5) h6)
  · intro h
    generalize hq : 1 - p = q at h
    induction h with
    | base i h1 h2 h3 => exact .base i (by rw [← hl]; exact h1) h2 h3
    | own i m h1 h2 h3 h4 h5 _ ih => exact .own i m (by rw [← hl]; exact h1) h2 (by have := ho i (by rw [← hl]; exact h1); omega) (by rw [← hm]; exact h4) h5 ih
    | oth i h1 h2 h3 h4 _ ih => exact .oth i (by rw [← hl]; exact h1) h2 (by have := ho i (by rw [← hl]; exact h1); omega) (by rw [← hm]; exact h4) (fun m h5 h6 => ih m (by rw [hm]; exact h5) h6)
/-- Who owns more attracts no less. -/
theorem att_owners {g d : G} {I To : BitVec 256} {p : Int} (hl : d.owner.length = g.owner.length) (ho : ∀ i, i < g.owner.length → g.owner.getD i 0 = p → d.owner.getD i 0 = p) (hm : ∀ i, d.moves.getD i [] = g.moves.getD i []) {i : Nat} (h : Att g I p To i) : Att d I p To i := by
  induction h with
  | base i h1 h2 h3 => exact .base i (by rw [hl]; exact h1) h2 h3
  | own i m h1 h2 h3 h4 h5 _ ih => exact .own i m (by rw [hl]; exact h1) h2 (ho i h1 h3) (by rw [hm]; exact h4) h5 ih
  | oth i h1 h2 h3 h4 _ ih =>
    by_cases e : d.owner.getD i 0 = p
    · obtain ⟨m, h5, h6⟩ := h4
      exact .own i m (by rw [hl]; exact h1) h2 e (by rw [hm]; exact h5) h6 (ih m h5 h6)
    · exact .oth i (by rw [hl]; exact h1) h2 e (by rw [hm]; exact h4) (fun m h5 h6 => ih m (by rw [hm] at h5; exact h5) h6)
end P
end Go.Proofs.YtpfponiidppldaaDoor
namespace Go.Proofs.YtpfponiidppldaaDoor
namespace P
theorem nat_has (s : BitVec 256) (x : Nat) : has s (x : Int) = s.getLsbD x := by unfold has; simp
/-- The moves of a position that stay within a set. -/
def into (g : G) (I : BitVec 256) (x : Nat) : List Int := (g.moves.getD x []).filter (has I)
/-- The positions from which a move within the set leads to one. -/
def ahead (g : G) (I : BitVec 256) (q : Nat) : List Nat := if I.getLsbD q = true then (pre2 I g.owner.length).filter (fun x => decide ((q : Int) ∈ g.moves.getD x [])) else []
theorem mem_ahead (g : G) (I : BitVec 256) (q x : Nat) : x ∈ ahead g I q ↔ I.getLsbD q = true ∧ x < g.owner.length ∧ I.getLsbD x = true ∧ (q : Int) ∈ g.moves.getD x [] := by
  unfold ahead
  by_cases h : I.getLsbD q = true
  · rw [if_pos h, List.mem_filter, pre2_mem, decide_eq_true_eq]
    exact ⟨fun ⟨⟨h1, h2⟩, h3⟩ => ⟨h, h1, h2, h3⟩, fun ⟨_, h1, h2, h3⟩ => ⟨⟨h1, h2⟩, h3⟩⟩
  · rw [if_neg h]
    constructor
    · intro h1; simp at h1
    · rintro ⟨h1, -⟩; exact absurd h1 h
theorem ahead_nodup (g : G) (I : BitVec 256) (q : Nat) : (ahead g I q).Nodup := by
  unfold ahead
  split
  · unfold pre2
    exact List.Pairwise.filter _ (List.Pairwise.filter _ List.nodup_range)
  · simp
theorem rise_nodup {n : Int} : ∀ {l : List Int} {last : Int}, rise n last l = true → l.Nodup
  | [], _, _ => by simp
  | x :: l, last, h => by
    unfold rise at h
    simp only [Bool.and_eq_true, decide_eq_true_eq] at h
    refine List.nodup_cons.2 ⟨fun hx => ?_, rise_nodup h.2.2⟩
    have := (rise_bounds h.2.2 x hx).1
    omega
theorem into_nodup {g : G} (hr : g.Right) (I : BitVec 256) (x : Nat) (hx : x < g.owner.length) : (into g I x).Nodup := List.Pairwise.filter _ (rise_nodup (hr.at x hx).2.2.2.2)
theorem mem_into {g : G} (hr : g.Right) (I : BitVec 256) (x : Nat) (hx : x < g.owner.length) (m : Int) : m ∈ into g I x ↔ ∃ k : Nat, m = k ∧ k < g.owner.length ∧ (k : Int) ∈ g.moves.getD x [] ∧ I.getLsbD k = true := by
  unfold into
  rw [List.mem_filter]
  constructor
  · rintro ⟨h1, h2⟩
    have := rise_bounds (hr.at x hx).2.2.2.2 m h1
    obtain ⟨k, rfl⟩ := Int.eq_ofNat_of_zero_le (show 0 ≤ m by omega)
    rw [nat_has] at h2
    exact ⟨k, rfl, by omega, h1, h2⟩
  · rintro ⟨k, rfl, -, h1, h2⟩
    exact ⟨h1, by rw [nat_has]; exact h2⟩
/-- Has q been told to x, where i of the queue are done and j of those ahead of the next one? -/
def told (g : G) (I : BitVec 256) (Q : List Nat) (i j x q : Nat) : Bool := (Q.take i).contains q || (decide (Q[i]? = some q) && ((ahead g I q).take j).contains x)
/-- How many of its moves have been told to x. -/
def cnt (g : G) (I : BitVec 256) (Q : List Nat) (i j x : Nat) : Nat := ((into g I x).filter (fun m => told g I Q i j x m.toNat)).length
theorem filter_one (p : Int → Bool) (a : Int) : ∀ (l : List Int), l.Nodup → a ∈ l → p a = false → (l.filter (fun m => p m || m == a)).length = (l.filter p).length + 1
  | [], _, h, _ => by simp at h
  | x :: l, hn, h, hp => by
    obtain ⟨h1, h2⟩ := List.nodup_cons.1 hn
    by_cases e : x = a
    · subst e
      have hc : l.filter (fun m => p m || m == x) = l.filter p := by
        apply List.filter_congr
        intro m hm
        have : m ≠ x := fun e => h1 (e ▸ hm)
        rw [show (m == x) = false by rw [beq_eq_false_iff_ne]; exact this, Bool.or_false]
      rw [List.filter_cons_of_pos (by simp), List.filter_cons_of_neg (by rw [hp]; decide), hc]
      simp
    · have ha : a ∈ l := by
        rcases List.mem_cons.1 h with h | h
        · exact absurd h.symm e
        · exact h
      have ih := filter_one p a l h2 ha hp
      have hx : (x == a) = false := by rw [beq_eq_false_iff_ne]; exact e
      by_cases hpx : p x = true
      · rw [List.filter_cons_of_pos (by rw [hpx]; rfl), List.filter_cons_of_pos hpx]
        simp [ih]
      · rw [List.filter_cons_of_neg (by rw [hx]; simpa using hpx), List.filter_cons_of_neg hpx]
        exact ih
theorem take_contains {l : List Nat} {j x : Nat} (hx : l[j]? = some x) (y : Nat) : (l.take (j + 1)).contains y = ((l.take j).contains y || y == x) := by
  rw [List.take_add_one, hx]
  simp only [Option.toList_some]
  rw [Bool.eq_iff_iff]
  simp [List.mem_append]
theorem not_take {l : List Nat} (hn : l.Nodup) {j x : Nat} (hx : l[j]? = some x) : (l.take j).contains x = false := by
  rw [Bool.eq_false_iff]
  intro h
  have h1 : x ∈ l.take j := by simpa using h
  obtain ⟨i, hi, e⟩ := List.mem_iff_getElem.1 h1
  rw [List.length_take] at hi
  rw [List.getElem_take] at e
  obtain ⟨hj, e2⟩ := List.getElem?_eq_some_iff.1 hx
  have := (List.pairwise_iff_getElem.1 hn) i j (by omega) hj (by omega)
  exact this (by rw [e, e2])
/-- One more is told. -/
theorem cnt_step {g : G} (hr : g.Right) (I : BitVec 256) {Q : List Nat} (hQ : Q.Nodup) {i j x q : Nat} (hq : Q[i]? = some q) (hx : (ahead g I q)[j]? = some x) (y : Nat) : cnt g I Q i (j + 1) y = if y = x then cnt g I Q i j x + 1 else cnt g I Q i j y := by
  have ht : ∀ m, told g I Q i (j + 1) y m = (told g I Q i j y m || (decide (m = q) && y == x)) := fun m => by
    unfold told
    by_cases e : m = q
    · subst e
      rw [decide_eq_true hq, take_contains hx]
      cases (Q.take i).contains m <;> cases ((ahead g I m).take j).contains y <;> simp
    · have e2 : ¬ Q[i]? = some m := fun h => by rw [hq] at h; injection h with h; exact e h.symm
      rw [decide_eq_false e2, decide_eq_false e]
      simp
  unfold cnt
  by_cases e : y = x
  · subst e
    rw [if_pos rfl]
    have hm := (mem_ahead g I q y).1 (List.mem_of_getElem? hx)
    have hin : (q : Int) ∈ into g I y := by
      unfold into
      rw [List.mem_filter, nat_has]
      exact ⟨hm.2.2.2, hm.1⟩
    have hp : told g I Q i j y (q : Int).toNat = false := by
      unfold told
      rw [Int.toNat_natCast, not_take hQ hq, not_take (ahead_nodup g I q) hx, Bool.and_false, Bool.or_false]
    rw [← filter_one (fun m => told g I Q i j y m.toNat) (q : Int) (into g I y) (into_nodup hr I y hm.2.1) hin hp]
    congr 1
    apply List.filter_congr
    intro m hmi
    obtain ⟨k, rfl, -, -, -⟩ := (mem_into hr I y hm.2.1 m).1 hmi
    rw [ht, Int.toNat_natCast, beq_self_eq_true, Bool.and_true]
    congr 1
    rw [Bool.eq_iff_iff, decide_eq_true_iff, beq_iff_eq]
    omega
  · rw [if_neg e]
    congr 1
    apply List.filter_congr
    intro m _
    rw [ht, show (y == x) = false by rw [beq_eq_false_iff_ne]; exact e, Bool.and_false, Bool.or_false]
/-- The next one of the queue. -/
theorem cnt_next {g : G} (hr : g.Right) (I : BitVec 256) {Q : List Nat} {i q : Nat} (hq : Q[i]? = some q) (y : Nat) (hy : y < g.owner.length) (hI : I.getLsbD y = true) : cnt g I Q (i + 1) 0 y = cnt g I Q i (ahead g I q).length y := by
  unfold cnt
  congr 1
  apply List.filter_congr
  intro m hm
  obtain ⟨k, rfl, -, h1, h2⟩ := (mem_into hr I y hy m).1 hm
  unfold told
  rw [Int.toNat_natCast, List.take_zero, List.contains_nil, Bool.and_false, Bool.or_false, List.take_add_one, hq]
  simp only [Option.toList_some]
  rw [Bool.eq_iff_iff]
  simp only [List.contains_eq_mem, List.mem_append, List.mem_singleton, decide_eq_true_eq, Bool.or_eq_true, Bool.and_eq_true, Option.some.injEq]
  constructor
  · rintro (h | h)
    · exact .inl h
    · subst h
      exact .inr ⟨rfl, by rw [List.take_length]; exact (mem_ahead g I k y).2 ⟨h2, hy, hI, h1⟩⟩
  · rintro (h | ⟨h, _⟩)
    · exact .inl h
    · exact .inr h.symm
/-- One more at the queue's end. -/
theorem cnt_push (g : G) (I : BitVec 256) (Q : List Nat) (i j z : Nat) (hi : i < Q.length) (y : Nat) : cnt g I (Q ++ [z]) i j y = cnt g I Q i j y := by
  unfold cnt
  congr 1
  apply List.filter_congr
  intro m _
  unfold told
  rw [List.take_append_of_le_length (by omega), List.getElem?_append_left hi]
end P
end Go.Proofs.YtpfponiidppldaaDoor
