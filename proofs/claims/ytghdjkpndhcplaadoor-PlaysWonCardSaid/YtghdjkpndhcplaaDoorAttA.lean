/- From where a player can force its way into a set: the least set that A1's rules close. Plain facts, no program. What counting makes: for each position those ahead of it, and how many moves lead from each. Plain facts, no program. Attraction by a queue: what holds between the rounds, and what holds at the end. Plain facts, no program. What Attract's set is, as a set; what follows from it. Plain facts, no program. Rows of numbers as functions; what Attract hands back. Plain facts, no program. -/
import Derived.Test.YtghdjkpndhcplaaDoorGame
import Derived.Test.YtghdjkpndhcplaaDoorPts
import Derived.Test.YtghdjkpndhcplaaDoorHlv
section
namespace Go.Proofs.YtghdjkpndhcplaaDoor
namespace P
/-- A1: the position i comes into the set. -/
inductive Att (g : G) (I : BitVec 256) (p : Int) (To : BitVec 256) : Nat → Prop
  | base (i : Nat) (hn : i < g.owner.length) (hi : I.getLsbD i = true) (ht : To.getLsbD i = true) : Att g I p To i
  | own (i m : Nat) (hn : i < g.owner.length) (hi : I.getLsbD i = true) (ho : g.owner.getD i 0 = p) (hm : (m : Int) ∈ g.moves.getD i []) (hmi : I.getLsbD m = true) (h : Att g I p To m) : Att g I p To i
  | oth (i : Nat) (hn : i < g.owner.length) (hi : I.getLsbD i = true) (ho : g.owner.getD i 0 ≠ p) (he : ∃ m : Nat, (m : Int) ∈ g.moves.getD i [] ∧ I.getLsbD m = true) (h : ∀ m : Nat, (m : Int) ∈ g.moves.getD i [] → I.getLsbD m = true → Att g I p To m) : Att g I p To i
theorem Att.bound {g : G} {I To : BitVec 256} {p : Int} {i : Nat} (h : Att g I p To i) : i < g.owner.length ∧ I.getLsbD i = true := by
  cases h with
  | base _ h1 h2 _ => exact ⟨h1, h2⟩
  | own _ _ h1 h2 _ _ _ _ => exact ⟨h1, h2⟩
  | oth _ h1 h2 _ _ _ => exact ⟨h1, h2⟩
/-- A set that holds what of To is in, whose positions all come in, and that the rules close, is the one. -/
theorem att_iff {g : G} {I To : BitVec 256} {p : Int} (A : Nat → Prop) (ha : ∀ i, A i → Att g I p To i) (hb : ∀ i, i < g.owner.length → I.getLsbD i = true → To.getLsbD i = true → A i)
    (ho : ∀ i m : Nat, i < g.owner.length → I.getLsbD i = true → g.owner.getD i 0 = p → (m : Int) ∈ g.moves.getD i [] → I.getLsbD m = true → A m → A i)
    (hx : ∀ i : Nat, i < g.owner.length → I.getLsbD i = true → g.owner.getD i 0 ≠ p → (∃ m : Nat, (m : Int) ∈ g.moves.getD i [] ∧ I.getLsbD m = true) → (∀ m : Nat, (m : Int) ∈ g.moves.getD i [] → I.getLsbD m = true → A m) → A i) (i : Nat) : A i ↔ Att g I p To i := by
  constructor
  · exact ha i
  · intro h
    induction h with
    | base i h1 h2 h3 => exact hb i h1 h2 h3
    | own i m h1 h2 h3 h4 h5 _ ih => exact ho i m h1 h2 h3 h4 h5 ih
    | oth i h1 h2 h3 h4 _ ih => exact hx i h1 h2 h3 h4 ih
theorem Att.mono {g : G} {I To To' : BitVec 256} {p : Int} (hs : ∀ i, To.getLsbD i = true → To'.getLsbD i = true) {i : Nat} (h : Att g I p To i) : Att g I p To' i := by
  induction h with
  | base i h1 h2 h3 => exact .base i h1 h2 (hs i h3)
  | own i m h1 h2 h3 h4 h5 _ ih => exact .own i m h1 h2 h3 h4 h5 ih
  | oth i h1 h2 h3 h4 _ ih => exact .oth i h1 h2 h3 h4 ih
/-- Attracted to what was attracted it is that. -/
theorem att_again {g : G} {I To A : BitVec 256} {p : Int} (hA : ∀ i, i < 256 → (A.getLsbD i = true ↔ Att g I p To i)) (i : Nat) : Att g I p A i ↔ Att g I p To i := by
  have lt : ∀ (s : BitVec 256) (j : Nat), s.getLsbD j = true → j < 256 := fun s j h => by
    rcases Nat.lt_or_ge j 256 with h1 | h1
    · exact h1
    · rw [BitVec.getLsbD_of_ge s j h1] at h; cases h
  constructor
  · intro h
    induction h with
    | base i h1 h2 h3 => exact (hA i (lt A i h3)).1 h3
    | own i m h1 h2 h3 h4 h5 _ ih => exact .own i m h1 h2 h3 h4 h5 ih
    | oth i h1 h2 h3 h4 _ ih => exact .oth i h1 h2 h3 h4 ih
  · intro h
    exact .base i h.bound.1 h.bound.2 ((hA i (lt I i h.bound.2)).2 h)
/-- Of nothing, nothing. -/
theorem att_none {g : G} {I : BitVec 256} {p : Int} (i : Nat) : ¬ Att g I p 0#256 i := by
  intro h
  induction h with
  | base i h1 h2 h3 => rw [BitVec.getLsbD_zero] at h3; cases h3
  | own i m h1 h2 h3 h4 h5 _ ih => exact ih
  | oth i h1 h2 h3 h4 _ ih => obtain ⟨m, hm, hmi⟩ := h4; exact ih m hm hmi
/-- With the players exchanged the other one attracts the same. -/
theorem att_dual {g d : G} {I To : BitVec 256} {p : Int} (hl : d.owner.length = g.owner.length) (ho : ∀ i, i < g.owner.length → d.owner.getD i 0 = 1 - g.owner.getD i 0) (hm : ∀ i, d.moves.getD i [] = g.moves.getD i []) (i : Nat) : Att g I p To i ↔ Att d I (1 - p) To i := by
  constructor
  · intro h
    induction h with
    | base i h1 h2 h3 => exact .base i (by rw [hl]; exact h1) h2 h3
    | own i m h1 h2 h3 h4 h5 _ ih => exact .own i m (by rw [hl]; exact h1) h2 (by rw [ho i h1, h3]) (by rw [hm]; exact h4) h5 ih
    | oth i h1 h2 h3 h4 _ ih => exact .oth i (by rw [hl]; exact h1) h2 (by rw [ho i h1]; omega) (by rw [hm]; exact h4) (fun m h5 h6 => ih m (by rw [hm] at h5; exact h5) h6)
  · intro h
    generalize hq : 1 - p = q at h
    induction h with
    | base i h1 h2 h3 => exact .base i (by rw [← hl]; exact h1) h2 h3
    | own i m h1 h2 h3 h4 h5 _ ih => exact .own i m (by rw [← hl]; exact h1) h2 (by have := ho i (by rw [← hl]; exact h1); omega) (by rw [← hm]; exact h4) h5 ih
    | oth i h1 h2 h3 h4 _ ih => exact .oth i (by rw [← hl]; exact h1) h2 (by have := ho i (by rw [← hl]; exact h1); omega) (by rw [← hm]; exact h4) (fun m h5 h6 => ih m (by rw [hm]; exact h5) h6)
/-- Who owns more attracts no less. -/
theorem att_owners {g d : G} {I To : BitVec 256} {p : Int} (hl : d.owner.length = g.owner.length) (ho : ∀ i, i < g.owner.length → g.owner.getD i 0 = p → d.owner.getD i 0 = p) (hm : ∀ i, d.moves.getD i [] = g.moves.getD i []) {i : Nat} (h : Att g I p To i) : Att d I p To i := by
  induction h with
  | base i h1 h2 h3 => exact .base i (by rw [hl]; exact h1) h2 h3
  | own i m h1 h2 h3 h4 h5 _ ih => exact .own i m (by rw [hl]; exact h1) h2 (ho i h1 h3) (by rw [hm]; exact h4) h5 ih
  | oth i h1 h2 h3 h4 _ ih =>
    by_cases e : d.owner.getD i 0 = p
    · obtain ⟨m, h5, h6⟩ := h4
      exact .own i m (by rw [hl]; exact h1) h2 e (by rw [hm]; exact h5) h6 (ih m h5 h6)
    · exact .oth i (by rw [hl]; exact h1) h2 e (by rw [hm]; exact h4) (fun m h5 h6 => ih m (by rw [hm] at h5; exact h5) h6)
end P
end Go.Proofs.YtghdjkpndhcplaaDoor
namespace Go.Proofs.YtghdjkpndhcplaaDoor
namespace P
theorem nat_has (s : BitVec 256) (x : Nat) : has s (x : Int) = s.getLsbD x := by unfold has; simp
/-- The moves of a position that stay within a set. -/
def into (g : G) (I : BitVec 256) (x : Nat) : List Int := (g.moves.getD x []).filter (has I)
/-- The positions from which a move within the set leads to one. -/
def ahead (g : G) (I : BitVec 256) (q : Nat) : List Nat := if I.getLsbD q = true then (pre2 I g.owner.length).filter (fun x => decide ((q : Int) ∈ g.moves.getD x [])) else []
theorem mem_ahead (g : G) (I : BitVec 256) (q x : Nat) : x ∈ ahead g I q ↔ I.getLsbD q = true ∧ x < g.owner.length ∧ I.getLsbD x = true ∧ (q : Int) ∈ g.moves.getD x [] := by
  unfold ahead
  by_cases h : I.getLsbD q = true
  · rw [if_pos h, List.mem_filter, pre2_mem, decide_eq_true_eq]
    exact ⟨fun ⟨⟨h1, h2⟩, h3⟩ => ⟨h, h1, h2, h3⟩, fun ⟨_, h1, h2, h3⟩ => ⟨⟨h1, h2⟩, h3⟩⟩
  · rw [if_neg h]
    constructor
    · intro h1; simp at h1
    · rintro ⟨h1, -⟩; exact absurd h1 h
theorem ahead_nodup (g : G) (I : BitVec 256) (q : Nat) : (ahead g I q).Nodup := by
  unfold ahead
  split
  · unfold pre2
    exact List.Pairwise.filter _ (List.Pairwise.filter _ List.nodup_range)
  · simp
theorem rise_nodup {n : Int} : ∀ {l : List Int} {last : Int}, rise n last l = true → l.Nodup
  | [], _, _ => by simp
  | x :: l, last, h => by
    unfold rise at h
    simp only [Bool.and_eq_true, decide_eq_true_eq] at h
    refine List.nodup_cons.2 ⟨fun hx => ?_, rise_nodup h.2.2⟩
    have := (rise_bounds h.2.2 x hx).1
    omega
theorem into_nodup {g : G} (hr : g.Right) (I : BitVec 256) (x : Nat) (hx : x < g.owner.length) : (into g I x).Nodup := List.Pairwise.filter _ (rise_nodup (hr.at x hx).2.2.2.2)
theorem mem_into {g : G} (hr : g.Right) (I : BitVec 256) (x : Nat) (hx : x < g.owner.length) (m : Int) : m ∈ into g I x ↔ ∃ k : Nat, m = k ∧ k < g.owner.length ∧ (k : Int) ∈ g.moves.getD x [] ∧ I.getLsbD k = true := by
  unfold into
  rw [List.mem_filter]
  constructor
  · rintro ⟨h1, h2⟩
    have := rise_bounds (hr.at x hx).2.2.2.2 m h1
    obtain ⟨k, rfl⟩ := Int.eq_ofNat_of_zero_le (show 0 ≤ m by omega)
    rw [nat_has] at h2
    exact ⟨k, rfl, by omega, h1, h2⟩
  · rintro ⟨k, rfl, -, h1, h2⟩
    exact ⟨h1, by rw [nat_has]; exact h2⟩
/-- Has q been told to x, where i of the queue are done and j of those ahead of the next one? -/
def told (g : G) (I : BitVec 256) (Q : List Nat) (i j x q : Nat) : Bool := (Q.take i).contains q || (decide (Q[i]? = some q) && ((ahead g I q).take j).contains x)
/-- How many of its moves have been told to x. -/
def cnt (g : G) (I : BitVec 256) (Q : List Nat) (i j x : Nat) : Nat := ((into g I x).filter (fun m => told g I Q i j x m.toNat)).length
theorem filter_one (p : Int → Bool) (a : Int) : ∀ (l : List Int), l.Nodup → a ∈ l → p a = false → (l.filter (fun m => p m || m == a)).length = (l.filter p).length + 1
  | [], _, h, _ => by simp at h
  | x :: l, hn, h, hp => by
    obtain ⟨h1, h2⟩ := List.nodup_cons.1 hn
    by_cases e : x = a
    · subst e
      have hc : l.filter (fun m => p m || m == x) = l.filter p := by
        apply List.filter_congr
        intro m hm
        have : m ≠ x := fun e => h1 (e ▸ hm)
        rw [show (m == x) = false by rw [beq_eq_false_iff_ne]; exact this, Bool.or_false]
      rw [List.filter_cons_of_pos (by simp), List.filter_cons_of_neg (by rw [hp]; decide), hc]
      simp
    · have ha : a ∈ l := by
        rcases List.mem_cons.1 h with h | h
        · exact absurd h.symm e
        · exact h
      have ih := filter_one p a l h2 ha hp
      have hx : (x == a) = false := by rw [beq_eq_false_iff_ne]; exact e
      by_cases hpx : p x = true
      · rw [List.filter_cons_of_pos (by rw [hpx]; rfl), List.filter_cons_of_pos hpx]
        simp [ih]
      · rw [List.filter_cons_of_neg (by rw [hx]; simpa using hpx), List.filter_cons_of_neg hpx]
        exact ih
theorem take_contains {l : List Nat} {j x : Nat} (hx : l[j]? = some x) (y : Nat) : (l.take (j + 1)).contains y = ((l.take j).contains y || y == x) := by
  rw [List.take_add_one, hx]
  simp only [Option.toList_some]
  rw [Bool.eq_iff_iff]
  simp [List.mem_append]
theorem not_take {l : List Nat} (hn : l.Nodup) {j x : Nat} (hx : l[j]? = some x) : (l.take j).contains x = false := by
  rw [Bool.eq_false_iff]
  intro h
  have h1 : x ∈ l.take j := by simpa using h
  obtain ⟨i, hi, e⟩ := List.mem_iff_getElem.1 h1
  rw [List.length_take] at hi
  rw [List.getElem_take] at e
  obtain ⟨hj, e2⟩ := List.getElem?_eq_some_iff.1 hx
  have := (List.pairwise_iff_getElem.1 hn) i j (by omega) hj (by omega)
  exact this (by rw [e, e2])
/-- One more is told. -/
theorem cnt_step {g : G} (hr : g.Right) (I : BitVec 256) {Q : List Nat} (hQ : Q.Nodup) {i j x q : Nat} (hq : Q[i]? = some q) (hx : (ahead g I q)[j]? = some x) (y : Nat) : cnt g I Q i (j + 1) y = if y = x then cnt g I Q i j x + 1 else cnt g I Q i j y := by
  have ht : ∀ m, told g I Q i (j + 1) y m = (told g I Q i j y m || (decide (m = q) && y == x)) := fun m => by
    unfold told
    by_cases e : m = q
    · subst e
      rw [decide_eq_true hq, take_contains hx]
      cases (Q.take i).contains m <;> cases ((ahead g I m).take j).contains y <;> simp
    · have e2 : ¬ Q[i]? = some m := fun h => by rw [hq] at h; injection h with h; exact e h.symm
      rw [decide_eq_false e2, decide_eq_false e]
      simp
  unfold cnt
  by_cases e : y = x
  · subst e
    rw [if_pos rfl]
    have hm := (mem_ahead g I q y).1 (List.mem_of_getElem? hx)
    have hin : (q : Int) ∈ into g I y := by
      unfold into
      rw [List.mem_filter, nat_has]
      exact ⟨hm.2.2.2, hm.1⟩
    have hp : told g I Q i j y (q : Int).toNat = false := by
      unfold told
      rw [Int.toNat_natCast, not_take hQ hq, not_take (ahead_nodup g I q) hx, Bool.and_false, Bool.or_false]
    rw [← filter_one (fun m => told g I Q i j y m.toNat) (q : Int) (into g I y) (into_nodup hr I y hm.2.1) hin hp]
    congr 1
    apply List.filter_congr
    intro m hmi
    obtain ⟨k, rfl, -, -, -⟩ := (mem_into hr I y hm.2.1 m).1 hmi
    rw [ht, Int.toNat_natCast, beq_self_eq_true, Bool.and_true]
    congr 1
    rw [Bool.eq_iff_iff, decide_eq_true_iff, beq_iff_eq]
    omega
  · rw [if_neg e]
    congr 1
    apply List.filter_congr
    intro m _
    rw [ht, show (y == x) = false by rw [beq_eq_false_iff_ne]; exact e, Bool.and_false, Bool.or_false]
/-- The next one of the queue. -/
theorem cnt_next {g : G} (hr : g.Right) (I : BitVec 256) {Q : List Nat} {i q : Nat} (hq : Q[i]? = some q) (y : Nat) (hy : y < g.owner.length) (hI : I.getLsbD y = true) : cnt g I Q (i + 1) 0 y = cnt g I Q i (ahead g I q).length y := by
  unfold cnt
  congr 1
  apply List.filter_congr
  intro m hm
  obtain ⟨k, rfl, -, h1, h2⟩ := (mem_into hr I y hy m).1 hm
  unfold told
  rw [Int.toNat_natCast, List.take_zero, List.contains_nil, Bool.and_false, Bool.or_false, List.take_add_one, hq]
  simp only [Option.toList_some]
  rw [Bool.eq_iff_iff]
  simp only [List.contains_eq_mem, List.mem_append, List.mem_singleton, decide_eq_true_eq, Bool.or_eq_true, Bool.and_eq_true, Option.some.injEq]
  constructor
  · rintro (h | h)
    · exact .inl h
    · subst h
      exact .inr ⟨rfl, by rw [List.take_length]; exact (mem_ahead g I k y).2 ⟨h2, hy, hI, h1⟩⟩
  · rintro (h | ⟨h, _⟩)
    · exact .inl h
    · exact .inr h.symm
/-- One more at the queue's end. -/
theorem cnt_push (g : G) (I : BitVec 256) (Q : List Nat) (i j z : Nat) (hi : i < Q.length) (y : Nat) : cnt g I (Q ++ [z]) i j y = cnt g I Q i j y := by
  unfold cnt
  congr 1
  apply List.filter_congr
  intro m _
  unfold told
  rw [List.take_append_of_le_length (by omega), List.getElem?_append_left hi]
end P
end Go.Proofs.YtghdjkpndhcplaaDoor
end
section
namespace Go.Proofs.YtghdjkpndhcplaaDoor
namespace P
/-- One move. -/
def note (I : BitVec 256) (x : Nat) (st : List (List Int) × List Int) (m : Int) : List (List Int) × List Int :=
  if has I m = true then (st.1.set m.toNat (st.1.getD m.toNat [] ++ [(x : Int)]), st.2.set x (st.2.getD x 0 + 1)) else st
/-- One position. -/
def notes (g : G) (I : BitVec 256) (st : List (List Int) × List Int) (x : Nat) : List (List Int) × List Int := (g.moves.getD x []).foldl (note I x) st
def counts (g : G) (I : BitVec 256) (l : List Nat) : List (List Int) × List Int := l.foldl (notes g I) (List.replicate g.owner.length [], List.replicate g.owner.length 0)
theorem note_len (I : BitVec 256) (x : Nat) (st : List (List Int) × List Int) (m : Int) : (note I x st m).1.length = st.1.length ∧ (note I x st m).2.length = st.2.length := by
  unfold note
  split <;> simp
theorem note_all (I : BitVec 256) (x : Nat) : ∀ (l : List Int) (st : List (List Int) × List Int), (l.foldl (note I x) st).1.length = st.1.length ∧ (l.foldl (note I x) st).2.length = st.2.length
  | [], _ => ⟨rfl, rfl⟩
  | m :: l, st => by
    have h := note_all I x l (note I x st m)
    have h2 := note_len I x st m
    exact ⟨h.1.trans h2.1, h.2.trans h2.2⟩
theorem notes_len (g : G) (I : BitVec 256) (st : List (List Int) × List Int) (x : Nat) : (notes g I st x).1.length = st.1.length ∧ (notes g I st x).2.length = st.2.length := note_all I x _ st
theorem getD_setA {α : Type} (l : List α) (i j : Nat) (a d : α) (hi : i < l.length) : (l.set i a).getD j d = if j = i then a else l.getD j d := by
  rw [List.getD_eq_getElem?_getD, List.getD_eq_getElem?_getD, List.getElem?_set]
  by_cases e : i = j
  · subst e
    rw [if_pos rfl, if_pos rfl, if_pos hi]
    rfl
  · rw [if_neg e, if_neg (fun h => e h.symm)]
theorem note_is (I : BitVec 256) (x : Nat) (n : Nat) (hx : x < n) : ∀ (l : List Int) (st : List (List Int) × List Int), l.Nodup → (∀ m ∈ l, 0 ≤ m ∧ m < n) → st.1.length = n → st.2.length = n →
    (∀ q : Nat, (l.foldl (note I x) st).1.getD q [] = st.1.getD q [] ++ (if (q : Int) ∈ l ∧ has I q = true then [(x : Int)] else [])) ∧ ∀ y, (l.foldl (note I x) st).2.getD y 0 = st.2.getD y 0 + (if y = x then ((l.filter (has I)).length : Int) else 0)
  | [], st, _, _, _, _ => by
    refine ⟨fun q => ?_, fun y => ?_⟩
    · simp
    · simp
  | m :: l, st, hn, hb, h1, h2 => by
    obtain ⟨hm, hn2⟩ := List.nodup_cons.1 hn
    have hb2 := hb m (by simp)
    have hl := note_len I x st m
    obtain ⟨ih1, ih2⟩ := note_is I x n hx l (note I x st m) hn2 (fun k hk => hb k (by simp [hk])) (by rw [hl.1, h1]) (by rw [hl.2, h2])
    rw [List.foldl_cons]
    by_cases e : has I m = true
    · have hnote : note I x st m = (st.1.set m.toNat (st.1.getD m.toNat [] ++ [(x : Int)]), st.2.set x (st.2.getD x 0 + 1)) := by unfold note; rw [if_pos e]
      refine ⟨fun q => ?_, fun y => ?_⟩
      · rw [ih1, hnote]
        show (st.1.set m.toNat _).getD q [] ++ _ = _
        rw [getD_setA _ _ _ _ _ (by omega)]
        by_cases eq : q = m.toNat
        · subst eq
          have hq : ((m.toNat : Nat) : Int) = m := Int.toNat_of_nonneg hb2.1
          rw [if_pos rfl, hq, if_neg (fun h => hm h.1), if_pos ⟨by simp, e⟩]
          simp
        · rw [if_neg eq]
          have hq : (q : Int) ≠ m := fun h => eq (by omega)
          simp [hq]
      · rw [ih2, hnote]
        show (st.2.set x _).getD y 0 + _ = _
        rw [getD_setA _ _ _ _ _ (by omega), List.filter_cons_of_pos e]
        by_cases ey : y = x
        · subst ey
          rw [if_pos rfl, if_pos rfl, if_pos rfl, List.length_cons]
          omega
        · rw [if_neg ey, if_neg ey, if_neg ey]
    · have hnote : note I x st m = st := by unfold note; rw [if_neg e]
      refine ⟨fun q => ?_, fun y => ?_⟩
      · rw [ih1, hnote]
        by_cases eq : (q : Int) = m
        · rw [eq, if_neg (fun h => hm h.1), if_neg (fun h => e h.2)]
        · simp [eq]
      · rw [ih2, hnote, List.filter_cons_of_neg e]
theorem notes_is {g : G} (hr : g.Right) (I : BitVec 256) : ∀ (l : List Nat) (st : List (List Int) × List Int), l.Nodup → (∀ x ∈ l, x < g.owner.length) → st.1.length = g.owner.length → st.2.length = g.owner.length →
    (∀ q : Nat, (l.foldl (notes g I) st).1.getD q [] = st.1.getD q [] ++ (l.filter (fun x => decide ((q : Int) ∈ g.moves.getD x []) && has I q)).map (fun (x : Nat) => (x : Int))) ∧ ∀ y, (l.foldl (notes g I) st).2.getD y 0 = st.2.getD y 0 + (if y ∈ l then ((into g I y).length : Int) else 0)
  | [], st, _, _, _, _ => by
    refine ⟨fun q => ?_, fun y => ?_⟩
    · simp
    · simp
  | x :: l, st, hn, hb, h1, h2 => by
    obtain ⟨hm, hn2⟩ := List.nodup_cons.1 hn
    have hx := hb x (by simp)
    have hl := notes_len g I st x
    obtain ⟨ih1, ih2⟩ := notes_is hr I l (notes g I st x) hn2 (fun k hk => hb k (by simp [hk])) (by rw [hl.1, h1]) (by rw [hl.2, h2])
    have hrise := (hr.at x hx).2.2.2.2
    obtain ⟨k1, k2⟩ := note_is I x g.owner.length hx (g.moves.getD x []) st (rise_nodup hrise) (fun m hm => by have := rise_bounds hrise m hm; omega) h1 h2
    rw [List.foldl_cons]
    refine ⟨fun q => ?_, fun y => ?_⟩
    · rw [ih1]
      show (List.foldl (note I x) st (g.moves.getD x [])).1.getD q [] ++ _ = _
      rw [k1]
      by_cases e : (q : Int) ∈ g.moves.getD x [] ∧ has I q = true
      · rw [if_pos e, List.filter_cons_of_pos (by rw [decide_eq_true e.1, e.2]; rfl)]
        simp
      · rw [if_neg e, List.filter_cons_of_neg (by rw [Bool.and_eq_true, decide_eq_true_eq]; exact e)]
        simp
    · rw [ih2]
      show (List.foldl (note I x) st (g.moves.getD x [])).2.getD y 0 + _ = _
      rw [k2]
      by_cases e : y = x
      · subst e
        rw [if_pos rfl, if_neg hm, if_pos (by simp)]
        unfold into
        omega
      · rw [if_neg e]
        simp [e]
theorem counts_is {g : G} (hr : g.Right) (I : BitVec 256) : (∀ q : Nat, (counts g I (pre2 I g.owner.length)).1.getD q [] = (ahead g I q).map (fun (x : Nat) => (x : Int))) ∧ ∀ y, y < g.owner.length → I.getLsbD y = true → (counts g I (pre2 I g.owner.length)).2.getD y 0 = ((into g I y).length : Int) := by
  have hn : (pre2 I g.owner.length).Nodup := List.Pairwise.filter _ List.nodup_range
  obtain ⟨h1, h2⟩ := notes_is hr I (pre2 I g.owner.length) (List.replicate g.owner.length [], List.replicate g.owner.length 0) hn (fun x hx => ((pre2_mem I g.owner.length x).1 hx).1) (by simp) (by simp)
  refine ⟨fun q => ?_, fun y hy hI => ?_⟩
  · unfold counts
    rw [h1]
    have e0 : (List.replicate g.owner.length ([] : List Int)).getD q [] = [] := by
      rw [List.getD_eq_getElem?_getD, List.getElem?_replicate]
      split <;> rfl
    rw [e0, List.nil_append]
    congr 1
    unfold ahead
    rw [nat_has]
    by_cases e : I.getLsbD q = true
    · rw [if_pos e, e]
      simp
    · rw [if_neg e, show I.getLsbD q = false by simpa using e]
      simp
  · unfold counts
    rw [h2]
    have e0 : (List.replicate g.owner.length (0 : Int)).getD y 0 = 0 := by
      rw [List.getD_eq_getElem?_getD, List.getElem?_replicate]
      split <;> rfl
    rw [e0, if_pos ((pre2_mem I g.owner.length y).2 ⟨hy, hI⟩)]
    omega
end P
end Go.Proofs.YtghdjkpndhcplaaDoor
namespace Go.Proofs.YtghdjkpndhcplaaDoor
namespace P
def none2 (n : Nat) : List (List Int) × List Int := (List.replicate n [], List.replicate n 0)
theorem counts_def (g : G) (I : BitVec 256) (l : List Nat) : counts g I l = l.foldl (notes g I) (none2 g.owner.length) := rfl
theorem notes_all (g : G) (I : BitVec 256) : ∀ (l : List Nat) (st : List (List Int) × List Int), (l.foldl (notes g I) st).1.length = st.1.length ∧ (l.foldl (notes g I) st).2.length = st.2.length
  | [], _ => ⟨rfl, rfl⟩
  | x :: l, st => by
    have h := notes_all g I l (notes g I st x)
    have h2 := notes_len g I st x
    exact ⟨h.1.trans h2.1, h.2.trans h2.2⟩
theorem counts_len (g : G) (I : BitVec 256) (l : List Nat) : (counts g I l).1.length = g.owner.length ∧ (counts g I l).2.length = g.owner.length := by
  have := notes_all g I l (none2 g.owner.length)
  rw [counts_def]
  exact ⟨this.1.trans (by simp [none2]), this.2.trans (by simp [none2])⟩
/-- Who has not been come to counts nothing yet. -/
theorem counts_low {g : G} (hr : g.Right) (I : BitVec 256) (k : Nat) (hk : k < (pre2 I g.owner.length).length) : (counts g I ((pre2 I g.owner.length).take k)).2.getD (pre2 I g.owner.length)[k] 0 = 0 := by
  have hn : (pre2 I g.owner.length).Nodup := List.Pairwise.filter _ List.nodup_range
  have hb : ∀ x ∈ (pre2 I g.owner.length).take k, x < g.owner.length := fun x hx => ((pre2_mem I g.owner.length x).1 (List.mem_of_mem_take hx)).1
  obtain ⟨-, h2⟩ := notes_is hr I ((pre2 I g.owner.length).take k) (none2 g.owner.length) (hn.sublist (List.take_sublist _ _)) hb (by simp [none2]) (by simp [none2])
  rw [counts_def, h2, if_neg]
  · unfold none2
    rw [List.getD_eq_getElem?_getD, List.getElem?_replicate]
    split <;> rfl
  · intro hm
    obtain ⟨i, hi, e⟩ := List.mem_iff_getElem.1 hm
    rw [List.length_take] at hi
    rw [List.getElem_take] at e
    exact (List.pairwise_iff_getElem.1 hn) i k (by omega) hk (by omega) e
/-- What the moves gone through of a position have counted. -/
theorem note_low {g : G} (hr : g.Right) (I : BitVec 256) (x : Nat) (hx : x < g.owner.length) (st : List (List Int) × List Int) (h1 : st.1.length = g.owner.length) (h2 : st.2.length = g.owner.length) (j : Nat) :
    (((g.moves.getD x []).take j).foldl (note I x) st).2.getD x 0 = st.2.getD x 0 + ((((g.moves.getD x []).take j).filter (has I)).length : Int) := by
  have hrise := (hr.at x hx).2.2.2.2
  obtain ⟨-, k2⟩ := note_is I x g.owner.length hx ((g.moves.getD x []).take j) st ((rise_nodup hrise).sublist (List.take_sublist _ _)) (fun m hm => by have := rise_bounds hrise m (List.mem_of_mem_take hm); omega) h1 h2
  rw [k2, if_pos rfl]
theorem note_snoc (I : BitVec 256) (x : Nat) (l : List Int) (m : Int) (st : List (List Int) × List Int) : (l ++ [m]).foldl (note I x) st = note I x (l.foldl (note I x) st) m := by rw [List.foldl_append]; rfl
theorem counts_snoc (g : G) (I : BitVec 256) (l : List Nat) (x : Nat) : counts g I (l ++ [x]) = (g.moves.getD x []).foldl (note I x) (counts g I l) := by
  rw [counts_def, counts_def, List.foldl_append]; rfl
theorem set_short (l : List (List Int)) (i q : Nat) (x : Int) : ((l.set i (l.getD i [] ++ [x])).getD q []).length ≤ (l.getD q []).length + 1 := by
  rw [List.getD_eq_getElem?_getD, List.getElem?_set]
  by_cases e : i = q
  · subst e
    rw [if_pos rfl]
    split
    · simp
    · simp
  · rw [if_neg e, ← List.getD_eq_getElem?_getD]
    omega
theorem note_short (I : BitVec 256) (x q : Nat) : ∀ (l : List Int) (st : List (List Int) × List Int), ((l.foldl (note I x) st).1.getD q []).length ≤ (st.1.getD q []).length + l.length
  | [], _ => Nat.le_refl _
  | m :: l, st => by
    have h := note_short I x q l (note I x st m)
    have h2 : ((note I x st m).1.getD q []).length ≤ (st.1.getD q []).length + 1 := by
      unfold note
      split
      · exact set_short st.1 m.toNat q x
      · omega
    rw [List.foldl_cons, List.length_cons]
    omega
theorem counts_short (g : G) (I : BitVec 256) (q : Nat) (hm : ∀ x, (g.moves.getD x []).length ≤ 200) : ∀ (l : List Nat) (st : List (List Int) × List Int), ((l.foldl (notes g I) st).1.getD q []).length ≤ (st.1.getD q []).length + 200 * l.length
  | [], _ => Nat.le_refl _
  | x :: l, st => by
    have h := counts_short g I q hm l (notes g I st x)
    have h2 : ((notes g I st x).1.getD q []).length ≤ (st.1.getD q []).length + 200 := by
      have h3 := note_short I x q (g.moves.getD x []) st
      have h4 := hm x
      unfold notes
      omega
    rw [List.foldl_cons, List.length_cons]
    omega
theorem moves_short {g : G} (hr : g.Right) (x : Nat) : (g.moves.getD x []).length ≤ 200 := by
  rcases Nat.lt_or_ge x g.owner.length with h | h
  · exact rise_len (hr.at x h).2.2.2.2 hr.many
  · rw [List.getD_eq_getElem?_getD, List.getElem?_eq_none (by rw [hr.moves]; exact h)]
    exact Nat.zero_le _
/-- No row grows long. -/
theorem rows_short {g : G} (hr : g.Right) (I : BitVec 256) (l : List Nat) (hl : l.length ≤ 200) (x q : Nat) (ms : List Int) (hms : ms.length ≤ 200) : ((ms.foldl (note I x) (counts g I l)).1.getD q []).length ≤ 40200 := by
  have h1 := note_short I x q ms (counts g I l)
  have h2 := counts_short g I q (moves_short hr) l (none2 g.owner.length)
  have h3 : ((none2 g.owner.length).1.getD q []).length = 0 := by
    unfold none2
    rw [List.getD_eq_getElem?_getD, List.getElem?_replicate]
    split <;> rfl
  rw [counts_def] at h1 ⊢
  omega
end P
end Go.Proofs.YtghdjkpndhcplaaDoor
end
section
namespace Go.Proofs.YtghdjkpndhcplaaDoor
namespace P
theorem told_mem {g : G} {I : BitVec 256} {Q : List Nat} {i j x q : Nat} (h : told g I Q i j x q = true) : q ∈ Q := by
  unfold told at h
  rw [Bool.or_eq_true, Bool.and_eq_true, decide_eq_true_eq] at h
  rcases h with h | h
  · exact List.mem_of_mem_take (List.contains_iff_mem.1 h)
  · exact List.mem_of_getElem? h.1
theorem told_at {g : G} {I : BitVec 256} {Q : List Nat} {i j x q : Nat} (h : told g I Q i j x q = true) : ∃ l, Q[l]? = some q ∧ l ≤ i := by
  unfold told at h
  rw [Bool.or_eq_true, Bool.and_eq_true, decide_eq_true_eq] at h
  rcases h with h | h
  · obtain ⟨l, hl, e⟩ := List.mem_iff_getElem.1 (List.contains_iff_mem.1 h)
    rw [List.length_take] at hl
    rw [List.getElem_take] at e
    exact ⟨l, List.getElem?_eq_some_iff.2 ⟨by omega, e⟩, by omega⟩
  · exact ⟨i, h.1, Nat.le_refl _⟩
theorem told_end (g : G) (I : BitVec 256) (Q : List Nat) (x q : Nat) : told g I Q Q.length 0 x q = true ↔ q ∈ Q := by
  refine ⟨told_mem, fun h => ?_⟩
  unfold told
  rw [List.take_length, List.contains_iff_mem.2 h, Bool.true_or]
theorem cnt_zero (g : G) (I : BitVec 256) (Q : List Nat) (x : Nat) : cnt g I Q 0 0 x = 0 := by
  unfold cnt
  rw [List.length_eq_zero_iff, List.filter_eq_nil_iff]
  intro m _
  unfold told
  simp
theorem cnt_le (g : G) (I : BitVec 256) (Q : List Nat) (i j x : Nat) : cnt g I Q i j x ≤ (into g I x).length := List.length_filter_le _ _
theorem cnt_full {g : G} (hr : g.Right) {I : BitVec 256} {Q : List Nat} {i j x : Nat} (hx : x < g.owner.length) : cnt g I Q i j x = (into g I x).length ↔ ∀ m : Nat, (m : Int) ∈ g.moves.getD x [] → I.getLsbD m = true → told g I Q i j x m = true := by
  unfold cnt
  rw [List.length_filter_eq_length_iff]
  constructor
  · intro h m h1 h2
    have h3 : (m : Int) ∈ into g I x := by
      unfold into
      rw [List.mem_filter, nat_has]
      exact ⟨h1, h2⟩
    have := h (m : Int) h3
    rwa [Int.toNat_natCast] at this
  · intro h m hm
    obtain ⟨k, rfl, -, h1, h2⟩ := (mem_into hr I x hx m).1 hm
    rw [Int.toNat_natCast]
    exact h k h1 h2
theorem cnt_some {g : G} {I : BitVec 256} {Q : List Nat} {i j x m : Nat} (h1 : (m : Int) ∈ g.moves.getD x []) (h2 : I.getLsbD m = true) (ht : told g I Q i j x m = true) : 0 < cnt g I Q i j x := by
  unfold cnt
  refine List.length_pos_of_mem (a := (m : Int)) (List.mem_filter.2 ⟨?_, by rw [Int.toNat_natCast]; exact ht⟩)
  unfold into
  rw [List.mem_filter, nat_has]
  exact ⟨h1, h2⟩
/-- Between the rounds: A the set, Q the queue, o how many moves are left untold, v the moves; i of the queue are done, and j of those ahead of the next one. -/
structure Round (g : G) (I : BitVec 256) (p : Int) (To A : BitVec 256) (Q : List Nat) (o v : Nat → Int) (i j : Nat) : Prop where
  nod : Q.Nodup
  bits : ∀ x, A.getLsbD x = true ↔ x ∈ Q
  sub : ∀ x, x ∈ Q → Att g I p To x
  base : ∀ x, x < g.owner.length → I.getLsbD x = true → To.getLsbD x = true → x ∈ Q
  outs : ∀ x, x < g.owner.length → I.getLsbD x = true → o x = ((into g I x).length : Int) - (cnt g I Q i j x : Int)
  mine : ∀ x, x < g.owner.length → I.getLsbD x = true → x ∉ Q → g.owner.getD x 0 = p → cnt g I Q i j x = 0
  his : ∀ x, x < g.owner.length → I.getLsbD x = true → x ∉ Q → g.owner.getD x 0 ≠ p → cnt g I Q i j x = 0 ∨ cnt g I Q i j x < (into g I x).length
  leads : ∀ (k x : Nat), Q[k]? = some x → To.getLsbD x = false → g.owner.getD x 0 = p → ∃ m l : Nat, v x = m ∧ Q[l]? = some m ∧ l < k ∧ (m : Int) ∈ g.moves.getD x []
  alls : ∀ (k x : Nat), Q[k]? = some x → To.getLsbD x = false → g.owner.getD x 0 ≠ p → ∀ m : Nat, (m : Int) ∈ g.moves.getD x [] → I.getLsbD m = true → ∃ l, Q[l]? = some m ∧ l < k
  nones : ∀ x, x ∉ Q ∨ To.getLsbD x = true ∨ g.owner.getD x 0 ≠ p → v x = -1
theorem Round.start {g : G} {I : BitVec 256} {p : Int} {To A : BitVec 256} {Q : List Nat} {o v : Nat → Int} (hn : Q.Nodup) (hA : ∀ x, A.getLsbD x = true ↔ x ∈ Q) (hQ : ∀ x, x ∈ Q ↔ x < g.owner.length ∧ I.getLsbD x = true ∧ To.getLsbD x = true)
    (ho : ∀ x, x < g.owner.length → I.getLsbD x = true → o x = ((into g I x).length : Int)) (hv : ∀ x, v x = -1) : Round g I p To A Q o v 0 0 where
  nod := hn
  bits := hA
  sub x hx := by obtain ⟨h1, h2, h3⟩ := (hQ x).1 hx; exact .base x h1 h2 h3
  base x h1 h2 h3 := (hQ x).2 ⟨h1, h2, h3⟩
  outs x h1 h2 := by rw [cnt_zero, ho x h1 h2]; omega
  mine x _ _ _ _ := cnt_zero g I Q x
  his x _ _ _ _ := .inl (cnt_zero g I Q x)
  leads k x hk ht _ := by
    have := ((hQ x).1 (List.mem_of_getElem? hk)).2.2
    rw [this] at ht; cases ht
  alls k x hk ht _ := by
    have := ((hQ x).1 (List.mem_of_getElem? hk)).2.2
    rw [this] at ht; cases ht
  nones x _ := hv x
section
variable {g : G} {I : BitVec 256} {p : Int} {To A : BitVec 256} {Q : List Nat} {o v : Nat → Int} {i j : Nat}
/-- Who was told is in the set already. -/
theorem Round.has (hr : g.Right) (h : Round g I p To A Q o v i j) {q x : Nat} (hq : Q[i]? = some q) (hx : (ahead g I q)[j]? = some x) {o' : Nat → Int} (ho : ∀ y, o' y = if y = x then o x - 1 else o y) (hA : A.getLsbD x = true) : Round g I p To A Q o' v i (j + 1) := by
  have hc := fun y => cnt_step hr I h.nod hq hx y
  have hxQ := (h.bits x).1 hA
  refine { h with outs := fun y h1 h2 => ?_, mine := fun y h1 h2 h3 h4 => ?_, his := fun y h1 h2 h3 h4 => ?_ }
  · rw [ho, hc]
    by_cases e : y = x
    · subst e; rw [if_pos rfl, if_pos rfl, h.outs y h1 h2]; omega
    · rw [if_neg e, if_neg e, h.outs y h1 h2]
  · rw [hc, if_neg (show y ≠ x from fun e => h3 (by rw [e]; exact hxQ))]; exact h.mine y h1 h2 h3 h4
  · rw [hc, if_neg (show y ≠ x from fun e => h3 (by rw [e]; exact hxQ))]; exact h.his y h1 h2 h3 h4
/-- The other one has a move left. -/
theorem Round.left (hr : g.Right) (h : Round g I p To A Q o v i j) {q x : Nat} (hq : Q[i]? = some q) (hx : (ahead g I q)[j]? = some x) {o' : Nat → Int} (ho : ∀ y, o' y = if y = x then o x - 1 else o y) (hp : g.owner.getD x 0 ≠ p) (hl : 0 < o' x) : Round g I p To A Q o' v i (j + 1) := by
  have hc := fun y => cnt_step hr I h.nod hq hx y
  have hm := (mem_ahead g I q x).1 (List.mem_of_getElem? hx)
  refine { h with outs := fun y h1 h2 => ?_, mine := fun y h1 h2 h3 h4 => ?_, his := fun y h1 h2 h3 h4 => ?_ }
  · rw [ho, hc]
    by_cases e : y = x
    · subst e; rw [if_pos rfl, if_pos rfl, h.outs y h1 h2]; omega
    · rw [if_neg e, if_neg e, h.outs y h1 h2]
  · rw [hc, if_neg (show y ≠ x from fun e => hp (by rw [← e]; exact h4))]; exact h.mine y h1 h2 h3 h4
  · rw [hc]
    by_cases e : y = x
    · subst e
      rw [if_pos rfl]
      rw [ho, if_pos rfl, h.outs y h1 h2] at hl
      exact .inr (by omega)
    · rw [if_neg e]; exact h.his y h1 h2 h3 h4
/-- Who comes in. -/
theorem Round.comes (hr : g.Right) (h : Round g I p To A Q o v i j) {q x : Nat} (hq : Q[i]? = some q) (hx : (ahead g I q)[j]? = some x) {o' v' : Nat → Int} (ho : ∀ y, o' y = if y = x then o x - 1 else o y) (hA : A.getLsbD x = false) (hin : g.owner.getD x 0 = p ∨ o' x ≤ 0)
    (hv : ∀ y, v' y = if y = x ∧ g.owner.getD x 0 = p then (q : Int) else v y) {A' : BitVec 256} (hA' : ∀ y, A'.getLsbD y = (A.getLsbD y || y == x)) : Round g I p To A' (Q ++ [x]) o' v' i (j + 1) := by
  have hi : i < Q.length := (List.getElem?_eq_some_iff.1 hq).1
  have hc : ∀ y, cnt g I (Q ++ [x]) i (j + 1) y = if y = x then cnt g I Q i j x + 1 else cnt g I Q i j y := fun y => by rw [cnt_push g I Q i (j + 1) x hi]; exact cnt_step hr I h.nod hq hx y
  have hm := (mem_ahead g I q x).1 (List.mem_of_getElem? hx)
  have hxQ : x ∉ Q := fun e => by rw [(h.bits x).2 e] at hA; cases hA
  have hout : ∀ y, y ∉ Q ++ [x] → y ∉ Q ∧ y ≠ x := fun y hy => ⟨fun e => hy (List.mem_append.2 (.inl e)), fun e => hy (List.mem_append.2 (.inr (by rw [e]; simp)))⟩
  have hTx : To.getLsbD x = false := by
    cases e : To.getLsbD x
    · rfl
    · exact absurd (h.base x hm.2.1 hm.2.2.1 e) hxQ
  have hq2 := List.mem_of_getElem? hq
  constructor
  · exact List.nodup_append.2 ⟨h.nod, by simp, fun a ha b hb => by rw [List.mem_singleton.1 hb]; exact fun e => hxQ (e ▸ ha)⟩
  · intro y
    rw [hA', Bool.or_eq_true, h.bits, beq_iff_eq, List.mem_append, List.mem_singleton]
  · intro y hy
    rcases List.mem_append.1 hy with hy | hy
    · exact h.sub y hy
    · rw [List.mem_singleton.1 hy]
      by_cases e : g.owner.getD x 0 = p
      · exact .own x q hm.2.1 hm.2.2.1 e hm.2.2.2 hm.1 (h.sub q hq2)
      · have hz : o' x ≤ 0 := hin.resolve_left e
        rw [ho, if_pos rfl, h.outs x hm.2.1 hm.2.2.1] at hz
        have hle := cnt_le g I (Q ++ [x]) i (j + 1) x
        have hcx := hc x
        rw [if_pos rfl] at hcx
        have hcq := cnt_step hr I h.nod hq hx x
        rw [if_pos rfl] at hcq
        have hf := (cnt_full hr (Q := Q) (i := i) (j := j + 1) hm.2.1 (I := I)).1 (by omega)
        exact .oth x hm.2.1 hm.2.2.1 e ⟨q, hm.2.2.2, hm.1⟩ fun m h1 h2 => h.sub m (told_mem (hf m h1 h2))
  · intro y h1 h2 h3
    exact List.mem_append.2 (.inl (h.base y h1 h2 h3))
  · intro y h1 h2
    rw [ho, hc]
    by_cases e : y = x
    · subst e; rw [if_pos rfl, if_pos rfl, h.outs y h1 h2]; omega
    · rw [if_neg e, if_neg e, h.outs y h1 h2]
  · intro y h1 h2 h3 h4
    rw [hc, if_neg (hout y h3).2]
    exact h.mine y h1 h2 (hout y h3).1 h4
  · intro y h1 h2 h3 h4
    rw [hc, if_neg (hout y h3).2]
    exact h.his y h1 h2 (hout y h3).1 h4
  · intro k y hk ht hy
    rcases Nat.lt_or_ge k Q.length with hl | hl
    · rw [List.getElem?_append_left hl] at hk
      obtain ⟨m, l, h1, h2, h3, h4⟩ := h.leads k y hk ht hy
      have hyx : y ≠ x := fun e => hxQ (e ▸ List.mem_of_getElem? hk)
      refine ⟨m, l, by rw [hv, if_neg (fun e => hyx e.1)]; exact h1, ?_, h3, h4⟩
      rw [List.getElem?_append_left (by omega)]
      exact h2
    · rw [List.getElem?_append_right hl] at hk
      have hk0 : k - Q.length = 0 := by
        have := (List.getElem?_eq_some_iff.1 hk).1
        simpa using this
      rw [hk0] at hk
      have hyx : x = y := by simpa using hk
      subst hyx
      refine ⟨q, i, by rw [hv, if_pos ⟨rfl, hy⟩], ?_, by omega, hm.2.2.2⟩
      rw [List.getElem?_append_left hi]
      exact hq
  · intro k y hk ht hy m h1 h2
    rcases Nat.lt_or_ge k Q.length with hl | hl
    · rw [List.getElem?_append_left hl] at hk
      obtain ⟨l, h3, h4⟩ := h.alls k y hk ht hy m h1 h2
      exact ⟨l, by rw [List.getElem?_append_left (by omega)]; exact h3, h4⟩
    · rw [List.getElem?_append_right hl] at hk
      have hk0 : k - Q.length = 0 := by
        have := (List.getElem?_eq_some_iff.1 hk).1
        simpa using this
      rw [hk0] at hk
      have hyx : x = y := by simpa using hk
      subst hyx
      have hz : o' x ≤ 0 := hin.resolve_left hy
      rw [ho, if_pos rfl, h.outs x hm.2.1 hm.2.2.1] at hz
      have hcq := cnt_step hr I h.nod hq hx x
      rw [if_pos rfl] at hcq
      have hle := cnt_le g I Q i (j + 1) x
      have hf := (cnt_full hr (Q := Q) (i := i) (j := j + 1) hm.2.1 (I := I)).1 (by omega) m h1 h2
      obtain ⟨l, h3, h4⟩ := told_at hf
      exact ⟨l, by rw [List.getElem?_append_left (by omega)]; exact h3, by omega⟩
  · intro y hy
    rw [hv]
    by_cases e : y = x ∧ g.owner.getD x 0 = p
    · obtain ⟨e1, e2⟩ := e
      subst e1
      rcases hy with hy | hy | hy
      · exact absurd rfl (hout y hy).2
      · rw [hTx] at hy; cases hy
      · exact absurd e2 hy
    · rw [if_neg e]
      refine h.nones y ?_
      rcases hy with hy | hy | hy
      · exact .inl (hout y hy).1
      · exact .inr (.inl hy)
      · exact .inr (.inr hy)
/-- The next one of the queue. -/
theorem Round.next (hr : g.Right) {q : Nat} (hq : Q[i]? = some q) (h : Round g I p To A Q o v i (ahead g I q).length) : Round g I p To A Q o v (i + 1) 0 := by
  have hc := fun y h1 h2 => cnt_next hr I hq y h1 h2
  exact { h with
    outs := fun y h1 h2 => by rw [hc y h1 h2]; exact h.outs y h1 h2
    mine := fun y h1 h2 h3 h4 => by rw [hc y h1 h2]; exact h.mine y h1 h2 h3 h4
    his := fun y h1 h2 h3 h4 => by rw [hc y h1 h2]; exact h.his y h1 h2 h3 h4 }
/-- At the end the set is the one. -/
theorem Round.done (hr : g.Right) (h : Round g I p To A Q o v Q.length 0) (x : Nat) : A.getLsbD x = true ↔ Att g I p To x := by
  rw [h.bits]
  refine att_iff (fun x => x ∈ Q) h.sub h.base ?_ ?_ x
  · intro y m h1 h2 h3 h4 h5 h6
    by_cases e : y ∈ Q
    · exact e
    · have := cnt_some h4 h5 ((told_end g I Q y m).2 h6)
      have := h.mine y h1 h2 e h3
      omega
  · intro y h1 h2 h3 h4 h5
    by_cases e : y ∈ Q
    · exact e
    · have hf := (cnt_full hr (Q := Q) (i := Q.length) (j := 0) h1 (I := I)).2 fun m h6 h7 => (told_end g I Q y m).2 (h5 m h6 h7)
      obtain ⟨m, h6, h7⟩ := h4
      have h8 := cnt_some h6 h7 ((told_end g I Q y m).2 (h5 m h6 h7))
      rcases h.his y h1 h2 e h3 with h9 | h9 <;> omega
end
end P
end Go.Proofs.YtghdjkpndhcplaaDoor
end
section
namespace Go.Proofs.YtghdjkpndhcplaaDoor
namespace P
open Classical in
/-- The positions from where the player can force its way. -/
noncomputable def attSet (g : G) (I : BitVec 256) (p : Int) (To : BitVec 256) : BitVec 256 := ofL (((List.range g.owner.length).filter (fun x => decide (Att g I p To x))).map fun (x : Nat) => (x : Int))
theorem attSet_bit {g : G} (hr : g.Right) {I To : BitVec 256} {p : Int} (x : Nat) : (attSet g I p To).getLsbD x = true ↔ Att g I p To x := by
  have hm := hr.many
  rcases Nat.lt_or_ge x 256 with hx | hx
  · unfold attSet
    rw [getLsbD_ofL _ _ hx, decide_eq_true_eq, List.mem_map]
    constructor
    · rintro ⟨y, hy, e⟩
      obtain rfl : y = x := by omega
      simpa using (List.mem_filter.1 hy).2
    · intro h
      exact ⟨x, List.mem_filter.2 ⟨List.mem_range.2 h.bound.1, by simpa using h⟩, rfl⟩
  · rw [BitVec.getLsbD_of_ge _ _ hx]
    constructor
    · intro h; cases h
    · intro h; have := h.bound.1; omega
/-- What Attract answers. -/
noncomputable def attOf (g : G) (I : BitVec 256) (p : Int) (To : BitVec 256) : BitVec 256 := if g.ok = true ∧ (p = 0 ∨ p = 1) then attSet g I p To else 0#256
theorem attOf_ok {g : G} (hr : g.Right) {p : Int} (hp : p = 0 ∨ p = 1) (I To : BitVec 256) : attOf g I p To = attSet g I p To := by
  unfold attOf
  rw [if_pos ⟨(G.ok_iff g).2 hr, hp⟩]
theorem set_ext {s t : BitVec 256} (h : ∀ x, x < 256 → (s.getLsbD x = true ↔ t.getLsbD x = true)) : s = t := by
  apply BitVec.eq_of_getLsbD_eq
  intro i hi
  rw [Bool.eq_iff_iff]
  exact h i hi
theorem set_in {s t : BitVec 256} (h : ∀ x, s.getLsbD x = true → t.getLsbD x = true) : s ||| t = t := by
  refine set_ext fun x _ => ?_
  rw [BitVec.getLsbD_or, Bool.or_eq_true]
  exact ⟨fun h1 => h1.elim (h x) id, fun h1 => .inr h1⟩
theorem att_full {g : G} (hr : g.Right) {I To : BitVec 256} {p : Int} (x : Nat) : Att g (I &&& full g.owner.length) p To x ↔ Att g I p To x := by
  have hf : ∀ y, y < g.owner.length → (I &&& full g.owner.length).getLsbD y = I.getLsbD y := fun y hy => by
    have hm := hr.many
    rw [BitVec.getLsbD_and, getLsbD_full, decide_eq_true (by omega), Bool.and_true]
  have hb : ∀ (y m : Nat), y < g.owner.length → (m : Int) ∈ g.moves.getD y [] → m < g.owner.length := fun y m hy h => by
    have := (rise_bounds (hr.at y hy).2.2.2.2 m h).2
    omega
  constructor
  · intro h
    induction h with
    | base i h1 h2 h3 => exact .base i h1 (by rw [← hf i h1]; exact h2) h3
    | own i m h1 h2 h3 h4 h5 _ ih => exact .own i m h1 (by rw [← hf i h1]; exact h2) h3 h4 (by rw [← hf m (hb i m h1 h4)]; exact h5) ih
    | oth i h1 h2 h3 h4 _ ih =>
      obtain ⟨m, h5, h6⟩ := h4
      exact .oth i h1 (by rw [← hf i h1]; exact h2) h3 ⟨m, h5, by rw [← hf m (hb i m h1 h5)]; exact h6⟩ fun k h7 h8 => ih k h7 (by rw [hf k (hb i k h1 h7)]; exact h8)
  · intro h
    induction h with
    | base i h1 h2 h3 => exact .base i h1 (by rw [hf i h1]; exact h2) h3
    | own i m h1 h2 h3 h4 h5 _ ih => exact .own i m h1 (by rw [hf i h1]; exact h2) h3 h4 (by rw [hf m (hb i m h1 h4)]; exact h5) ih
    | oth i h1 h2 h3 h4 _ ih =>
      obtain ⟨m, h5, h6⟩ := h4
      exact .oth i h1 (by rw [hf i h1]; exact h2) h3 ⟨m, h5, by rw [hf m (hb i m h1 h5)]; exact h6⟩ fun k h7 h8 => ih k h7 (by rw [← hf k (hb i k h1 h7)]; exact h8)
theorem attOf_full (g : G) (I To : BitVec 256) (p : Int) : attOf g (I &&& full g.owner.length) p To = attOf g I p To := by
  unfold attOf
  by_cases h : g.ok = true ∧ (p = 0 ∨ p = 1)
  · have hr := (G.ok_iff g).1 h.1
    rw [if_pos h, if_pos h]
    exact set_ext fun x _ => by rw [attSet_bit hr, attSet_bit hr, att_full hr]
  · rw [if_neg h, if_neg h]
theorem attOf_again (g : G) (I To : BitVec 256) (p : Int) : attOf g I p (attOf g I p To) = attOf g I p To := by
  by_cases h : g.ok = true ∧ (p = 0 ∨ p = 1)
  · have hr := (G.ok_iff g).1 h.1
    rw [attOf_ok hr h.2, attOf_ok hr h.2]
    refine set_ext fun x _ => ?_
    rw [attSet_bit hr, attSet_bit hr]
    exact att_again (fun i _ => attSet_bit hr i) x
  · unfold attOf
    rw [if_neg h, if_neg h]
theorem attOf_more (g : G) (I To More : BitVec 256) (p : Int) : attOf g I p To ||| attOf g I p (To ||| More) = attOf g I p (To ||| More) := by
  by_cases h : g.ok = true ∧ (p = 0 ∨ p = 1)
  · have hr := (G.ok_iff g).1 h.1
    rw [attOf_ok hr h.2, attOf_ok hr h.2]
    refine set_in fun x hx => ?_
    rw [attSet_bit hr] at hx ⊢
    exact hx.mono fun i hi => by rw [BitVec.getLsbD_or, hi, Bool.true_or]
  · unfold attOf
    rw [if_neg h, if_neg h]
    rfl
theorem attOf_none (g : G) (I : BitVec 256) (p : Int) : attOf g I p 0#256 = 0#256 := by
  by_cases h : g.ok = true ∧ (p = 0 ∨ p = 1)
  · have hr := (G.ok_iff g).1 h.1
    rw [attOf_ok hr h.2]
    refine set_ext fun x _ => ?_
    rw [attSet_bit hr, BitVec.getLsbD_zero]
    exact ⟨fun h1 => absurd h1 (att_none x), fun h1 => by cases h1⟩
  · unfold attOf
    rw [if_neg h]
theorem attOf_nowhere (g : G) (To : BitVec 256) (p : Int) : attOf g 0#256 p To = 0#256 := by
  by_cases h : g.ok = true ∧ (p = 0 ∨ p = 1)
  · have hr := (G.ok_iff g).1 h.1
    rw [attOf_ok hr h.2]
    refine set_ext fun x _ => ?_
    rw [attSet_bit hr, BitVec.getLsbD_zero]
    exact ⟨fun h1 => by have := h1.bound.2; rw [BitVec.getLsbD_zero] at this; exact this, fun h1 => by cases h1⟩
  · unfold attOf
    rw [if_neg h]
/-- In the game's dual the other player attracts the same. -/
theorem attOf_turned {g d : G} {n : Nat} {y : Int} (hr : g.Right) (hn : n = g.owner.length) (hd : Turn g d n y) (I To : BitVec 256) {p : Int} (hp : p = 0 ∨ p = 1) : attOf d I (1 - p) To = attOf g I p To := by
  subst hn
  rw [attOf_ok hr hp, attOf_ok hd.right (by omega)]
  refine set_ext fun x _ => ?_
  rw [attSet_bit hr, attSet_bit hd.right]
  exact (att_dual hd.ol hd.ow hd.mo x).symm
/-- Who owns more attracts no less. -/
theorem attOf_owners {g d : G} (hr : g.Right) (hd : d.Right) {p : Int} (hp : p = 0 ∨ p = 1) (hl : d.owner.length = g.owner.length) (ho : ∀ i, i < g.owner.length → g.owner.getD i 0 = p → d.owner.getD i 0 = p) (hm : ∀ i, d.moves.getD i [] = g.moves.getD i []) (I To : BitVec 256) : attOf g I p To ||| attOf d I p To = attOf d I p To := by
  rw [attOf_ok hr hp, attOf_ok hd hp]
  refine set_in fun x hx => ?_
  rw [attSet_bit hr] at hx
  rw [attSet_bit hd]
  exact att_owners hl ho hm hx
/-- The set lies within. -/
theorem attOf_within (g : G) (I To : BitVec 256) (p : Int) : attOf g I p To ||| I = I := by
  by_cases h : g.ok = true ∧ (p = 0 ∨ p = 1)
  · have hr := (G.ok_iff g).1 h.1
    rw [attOf_ok hr h.2]
    refine set_in fun x hx => ?_
    rw [attSet_bit hr] at hx
    exact hx.bound.2
  · unfold attOf
    rw [if_neg h]
    simp
/-- What of to lies within is in it. -/
theorem attOf_holds {g : G} (hr : g.Right) {p : Int} (hp : p = 0 ∨ p = 1) (I To : BitVec 256) : (To &&& (I &&& full g.owner.length)) ||| attOf g I p To = attOf g I p To := by
  rw [attOf_ok hr hp]
  refine set_in fun x hx => ?_
  rw [attSet_bit hr]
  simp only [BitVec.getLsbD_and, Bool.and_eq_true, getLsbD_full, decide_eq_true_eq] at hx
  exact .base x (by omega) hx.2.1 hx.1
/-- From what is left the player can't come in: a position of its own. -/
theorem attOf_mine {g : G} (hr : g.Right) {p : Int} (hp : p = 0 ∨ p = 1) {I To : BitVec 256} {i : Nat} (hi : i < g.owner.length) (h1 : I.getLsbD i = true) (h2 : (attOf g I p To).getLsbD i = false) (ho : g.owner.getD i 0 = p) : ofL (g.moves.getD i []) &&& I &&& attOf g I p To = 0#256 := by
  rw [attOf_ok hr hp] at h2 ⊢
  refine set_ext fun x hx => ?_
  rw [BitVec.getLsbD_zero]
  simp only [BitVec.getLsbD_and, Bool.and_eq_true, getLsbD_ofL _ _ hx, decide_eq_true_eq]
  refine ⟨fun ⟨⟨h3, h4⟩, h5⟩ => ?_, fun h => by cases h⟩
  have := (attSet_bit hr i).2 (.own i x hi h1 ho h3 h4 ((attSet_bit hr x).1 h5))
  rw [this] at h2
  exact h2.symm
/-- And a position of the other's. -/
theorem attOf_his {g : G} (hr : g.Right) {p : Int} (hp : p = 0 ∨ p = 1) {I To : BitVec 256} {i : Nat} (hi : i < g.owner.length) (h1 : I.getLsbD i = true) (h2 : (attOf g I p To).getLsbD i = false) (ho : g.owner.getD i 0 ≠ p) (hl : ofL (g.moves.getD i []) &&& I ≠ 0#256) : ofL (g.moves.getD i []) &&& I &&& (I &&& ~~~ attOf g I p To) ≠ 0#256 := by
  rw [attOf_ok hr hp] at h2 ⊢
  intro hz
  have hbit : ∀ x : Nat, x < 256 → ¬ ((x : Int) ∈ g.moves.getD i [] ∧ I.getLsbD x = true ∧ (attSet g I p To).getLsbD x = false) := fun x hx ⟨h3, h4, h5⟩ => by
    have := congrArg (fun s => s.getLsbD x) hz
    simp only [BitVec.getLsbD_and, BitVec.getLsbD_not, BitVec.getLsbD_zero, getLsbD_ofL _ _ hx, h4, h5, decide_eq_true h3, decide_eq_true hx] at this
    cases this
  have lt : ∀ x, I.getLsbD x = true → x < 256 := fun x h => by
    rcases Nat.lt_or_ge x 256 with h3 | h3
    · exact h3
    · rw [BitVec.getLsbD_of_ge _ _ h3] at h; cases h
  have hex : ∃ m : Nat, (m : Int) ∈ g.moves.getD i [] ∧ I.getLsbD m = true := by
    by_cases e : ∃ m : Nat, (m : Int) ∈ g.moves.getD i [] ∧ I.getLsbD m = true
    · exact e
    · refine absurd (set_ext fun x hx => ?_) hl
      rw [BitVec.getLsbD_zero]
      simp only [BitVec.getLsbD_and, Bool.and_eq_true, getLsbD_ofL _ _ hx, decide_eq_true_eq]
      exact ⟨fun h3 => absurd ⟨x, h3⟩ e, fun h3 => by cases h3⟩
  have := (attSet_bit hr i).2 (.oth i hi h1 ho hex fun m h3 h4 => by
    cases e : (attSet g I p To).getLsbD m
    · exact absurd ⟨h3, h4, e⟩ (hbit m (lt m h4))
    · exact (attSet_bit hr m).1 e)
  rw [this] at h2
  cases h2
end P
end Go.Proofs.YtghdjkpndhcplaaDoor
end
section
namespace Go.Proofs.YtghdjkpndhcplaaDoor
namespace P
def rowOf (n : Nat) (f : Nat → Int) : List Int := (List.range n).map f
theorem rowOf_len (n : Nat) (f : Nat → Int) : (rowOf n f).length = n := by unfold rowOf; simp
theorem rowOf_at {n : Nat} (f : Nat → Int) {j : Nat} (h : j < n) : (rowOf n f)[j]? = some (f j) := by unfold rowOf; simp [h]
theorem rowOf_set {n : Nat} (f : Nat → Int) (j : Nat) (z : Int) : (rowOf n f).set j z = rowOf n (fun y => if y = j then z else f y) := by
  apply List.ext_getElem?
  intro i
  rw [List.getElem?_set]
  unfold rowOf
  simp only [List.getElem?_map, List.length_map, List.length_range]
  by_cases e : j = i
  · subst e
    rw [if_pos rfl]
    by_cases h : j < n
    · rw [if_pos h, List.getElem?_range h]
      simp
    · rw [if_neg h, List.getElem?_eq_none (by simpa using h)]
      rfl
  · rw [if_neg e]
    by_cases h : i < n
    · rw [List.getElem?_range h]
      simp [Ne.symm e]
    · rw [List.getElem?_eq_none (by simpa using h)]
      rfl
theorem rowOf_list (l : List Int) : rowOf l.length (fun y => l.getD y 0) = l := map_getD l 0
theorem rowOf_congr {n : Nat} {f h : Nat → Int} (e : ∀ y, y < n → f y = h y) : rowOf n f = rowOf n h := by
  unfold rowOf
  apply List.map_congr_left
  intro y hy
  exact e y (List.mem_range.1 hy)
/-- No more than n numbers lie below n. -/
theorem nodup_short : ∀ (n : Nat) (l : List Nat), l.Nodup → (∀ x ∈ l, x < n) → l.length ≤ n
  | 0, l, _, h => by
    cases l with
    | nil => exact Nat.le_refl _
    | cons a l => exact absurd (h a (by simp)) (Nat.not_lt_zero a)
  | n + 1, l, hn, h => by
    have h1 := nodup_short n (l.filter (fun x => x != n)) (List.Pairwise.filter _ hn) (fun x hx => by
      obtain ⟨h2, h3⟩ := List.mem_filter.1 hx
      have := h x h2
      have : x ≠ n := by simpa using h3
      omega)
    have h2 : l.length ≤ (l.filter (fun x => x != n)).length + 1 := by
      clear h1 h
      induction l with
      | nil => simp
      | cons a l ih =>
        obtain ⟨h3, h4⟩ := List.nodup_cons.1 hn
        by_cases e : a = n
        · subst e
          have : l.filter (fun x => x != a) = l := by
            rw [List.filter_eq_self]
            intro x hx
            have : x ≠ a := fun e => h3 (e ▸ hx)
            simpa using this
          rw [List.filter_cons_of_neg (by simp), this]
          simp
        · rw [List.filter_cons_of_pos (by simpa using e)]
          have := ih h4
          simp only [List.length_cons]
          omega
    omega
/-- The moves that Attract tells. -/
def Played (g : G) (I : BitVec 256) (p : Int) (To : BitVec 256) (m : List Int) : Prop := ∃ A Q o v, Round g I p To A Q o v Q.length 0 ∧ m = rowOf g.owner.length v
theorem Round.short {g : G} {I : BitVec 256} {p : Int} {To A : BitVec 256} {Q : List Nat} {o v : Nat → Int} {i j : Nat} (h : Round g I p To A Q o v i j) : Q.length ≤ g.owner.length := nodup_short _ Q h.nod fun x hx => (h.sub x hx).bound.1
theorem Round.set_is {g : G} (hr : g.Right) {I : BitVec 256} {p : Int} (hp : p = 0 ∨ p = 1) {To A : BitVec 256} {Q : List Nat} {o v : Nat → Int} (h : Round g (I &&& full g.owner.length) p To A Q o v Q.length 0) : A = attOf g I p To := by
  rw [← attOf_full, attOf_ok hr hp]
  refine set_ext fun x _ => ?_
  rw [attSet_bit hr]
  exact h.done hr x
theorem mem_lst (s : BitVec 256) (x : Nat) : x ∈ lst s ↔ s.getLsbD x = true := by
  unfold lst
  rw [List.mem_filter, List.mem_range]
  refine ⟨fun h => h.2, fun h => ⟨?_, h⟩⟩
  rcases Nat.lt_or_ge x 256 with h1 | h1
  · exact h1
  · rw [BitVec.getLsbD_of_ge s x h1] at h; cases h
theorem Round.begin {g : G} (hr : g.Right) (I : BitVec 256) (p : Int) (To : BitVec 256) : Round g (I &&& full g.owner.length) p To (To &&& (I &&& full g.owner.length)) (lst (To &&& (I &&& full g.owner.length)))
    (fun y => (counts g (I &&& full g.owner.length) (pre2 (I &&& full g.owner.length) g.owner.length)).2.getD y 0) (fun _ => -1) 0 0 := by
  refine Round.start ?_ (fun x => (mem_lst _ x).symm) (fun x => ?_) (fun x h1 h2 => (counts_is hr _).2 x h1 h2) (fun _ => rfl)
  · unfold lst
    exact List.Pairwise.filter _ List.nodup_range
  · rw [mem_lst]
    simp only [BitVec.getLsbD_and, Bool.and_eq_true, getLsbD_full, decide_eq_true_eq]
    constructor
    · rintro ⟨h1, h2, h3⟩
      exact ⟨by omega, ⟨h2, h3⟩, h1⟩
    · rintro ⟨h1, h2, h3⟩
      exact ⟨h3, h2⟩
theorem lst_full (g : G) (hm : g.owner.length ≤ 200) (I : BitVec 256) : lst (I &&& full g.owner.length) = pre2 (I &&& full g.owner.length) g.owner.length := by
  have h := old_pre2 g (I &&& full g.owner.length) (by omega)
  unfold G.old at h
  rw [BitVec.and_assoc, BitVec.and_self] at h
  exact h
theorem bit_or (A : BitVec 256) (x y : Nat) (hx : x < 256) : (A ||| bit (x : Int)).getLsbD y = (A.getLsbD y || y == x) := by
  rcases Nat.lt_or_ge y 256 with hy | hy
  · have h1 : (ofL [(x : Int)]).getLsbD y = decide ((y : Int) ∈ [(x : Int)]) := getLsbD_ofL _ _ hy
    have h2 : ofL [(x : Int)] = bit (x : Int) := by
      have := ofL_snoc [] (x : Int)
      rw [List.nil_append, ofL_nil] at this
      rw [this]
      simp
    rw [h2] at h1
    rw [BitVec.getLsbD_or, h1]
    congr 1
    rw [Bool.eq_iff_iff, decide_eq_true_eq, beq_iff_eq, List.mem_singleton]
    omega
  · rw [BitVec.getLsbD_of_ge _ _ hy, BitVec.getLsbD_of_ge _ _ hy]
    symm
    simp
    omega
end P
end Go.Proofs.YtghdjkpndhcplaaDoor
end
