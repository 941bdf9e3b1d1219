/- Who moves alone: sweeps that only bring in, or only take out, end with what Attract answers. Plain facts, no program. -/
import Derived.Test.YtpfponiidppldaaDoorAttS
import Derived.Test.YtpfponiidppldaaDoorRSubP
namespace Go.Proofs.YtpfponiidppldaaDoor
namespace P
def iter (f : BitVec 256 → BitVec 256) : Nat → BitVec 256 → BitVec 256
  | 0, s => s
  | k + 1, s => f (iter f k s)
/-- How many of the first n numbers are in. -/
def amount (n : Nat) (s : BitVec 256) : Nat := ((List.range n).filter (fun x => s.getLsbD x)).length
theorem amount_le (n : Nat) (s : BitVec 256) : amount n s ≤ n := by
  unfold amount
  have := List.length_filter_le (fun x => s.getLsbD x) (List.range n)
  rwa [List.length_range] at this
theorem filter_lt (p q : Nat → Bool) : ∀ (l : List Nat), (∀ x ∈ l, p x = true → q x = true) → (l.filter p).length ≤ (l.filter q).length ∧ ((l.filter p).length = (l.filter q).length → ∀ x ∈ l, q x = true → p x = true)
  | [], _ => ⟨Nat.le_refl _, fun _ x h => by simp at h⟩
  | y :: l, h => by
    obtain ⟨h1, h2⟩ := filter_lt p q l fun x hx => h x (by simp [hx])
    by_cases e : p y = true
    · have e2 := h y (by simp) e
      rw [List.filter_cons_of_pos e, List.filter_cons_of_pos e2, List.length_cons, List.length_cons]
      refine ⟨by omega, fun h3 x hx hq => ?_⟩
      rcases List.mem_cons.1 hx with h4 | h4
      · rw [h4]; exact e
      · exact h2 (by omega) x h4 hq
    · by_cases e2 : q y = true
      · rw [List.filter_cons_of_neg e, List.filter_cons_of_pos e2, List.length_cons]
        exact ⟨by omega, fun h3 => by omega⟩
      · rw [List.filter_cons_of_neg e, List.filter_cons_of_neg e2]
        refine ⟨h1, fun h3 x hx hq => ?_⟩
        rcases List.mem_cons.1 hx with h4 | h4
        · rw [h4] at hq; exact absurd hq e2
        · exact h2 h3 x h4 hq
theorem amount_more {n : Nat} {s t : BitVec 256} (hst : ∀ x, s.getLsbD x = true → t.getLsbD x = true) (ht : ∀ x, t.getLsbD x = true → x < n) (hne : t ≠ s) : amount n s < amount n t := by
  obtain ⟨h1, h2⟩ := filter_lt (fun x => s.getLsbD x) (fun x => t.getLsbD x) (List.range n) fun x _ h => hst x h
  unfold amount
  rcases Nat.lt_or_eq_of_le h1 with h | h
  · exact h
  · refine absurd (set_ext fun x _ => ⟨fun h3 => h2 h x (List.mem_range.2 (ht x h3)) h3, hst x⟩) hne
theorem iter_within {f : BitVec 256 → BitVec 256} {n : Nat} (hf : ∀ s, (∀ x, s.getLsbD x = true → x < n) → (∀ x, s.getLsbD x = true → (f s).getLsbD x = true) ∧ ∀ x, (f s).getLsbD x = true → x < n) (s : BitVec 256) (hs : ∀ x, s.getLsbD x = true → x < n) : ∀ k x, (iter f k s).getLsbD x = true → x < n
  | 0, x, h => hs x h
  | k + 1, x, h => (hf _ (iter_within hf s hs k)).2 x h
/-- After n sweeps one more brings in nothing. -/
theorem iter_fixed {f : BitVec 256 → BitVec 256} {n : Nat} (hf : ∀ s, (∀ x, s.getLsbD x = true → x < n) → (∀ x, s.getLsbD x = true → (f s).getLsbD x = true) ∧ ∀ x, (f s).getLsbD x = true → x < n) (s : BitVec 256) (hs : ∀ x, s.getLsbD x = true → x < n) : f (iter f n s) = iter f n s := by
  have key : ∀ k, f (iter f k s) = iter f k s ∨ k < amount n (iter f (k + 1) s) := by
    intro k
    induction k with
    | zero =>
      by_cases e : f s = s
      · exact .inl e
      · refine .inr ?_
        have := amount_more (hf s hs).1 (hf s hs).2 e
        show 0 < amount n (f s)
        omega
    | succ k ih =>
      rcases ih with ih | ih
      · left
        show f (f (iter f k s)) = f (iter f k s)
        rw [ih]
        exact ih
      · by_cases e : f (iter f (k + 1) s) = iter f (k + 1) s
        · exact .inl e
        · right
          have h := hf (iter f (k + 1) s) (iter_within hf s hs (k + 1))
          have := amount_more h.1 h.2 e
          show k + 1 < amount n (f (iter f (k + 1) s))
          omega
  rcases key n with h | h
  · exact h
  · have := amount_le n (iter f (n + 1) s)
    omega
end P
end Go.Proofs.YtpfponiidppldaaDoor
namespace Go.Proofs.YtpfponiidppldaaDoor
namespace P
/-- Where a step for each number only brings that number in, and all of them together bring in nothing, none brings in anything. -/
theorem fold_fixed (u : BitVec 256 → Nat → BitVec 256) (hu : ∀ s i x, s.getLsbD x = true → (u s i).getLsbD x = true) : ∀ (l : List Nat) (s : BitVec 256), l.foldl u s = s → ∀ i ∈ l, u s i = s := by
  have grow : ∀ (l : List Nat) (s : BitVec 256) (x : Nat), s.getLsbD x = true → (l.foldl u s).getLsbD x = true := by
    intro l
    induction l with
    | nil => intro s x h; exact h
    | cons y l ih => intro s x h; exact ih (u s y) x (hu s y x h)
  intro l
  induction l with
  | nil => intro s _ i hi; simp at hi
  | cons y l ih =>
    intro s h i hi
    rw [List.foldl_cons] at h
    have e : u s y = s := set_ext fun x _ => ⟨fun h1 => by rw [← h]; exact grow l _ x h1, hu s y x⟩
    rcases List.mem_cons.1 hi with h1 | h1
    · rw [h1]; exact e
    · rw [e] at h; exact ih s h i h1
/-- A move within leads into s: the position comes in. -/
def upS (g : G) (I : BitVec 256) (s : BitVec 256) (i : Nat) : BitVec 256 := if I.getLsbD i = true ∧ ofL (g.moves.getD i []) &&& I &&& s ≠ 0#256 then s ||| bit i else s
theorem upS_sub (g : G) (I s : BitVec 256) (i x : Nat) (h : s.getLsbD x = true) : (upS g I s i).getLsbD x = true := by
  unfold upS
  split
  · rw [BitVec.getLsbD_or, h, Bool.true_or]
  · exact h
theorem some_move {g : G} {I s : BitVec 256} {i : Nat} : ofL (g.moves.getD i []) &&& I &&& s ≠ 0#256 ↔ ∃ m : Nat, (m : Int) ∈ g.moves.getD i [] ∧ I.getLsbD m = true ∧ s.getLsbD m = true := by
  have lt : ∀ (s : BitVec 256) (j : Nat), s.getLsbD j = true → j < 256 := fun s j h => by
    rcases Nat.lt_or_ge j 256 with h1 | h1
    · exact h1
    · rw [BitVec.getLsbD_of_ge s j h1] at h; cases h
  constructor
  · intro h
    by_cases e : ∃ m : Nat, (m : Int) ∈ g.moves.getD i [] ∧ I.getLsbD m = true ∧ s.getLsbD m = true
    · exact e
    · refine absurd (set_ext fun x hx => ?_) h
      rw [BitVec.getLsbD_zero]
      simp only [BitVec.getLsbD_and, Bool.and_eq_true, getLsbD_ofL _ _ hx, decide_eq_true_eq]
      exact ⟨fun ⟨⟨h3, h4⟩, h5⟩ => absurd ⟨x, h3, h4, h5⟩ e, fun h3 => by cases h3⟩
  · rintro ⟨m, h1, h2, h3⟩ h
    have h4 := congrArg (fun t => t.getLsbD m) h
    simp only [BitVec.getLsbD_and, getLsbD_ofL _ _ (lt I m h2), h2, h3, decide_eq_true h1, BitVec.getLsbD_zero] at h4
    cases h4
/-- What only comes in by A1 comes in by A1. -/
theorem upS_att {g : G} (hr : g.Right) {I To : BitVec 256} {p : Int} (hall : ∀ i, i < g.owner.length → g.owner.getD i 0 = p) (hI : ∀ x, I.getLsbD x = true → x < g.owner.length) {s : BitVec 256} (hs : ∀ x, s.getLsbD x = true → Att g I p To x) (i x : Nat) (h : (upS g I s i).getLsbD x = true) : Att g I p To x := by
  have hm := hr.many
  unfold upS at h
  split at h
  · rename_i hc
    rw [BitVec.getLsbD_or, Bool.or_eq_true, getLsbD_bit, decide_eq_true_eq] at h
    rcases h with h | h
    · exact hs x h
    · obtain rfl : i = x := by omega
      obtain ⟨m, h1, h2, h3⟩ := some_move.1 hc.2
      exact .own i m (hI i hc.1) hc.1 (hall i (hI i hc.1)) h1 h2 (hs m h3)
  · exact hs x h
/-- The sweeps' end is Attract's set, where the player owns all. -/
theorem ways_some {g : G} (hr : g.Right) {I To : BitVec 256} {p : Int} (hp : p = 0 ∨ p = 1) (hall : ∀ i, i < g.owner.length → g.owner.getD i 0 = p) (hI : ∀ x, I.getLsbD x = true → x < g.owner.length) : attOf g I p To = iter (fun s => (List.range g.owner.length).foldl (upS g I) s) (g.owner.length + 1) (To &&& I) := by
  have hm := hr.many
  have hfold : ∀ (l : List Nat) (s : BitVec 256), (∀ x, s.getLsbD x = true → Att g I p To x) → ∀ x, (l.foldl (upS g I) s).getLsbD x = true → Att g I p To x := by
    intro l
    induction l with
    | nil => intro s h x hx; exact h x hx
    | cons y l ih => intro s h x hx; exact ih (upS g I s y) (fun z hz => upS_att hr hall hI h y z hz) x hx
  have hgrow : ∀ (l : List Nat) (s : BitVec 256) (x : Nat), s.getLsbD x = true → (l.foldl (upS g I) s).getLsbD x = true := by
    intro l
    induction l with
    | nil => intro s x h; exact h
    | cons y l ih => intro s x h; exact ih (upS g I s y) x (upS_sub g I s y x h)
  have hlow : ∀ (l : List Nat) (s : BitVec 256), (∀ x, s.getLsbD x = true → x < g.owner.length) → ∀ x, (l.foldl (upS g I) s).getLsbD x = true → x < g.owner.length := by
    intro l
    induction l with
    | nil => intro s h x hx; exact h x hx
    | cons y l ih =>
      intro s h x hx
      refine ih (upS g I s y) (fun z hz => ?_) x hx
      unfold upS at hz
      split at hz
      · rename_i hc
        rw [BitVec.getLsbD_or, Bool.or_eq_true, getLsbD_bit, decide_eq_true_eq] at hz
        rcases hz with hz | hz
        · exact h z hz
        · obtain rfl : y = z := by omega
          exact hI y hc.1
      · exact h z hz
  have h0 : ∀ x, (To &&& I).getLsbD x = true → x < g.owner.length := fun x hx => by
    rw [BitVec.getLsbD_and, Bool.and_eq_true] at hx
    exact hI x hx.2
  have hfix := iter_fixed (f := fun s => (List.range g.owner.length).foldl (upS g I) s) (n := g.owner.length) (fun s hs => ⟨hgrow _ s, hlow _ s hs⟩) (To &&& I) h0
  refine Eq.trans ?_ hfix.symm
  have hatt : ∀ k x, (iter (fun s => (List.range g.owner.length).foldl (upS g I) s) k (To &&& I)).getLsbD x = true → Att g I p To x := by
    intro k
    induction k with
    | zero =>
      intro x hx
      have hx2 : (To &&& I).getLsbD x = true := hx
      rw [BitVec.getLsbD_and, Bool.and_eq_true] at hx2
      exact .base x (hI x hx2.2) hx2.2 hx2.1
    | succ k ih => intro x hx; exact hfold _ _ ih x hx
  have hsub : ∀ k x, (To &&& I).getLsbD x = true → (iter (fun s => (List.range g.owner.length).foldl (upS g I) s) k (To &&& I)).getLsbD x = true := by
    intro k
    induction k with
    | zero => intro x hx; exact hx
    | succ k ih => intro x hx; exact hgrow _ _ x (ih x hx)
  have hone := fold_fixed (upS g I) (upS_sub g I) (List.range g.owner.length) _ hfix
  have hA := hatt g.owner.length
  have hB := hsub g.owner.length
  clear hatt hsub hfix
  generalize iter (fun s => (List.range g.owner.length).foldl (upS g I) s) g.owner.length (To &&& I) = S at hone hA hB ⊢
  rw [attOf_ok hr hp]
  refine set_ext fun x _ => ?_
  rw [attSet_bit hr]
  refine (att_iff (fun i => S.getLsbD i = true) hA (fun i h1 h2 h3 => hB i (by rw [BitVec.getLsbD_and, h2, h3]; rfl)) (fun i m h1 h2 h3 h4 h5 h6 => ?_) (fun i h1 h2 h3 _ _ => absurd (hall i h1) h3) x).symm
  have h7 := hone i (List.mem_range.2 h1)
  have h6' : S.getLsbD m = true := h6
  unfold upS at h7
  rw [if_pos ⟨h2, some_move.2 ⟨m, h4, h5, h6'⟩⟩] at h7
  show S.getLsbD i = true
  rw [← h7, BitVec.getLsbD_or, getLsbD_bit, decide_eq_true (show (0 : Int) ≤ (i : Int) ∧ (i : Int) < 256 ∧ (i : Int) = (i : Int) from ⟨by omega, by omega, rfl⟩), Bool.or_true]
/-- Sweeps that bring in by A1 alone: what they end with. -/
theorem sweep_att {g : G} {I To : BitVec 256} {p : Int} (hI : ∀ x, I.getLsbD x = true → x < g.owner.length) (u : BitVec 256 → Nat → BitVec 256) (hu : ∀ s i x, s.getLsbD x = true → (u s i).getLsbD x = true)
    (hl : ∀ s, (∀ x, s.getLsbD x = true → x < g.owner.length) → ∀ i x, (u s i).getLsbD x = true → x < g.owner.length) (ha : ∀ s, (∀ x, s.getLsbD x = true → Att g I p To x) → ∀ i x, (u s i).getLsbD x = true → Att g I p To x) :
    ∃ S, iter (fun s => (List.range g.owner.length).foldl u s) (g.owner.length + 1) (To &&& I) = S ∧ (∀ x, S.getLsbD x = true → Att g I p To x) ∧ (∀ x, (To &&& I).getLsbD x = true → S.getLsbD x = true) ∧ ∀ i, i < g.owner.length → u S i = S := by
  have hfold : ∀ (l : List Nat) (s : BitVec 256), (∀ x, s.getLsbD x = true → Att g I p To x) → ∀ x, (l.foldl u s).getLsbD x = true → Att g I p To x := by
    intro l
    induction l with
    | nil => intro s h x hx; exact h x hx
    | cons y l ih => intro s h x hx; exact ih (u s y) (fun z hz => ha s h y z hz) x hx
  have hgrow : ∀ (l : List Nat) (s : BitVec 256) (x : Nat), s.getLsbD x = true → (l.foldl u s).getLsbD x = true := by
    intro l
    induction l with
    | nil => intro s x h; exact h
    | cons y l ih => intro s x h; exact ih (u s y) x (hu s y x h)
  have hlow : ∀ (l : List Nat) (s : BitVec 256), (∀ x, s.getLsbD x = true → x < g.owner.length) → ∀ x, (l.foldl u s).getLsbD x = true → x < g.owner.length := by
    intro l
    induction l with
    | nil => intro s h x hx; exact h x hx
    | cons y l ih => intro s h x hx; exact ih (u s y) (fun z hz => hl s h y z hz) x hx
  have h0 : ∀ x, (To &&& I).getLsbD x = true → x < g.owner.length := fun x hx => by
    rw [BitVec.getLsbD_and, Bool.and_eq_true] at hx
    exact hI x hx.2
  have hfix := iter_fixed (f := fun s => (List.range g.owner.length).foldl u s) (n := g.owner.length) (fun s hs => ⟨hgrow _ s, hlow _ s hs⟩) (To &&& I) h0
  have hatt : ∀ k x, (iter (fun s => (List.range g.owner.length).foldl u s) k (To &&& I)).getLsbD x = true → Att g I p To x := by
    intro k
    induction k with
    | zero =>
      intro x hx
      have hx2 : (To &&& I).getLsbD x = true := hx
      rw [BitVec.getLsbD_and, Bool.and_eq_true] at hx2
      exact .base x (hI x hx2.2) hx2.2 hx2.1
    | succ k ih => intro x hx; exact hfold _ _ ih x hx
  have hsub : ∀ k x, (To &&& I).getLsbD x = true → (iter (fun s => (List.range g.owner.length).foldl u s) k (To &&& I)).getLsbD x = true := by
    intro k
    induction k with
    | zero => intro x hx; exact hx
    | succ k ih => intro x hx; exact hgrow _ _ x (ih x hx)
  exact ⟨_, hfix, hatt _, hsub _, fun i hi => fold_fixed u hu (List.range g.owner.length) _ hfix i (List.mem_range.2 hi)⟩
/-- All moves within lead into c, and there is one: the position comes in. -/
def upC (g : G) (I : BitVec 256) (c : BitVec 256) (i : Nat) : BitVec 256 := if I.getLsbD i = true ∧ ofL (g.moves.getD i []) &&& I &&& I ≠ 0#256 ∧ ofL (g.moves.getD i []) &&& I &&& (I &&& ~~~c) = 0#256 then c ||| bit i else c
theorem not_in {I c : BitVec 256} {m : Nat} (h : I.getLsbD m = true) : (I &&& ~~~c).getLsbD m = true ↔ c.getLsbD m = false := by
  have hm : m < 256 := by
    rcases Nat.lt_or_ge m 256 with h1 | h1
    · exact h1
    · rw [BitVec.getLsbD_of_ge I m h1] at h; cases h
  rw [BitVec.getLsbD_and, BitVec.getLsbD_not, h, decide_eq_true hm]
  simp
/-- The sweeps' end is Attract's set, where the player owns none. -/
theorem ways_none {g : G} (hr : g.Right) {I To : BitVec 256} {p : Int} (hp : p = 0 ∨ p = 1) (hall : ∀ i, i < g.owner.length → g.owner.getD i 0 ≠ p) (hI : ∀ x, I.getLsbD x = true → x < g.owner.length) : attOf g I p To = iter (fun s => (List.range g.owner.length).foldl (upC g I) s) (g.owner.length + 1) (To &&& I) := by
  have hm := hr.many
  obtain ⟨S, e, hA, hB, hone⟩ := sweep_att (g := g) (I := I) (To := To) (p := p) hI (upC g I) (fun s i x h => by
      unfold upC
      split
      · rw [BitVec.getLsbD_or, h, Bool.true_or]
      · exact h) (fun s h i x hx => by
      unfold upC at hx
      split at hx
      · rename_i hc
        rw [BitVec.getLsbD_or, Bool.or_eq_true, getLsbD_bit, decide_eq_true_eq] at hx
        rcases hx with hx | hx
        · exact h x hx
        · obtain rfl : i = x := by omega
          exact hI i hc.1
      · exact h x hx) (fun s h i x hx => by
      unfold upC at hx
      split at hx
      · rename_i hc
        rw [BitVec.getLsbD_or, Bool.or_eq_true, getLsbD_bit, decide_eq_true_eq] at hx
        rcases hx with hx | hx
        · exact h x hx
        · obtain rfl : i = x := by omega
          obtain ⟨m, h1, h2, -⟩ := some_move.1 hc.2.1
          refine .oth i (hI i hc.1) hc.1 (hall i (hI i hc.1)) ⟨m, h1, h2⟩ fun k h3 h4 => h k ?_
          cases e : s.getLsbD k
          · exact absurd hc.2.2 (some_move.2 ⟨k, h3, h4, (not_in h4).2 e⟩)
          · rfl
      · exact h x hx)
  rw [e, attOf_ok hr hp]
  refine set_ext fun x _ => ?_
  rw [attSet_bit hr]
  refine (att_iff (fun i => S.getLsbD i = true) hA (fun i h1 h2 h3 => hB i (by rw [BitVec.getLsbD_and, h2, h3]; rfl)) (fun i m h1 h2 h3 h4 h5 h6 => absurd h3 (hall i h1)) (fun i h1 h2 h3 h4 h5 => ?_) x).symm
  obtain ⟨m, h6, h7⟩ := h4
  have h8 := hone i h1
  have hz : ofL (g.moves.getD i []) &&& I &&& (I &&& ~~~S) = 0#256 := by
    by_cases hz : ofL (g.moves.getD i []) &&& I &&& (I &&& ~~~S) = 0#256
    · exact hz
    · obtain ⟨k, k1, k2, k3⟩ := some_move.1 hz
      have k4 : S.getLsbD k = true := h5 k k1 k2
      rw [(not_in k2).1 k3] at k4
      cases k4
  unfold upC at h8
  rw [if_pos ⟨h2, some_move.2 ⟨m, h6, h7, h7⟩, hz⟩] at h8
  show S.getLsbD i = true
  rw [← h8, BitVec.getLsbD_or, getLsbD_bit, decide_eq_true (show (0 : Int) ≤ (i : Int) ∧ (i : Int) < 256 ∧ (i : Int) = (i : Int) from ⟨by omega, by omega, rfl⟩), Bool.or_true]
end P
end Go.Proofs.YtpfponiidppldaaDoor
namespace Go.Proofs.YtpfponiidppldaaDoor
namespace P
/-- A position whose moves within all leave t doesn't stay. -/
def upT (g : G) (I : BitVec 256) (t : BitVec 256) (i : Nat) : BitVec 256 := if t.getLsbD i = true ∧ ofL (g.moves.getD i []) &&& I ≠ 0#256 ∧ ofL (g.moves.getD i []) &&& I &&& t = 0#256 then t &&& ~~~bit i else t
theorem and_twice (l I : BitVec 256) : l &&& I &&& I = l &&& I := by rw [BitVec.and_assoc, BitVec.and_self]
theorem upT_is {g : G} {I c : BitVec 256} (hc : ∀ x, c.getLsbD x = true → I.getLsbD x = true) (i : Nat) : upT g I (I &&& ~~~c) i = I &&& ~~~upC g I c i ∧ ∀ x, (upC g I c i).getLsbD x = true → I.getLsbD x = true := by
  have lt : ∀ (s : BitVec 256) (j : Nat), s.getLsbD j = true → j < 256 := fun s j h => by
    rcases Nat.lt_or_ge j 256 with h1 | h1
    · exact h1
    · rw [BitVec.getLsbD_of_ge s j h1] at h; cases h
  constructor
  · by_cases hI : I.getLsbD i = true
    · have hi := lt I i hI
      by_cases hh : ofL (g.moves.getD i []) &&& I ≠ 0#256 ∧ ofL (g.moves.getD i []) &&& I &&& (I &&& ~~~c) = 0#256
      · have e1 : upC g I c i = c ||| bit i := by unfold upC; rw [if_pos ⟨hI, by rw [and_twice]; exact hh.1, hh.2⟩]
        cases e : c.getLsbD i
        · have e2 : upT g I (I &&& ~~~c) i = (I &&& ~~~c) &&& ~~~bit i := by unfold upT; rw [if_pos ⟨(not_in hI).2 e, hh⟩]
          rw [e1, e2]
          refine set_ext fun x hx => ?_
          simp only [BitVec.getLsbD_and, BitVec.getLsbD_not, BitVec.getLsbD_or, decide_eq_true hx, Bool.true_and]
          cases I.getLsbD x <;> cases c.getLsbD x <;> cases (bit (i : Int)).getLsbD x <;> simp
        · have e2 : upT g I (I &&& ~~~c) i = I &&& ~~~c := by
            unfold upT
            rw [if_neg]
            rintro ⟨h, -⟩
            rw [(not_in hI).1 h] at e
            cases e
          have e3 : c ||| bit i = c := by
            refine set_ext fun x _ => ?_
            rw [BitVec.getLsbD_or, Bool.or_eq_true, getLsbD_bit, decide_eq_true_eq]
            refine ⟨fun h => ?_, fun h => .inl h⟩
            rcases h with h | h
            · exact h
            · obtain rfl : i = x := by omega
              exact e
          rw [e1, e2, e3]
      · have e1 : upC g I c i = c := by unfold upC; rw [if_neg]; rintro ⟨-, h1, h2⟩; rw [and_twice] at h1; exact hh ⟨h1, h2⟩
        have e2 : upT g I (I &&& ~~~c) i = I &&& ~~~c := by unfold upT; rw [if_neg]; rintro ⟨-, h⟩; exact hh h
        rw [e1, e2]
    · have e1 : upC g I c i = c := by unfold upC; rw [if_neg (fun h => hI h.1)]
      have e2 : upT g I (I &&& ~~~c) i = I &&& ~~~c := by
        unfold upT
        rw [if_neg]
        rintro ⟨h, -⟩
        rw [BitVec.getLsbD_and, Bool.and_eq_true] at h
        exact hI h.1
      rw [e1, e2]
  · intro x hx
    unfold upC at hx
    split at hx
    · rename_i h
      rw [BitVec.getLsbD_or, Bool.or_eq_true, getLsbD_bit, decide_eq_true_eq] at hx
      rcases hx with hx | hx
      · exact hc x hx
      · obtain rfl : i = x := by omega
        exact h.1
    · exact hc x hx
theorem fold_stays {g : G} {I : BitVec 256} : ∀ (l : List Nat) (c : BitVec 256), (∀ x, c.getLsbD x = true → I.getLsbD x = true) → l.foldl (upT g I) (I &&& ~~~c) = I &&& ~~~(l.foldl (upC g I) c) ∧ ∀ x, (l.foldl (upC g I) c).getLsbD x = true → I.getLsbD x = true
  | [], _, h => ⟨rfl, h⟩
  | i :: l, c, h => by
    obtain ⟨h1, h2⟩ := upT_is (g := g) h i
    rw [List.foldl_cons, List.foldl_cons, h1]
    exact fold_stays l _ h2
theorem iter_stays {g : G} {I : BitVec 256} (n : Nat) (c : BitVec 256) (h : ∀ x, c.getLsbD x = true → I.getLsbD x = true) : ∀ k, iter (fun s => (List.range n).foldl (upT g I) s) k (I &&& ~~~c) = I &&& ~~~(iter (fun s => (List.range n).foldl (upC g I) s) k c) ∧ ∀ x, (iter (fun s => (List.range n).foldl (upC g I) s) k c).getLsbD x = true → I.getLsbD x = true
  | 0 => ⟨rfl, h⟩
  | k + 1 => by
    obtain ⟨h1, h2⟩ := iter_stays n c h k
    obtain ⟨h3, h4⟩ := fold_stays (g := g) (List.range n) _ h2
    refine ⟨?_, h4⟩
    show (List.range n).foldl (upT g I) (iter _ k (I &&& ~~~c)) = _
    rw [h1, h3]
    rfl
/-- What doesn't stay is Attract's set, where the player owns none. -/
theorem ways_stays {g : G} (hr : g.Right) {I To : BitVec 256} {p : Int} (hp : p = 0 ∨ p = 1) (hall : ∀ i, i < g.owner.length → g.owner.getD i 0 ≠ p) (hI : ∀ x, I.getLsbD x = true → x < g.owner.length) : attOf g I p To = I &&& ~~~(iter (fun s => (List.range g.owner.length).foldl (upT g I) s) (g.owner.length + 1) (I &&& ~~~To)) := by
  have e0 : I &&& ~~~To = I &&& ~~~(To &&& I) := by
    refine set_ext fun x hx => ?_
    simp only [BitVec.getLsbD_and, BitVec.getLsbD_not, decide_eq_true hx, Bool.true_and]
    cases I.getLsbD x <;> cases To.getLsbD x <;> simp
  obtain ⟨h1, h2⟩ := iter_stays (g := g) (I := I) g.owner.length (To &&& I) (fun x h => by rw [BitVec.getLsbD_and, Bool.and_eq_true] at h; exact h.2) (g.owner.length + 1)
  rw [e0, h1, ways_none hr hp hall hI]
  refine set_ext fun x hx => ?_
  have h3 := h2 x
  generalize iter (fun s => (List.range g.owner.length).foldl (upC g I) s) (g.owner.length + 1) (To &&& I) = S at h3 ⊢
  simp only [BitVec.getLsbD_and, BitVec.getLsbD_not, decide_eq_true hx, Bool.true_and]
  cases e1 : I.getLsbD x <;> cases e2 : S.getLsbD x <;> simp
  rw [h3 e2] at e1
  cases e1
end P
end Go.Proofs.YtpfponiidppldaaDoor
