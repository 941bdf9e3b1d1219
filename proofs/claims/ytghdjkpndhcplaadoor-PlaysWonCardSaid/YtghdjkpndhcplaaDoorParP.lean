/- Who wins the plays of a game: a region, its strategy, and that no position is both players'. Plain. -/
import Derived.Test.YtghdjkpndhcplaaDoorGame
namespace Go.Proofs.YtghdjkpndhcplaaDoor
namespace P
theorem countP_le {p q : Nat → Bool} (l : List Nat) (h : ∀ x ∈ l, p x = true → q x = true) : l.countP p ≤ l.countP q := List.countP_mono_left h
theorem countP_lt {p q : Nat → Bool} : ∀ (l : List Nat), (∀ x ∈ l, p x = true → q x = true) → (∃ x ∈ l, p x = false ∧ q x = true) → l.countP p + 1 ≤ l.countP q
  | [], _, h => by obtain ⟨x, hx, -⟩ := h; cases hx
  | y :: l, h, hx => by
    rw [List.countP_cons, List.countP_cons]
    have hl : ∀ x ∈ l, p x = true → q x = true := fun x hx => h x (List.mem_cons_of_mem _ hx)
    have h0 := countP_le l hl
    have hy := h y (List.mem_cons_self ..)
    obtain ⟨x, hx, h1, h2⟩ := hx
    rcases List.mem_cons.1 hx with rfl | hx
    · rw [h1, h2]
      simp
      omega
    · have := countP_lt l hl ⟨x, hx, h1, h2⟩
      cases hp : p y
      · simp
        split <;> omega
      · rw [hy hp]
        simp
        omega
/-- From one to another by one step or more; all that one comes to are fine. -/
inductive Path (E : Nat → Nat → Prop) (ok : Nat → Prop) : Nat → Nat → Prop
  | one {x y : Nat} (h : E x y) (hy : ok y) : Path E ok x y
  | more {x y z : Nat} (h : E x y) (hy : ok y) (p : Path E ok y z) : Path E ok x z
theorem Path.trans {E : Nat → Nat → Prop} {ok : Nat → Prop} {x y z : Nat} (h : Path E ok x y) (k : Path E ok y z) : Path E ok x z := by
  induction h with
  | one h hy => exact .more h hy k
  | more h hy _ ih => exact .more h hy (ih k)
theorem Path.to {E F : Nat → Nat → Prop} {ok fine : Nat → Prop} (hE : ∀ x y, E x y → ok y → F x y ∧ fine y) {x y : Nat} (h : Path E ok x y) : Path F fine x y := by
  induction h with
  | one h hy => exact .one (hE _ _ h hy).1 (hE _ _ h hy).2
  | more h hy _ ih => exact .more (hE _ _ h hy).1 (hE _ _ h hy).2 ih
theorem Path.imp {E F : Nat → Nat → Prop} {ok fine : Nat → Prop} (hE : ∀ x y, E x y → F x y) (ho : ∀ y, ok y → fine y) {x y : Nat} (h : Path E ok x y) : Path F fine x y := h.to fun x y he hy => ⟨hE x y he, ho y hy⟩
theorem Path.end_ {E : Nat → Nat → Prop} {ok : Nat → Prop} {x y : Nat} (h : Path E ok x y) : ok y := by
  induction h with
  | one h hy => exact hy
  | more h hy _ ih => exact ih
/-- What holds where one starts and is kept by each step holds where one comes to. -/
theorem Path.keeps {E : Nat → Nat → Prop} {ok : Nat → Prop} (S : Nat → Prop) (hS : ∀ x y, S x → E x y → ok y → S y) {x y : Nat} (h : Path E ok x y) (hx : S x) : S y := by
  induction h with
  | one h hy => exact hS _ _ hx h hy
  | more h hy _ ih => exact ih (hS _ _ hx h hy)
/-- A number that each step makes less. -/
theorem Path.less {E : Nat → Nat → Prop} {ok : Nat → Prop} (S : Nat → Prop) (rk : Nat → Nat) (hS : ∀ x y, S x → E x y → ok y → S y ∧ rk y < rk x) {x y : Nat} (h : Path E ok x y) (hx : S x) : rk y < rk x := by
  induction h with
  | one h hy => exact (hS _ _ hx h hy).2
  | more h hy _ ih =>
    obtain ⟨h1, h2⟩ := hS _ _ hx h hy
    exact Nat.lt_trans (ih h1) h2
/-- A way that ends outside of what one can't leave is outside all along. -/
theorem Path.avoid {E F : Nat → Nat → Prop} {ok fine : Nat → Prop} (S : Nat → Prop) (hS : ∀ x y, S x → E x y → ok y → S y) (hF : ∀ x y, ¬ S x → ¬ S y → E x y → ok y → F x y ∧ fine y) {x y : Nat} (h : Path E ok x y) (hx : ¬ S x) (hy : ¬ S y) : Path F fine x y := by
  induction h with
  | one h hk =>
    obtain ⟨h1, h2⟩ := hF _ _ hx hy h hk
    exact .one h1 h2
  | @more x y z h hk p ih =>
    by_cases hs : S y
    · exact absurd (p.keeps S hS hs) hy
    · obtain ⟨h1, h2⟩ := hF _ _ hx hs h hk
      exact .more h1 h2 (ih hs hy)
/-- The moves that count where a player keeps to its own ones, within a part. -/
def Edge (g : G) (In : Nat → Prop) (p : Int) (mv : Nat → Int) (i j : Nat) : Prop := (j : Int) ∈ g.moves.getD i [] ∧ In j ∧ (g.owner.getD i 0 = p → (j : Int) = mv i)
/-- A player wins all plays from a region of a part, by its moves: it stays there, and on each cycle the highest priority is of its parity. -/
structure WinsIn (g : G) (In : Nat → Prop) (p : Int) (mv : Nat → Int) (R : Nat → Prop) : Prop where
  sub : ∀ i, R i → In i
  own : ∀ i, R i → g.owner.getD i 0 = p → ∃ j : Nat, (j : Int) = mv i ∧ (j : Int) ∈ g.moves.getD i [] ∧ R j
  oth : ∀ i, R i → g.owner.getD i 0 ≠ p → ∀ j : Nat, (j : Int) ∈ g.moves.getD i [] → In j → R j
  good : ∀ i, R i → g.prio.getD i 0 % 2 ≠ p → ¬ Path (Edge g In p mv) (fun j => R j ∧ g.prio.getD j 0 ≤ g.prio.getD i 0) i i
theorem WinsIn.stays {g : G} {In R : Nat → Prop} {p : Int} {mv : Nat → Int} (h : WinsIn g In p mv R) {i j : Nat} (hi : R i) (he : Edge g In p mv i j) : R j := by
  by_cases ho : g.owner.getD i 0 = p
  · obtain ⟨k, hk, -, hR⟩ := h.own i hi ho
    have := he.2.2 ho
    have : j = k := by omega
    rw [this]
    exact hR
  · exact h.oth i hi ho j he.1 he.2.1
theorem WinsIn.congr {g : G} {In R : Nat → Prop} {p : Int} {mv mv' : Nat → Int} (h : WinsIn g In p mv R) (hm : ∀ i, R i → g.owner.getD i 0 = p → mv' i = mv i) : WinsIn g In p mv' R where
  sub := h.sub
  own i hi ho := by rw [hm i hi ho]; exact h.own i hi ho
  oth := h.oth
  good i hi hp k := by
    refine h.good i hi hp ?_
    have key : ∀ x y, Path (Edge g In p mv') (fun j => R j ∧ g.prio.getD j 0 ≤ g.prio.getD i 0) x y → R x → Path (Edge g In p mv) (fun j => R j ∧ g.prio.getD j 0 ≤ g.prio.getD i 0) x y := by
      intro x y h1
      induction h1 with
      | one he hy => exact fun hx => .one ⟨he.1, he.2.1, fun ho => by rw [← hm _ hx ho]; exact he.2.2 ho⟩ hy
      | more he hy _ ih => exact fun hx => .more ⟨he.1, he.2.1, fun ho => by rw [← hm _ hx ho]; exact he.2.2 ho⟩ hy (ih hy.1)
    exact key i i k hi
theorem WinsIn.iff {g : G} {In In' R R' : Nat → Prop} {p : Int} {mv : Nat → Int} (h : WinsIn g In p mv R) (hi : ∀ i, In i ↔ In' i) (hr : ∀ i, R i ↔ R' i) : WinsIn g In' p mv R' := by
  have e1 : In = In' := funext fun i => propext (hi i)
  have e2 : R = R' := funext fun i => propext (hr i)
  rw [← e1, ← e2]
  exact h
theorem nodup_lt : ∀ (n : Nat) (l : List Nat), l.Nodup → (∀ x ∈ l, x < n) → l.length ≤ n
  | 0, [], _, _ => Nat.le_refl _
  | 0, x :: l, _, h => absurd (h x (List.mem_cons_self ..)) (Nat.not_lt_zero x)
  | n + 1, l, hn, h => by
    have h1 : (l.erase n).length ≤ n := nodup_lt n (l.erase n) (hn.erase n) fun x hx => by
      have h2 := h x (List.mem_of_mem_erase hx)
      have h3 : x ≠ n := fun e => by
        rw [e] at hx
        exact hn.not_mem_erase hx
      omega
    by_cases hm : n ∈ l
    · rw [List.length_erase_of_mem hm] at h1
      omega
    · rw [List.erase_of_not_mem hm] at h1
      omega
/-- What goes on for ever among few comes again. -/
theorem comes_again (n : Nat) (f : Nat → Nat) (h : ∀ k, f k < n) : ∃ a b, a < b ∧ f a = f b := by
  refine Classical.byContradiction fun hc => ?_
  have hn : ((List.range (n + 1)).map f).Nodup := by
    unfold List.Nodup
    rw [List.pairwise_map]
    exact List.pairwise_lt_range.imp fun {a b} hab e => hc ⟨a, b, hab, e⟩
  have := nodup_lt n _ hn fun x hx => by
    obtain ⟨k, -, rfl⟩ := List.mem_map.1 hx
    exact h k
  rw [List.length_map, List.length_range] at this
  omega
theorem highest (F : Nat → Int) (a : Nat) : ∀ d, ∃ k, a ≤ k ∧ k < a + (d + 1) ∧ ∀ j, a ≤ j → j < a + (d + 1) → F j ≤ F k
  | 0 => ⟨a, Nat.le_refl a, by omega, fun j h1 h2 => by rw [show j = a by omega]; exact Int.le_refl _⟩
  | d + 1 => by
    obtain ⟨k, h1, h2, h3⟩ := highest F a d
    by_cases h : F k ≤ F (a + (d + 1))
    · refine ⟨a + (d + 1), by omega, by omega, fun j h4 h5 => ?_⟩
      by_cases e : j = a + (d + 1)
      · rw [e]; exact Int.le_refl _
      · exact Int.le_trans (h3 j h4 (by omega)) h
    · refine ⟨k, h1, by omega, fun j h4 h5 => ?_⟩
      by_cases e : j = a + (d + 1)
      · rw [e]; omega
      · exact h3 j h4 (by omega)
theorem path_of {E : Nat → Nat → Prop} {ok : Nat → Prop} (f : Nat → Nat) (hE : ∀ k, E (f k) (f (k + 1))) : ∀ (d k : Nat), (∀ j, k < j → j ≤ k + (d + 1) → ok (f j)) → Path E ok (f k) (f (k + (d + 1)))
  | 0, k, h => .one (hE k) (h (k + 1) (by omega) (by omega))
  | d + 1, k, h => by
    have := path_of f hE d (k + 1) fun j h1 h2 => h j (by omega) (by omega)
    rw [show k + 1 + (d + 1) = k + (d + 1 + 1) by omega] at this
    exact .more (hE k) (h (k + 1) (by omega) (by omega)) this
/-- A play that goes on for ever goes round, and its highest priority comes again and again. -/
theorem goes_round {E : Nat → Nat → Prop} (n : Nat) (f : Nat → Nat) (hf : ∀ k, f k < n) (hE : ∀ k, E (f k) (f (k + 1))) (hd : ∀ a b, f a = f b → f (a + 1) = f (b + 1)) (F : Nat → Int) (S : Nat → Prop) (hS : ∀ k, S (f k)) : ∃ x, S x ∧ Path E (fun j => S j ∧ F j ≤ F x) x x := by
  obtain ⟨a, b, hab, e⟩ := comes_again n f hf
  obtain ⟨d, rfl⟩ : ∃ d, b = a + (d + 1) := ⟨b - a - 1, by omega⟩
  obtain ⟨k, h1, h2, h3⟩ := highest (fun j => F (f j)) a d
  have per : ∀ t, f (a + t) = f (a + (d + 1) + t) := by
    intro t
    induction t with
    | zero => exact e
    | succ t ih => exact hd _ _ ih
  have fit : ∀ j, k < j → j ≤ k + (d + 1) → F (f j) ≤ F (f k) := by
    intro j h4 h5
    by_cases h6 : j < a + (d + 1)
    · exact h3 j (by omega) h6
    · have := per (j - (a + (d + 1)))
      rw [show a + (d + 1) + (j - (a + (d + 1))) = j by omega] at this
      rw [← this]
      exact h3 _ (by omega) (by omega)
  have last : f (k + (d + 1)) = f k := by
    have := per (k - a)
    rw [show a + (k - a) = k by omega, show a + (d + 1) + (k - a) = k + (d + 1) by omega] at this
    exact this.symm
  refine ⟨f k, hS k, ?_⟩
  have := path_of (E := E) (ok := fun j => S j ∧ F j ≤ F (f k)) f hE d k fun j h4 h5 => ⟨hS j, fit j h4 h5⟩
  rw [last] at this
  exact this
/-- k steps on. -/
def turns_ (nx : Nat → Nat) (i : Nat) : Nat → Nat
  | 0 => i
  | k + 1 => nx (turns_ nx i k)
/-- No position is won by both. -/
theorem no_both {g : G} {In R0 R1 : Nat → Prop} {mv0 mv1 : Nat → Int} (n : Nat) (hn : ∀ i, In i → i < n) (hw : ∀ i, In i → g.owner.getD i 0 = 0 ∨ g.owner.getD i 0 = 1) (h0 : WinsIn g In 0 mv0 R0) (h1 : WinsIn g In 1 mv1 R1) {i : Nat} (a : R0 i) (b : R1 i) : False := by
  have step : ∀ i, R0 i ∧ R1 i → ∃ j, (Edge g In 0 mv0 i j ∧ Edge g In 1 mv1 i j) ∧ R0 j ∧ R1 j := by
    rintro i ⟨c0, c1⟩
    rcases hw i (h0.sub i c0) with ho | ho
    · obtain ⟨j, e1, e2, e3⟩ := h0.own i c0 ho
      have h4 := h1.oth i c1 (by omega) j e2 (h0.sub j e3)
      exact ⟨j, ⟨⟨e2, h0.sub j e3, fun _ => e1⟩, e2, h0.sub j e3, fun h => by omega⟩, e3, h4⟩
    · obtain ⟨j, e1, e2, e3⟩ := h1.own i c1 ho
      have h4 := h0.oth i c0 (by omega) j e2 (h1.sub j e3)
      exact ⟨j, ⟨⟨e2, h1.sub j e3, fun h => by omega⟩, e2, h1.sub j e3, fun _ => e1⟩, h4, e3⟩
  obtain ⟨nx, hnx⟩ : ∃ nx : Nat → Nat, ∀ i, R0 i ∧ R1 i → (Edge g In 0 mv0 i (nx i) ∧ Edge g In 1 mv1 i (nx i)) ∧ R0 (nx i) ∧ R1 (nx i) := by
    refine ⟨fun i => open Classical in if h : R0 i ∧ R1 i then (step i h).choose else i, fun i h => ?_⟩
    simp only [dif_pos h]
    exact (step i h).choose_spec
  have all : ∀ k, R0 (turns_ nx i k) ∧ R1 (turns_ nx i k) := by
    intro k
    induction k with
    | zero => exact ⟨a, b⟩
    | succ k ih => exact (hnx _ ih).2
  obtain ⟨x, hx, hp⟩ := goes_round (E := fun x y => Edge g In 0 mv0 x y ∧ Edge g In 1 mv1 x y) n (turns_ nx i) (fun k => hn _ (h0.sub _ (all k).1)) (fun k => (hnx _ (all k)).1) (fun a b e => by show nx _ = nx _; rw [e]) (fun j => g.prio.getD j 0) (fun j => R0 j ∧ R1 j) all
  by_cases e : g.prio.getD x 0 % 2 = 0
  · exact h1.good x hx.2 (by omega) (hp.imp (fun _ _ h => h.2) fun _ h => ⟨h.1.2, h.2⟩)
  · exact h0.good x hx.1 e (hp.imp (fun _ _ h => h.1) fun _ h => ⟨h.1.1, h.2⟩)
/-- A part, taken apart: who wins where. -/
def Solved (g : G) (In W0 W1 : Nat → Prop) : Prop := ∃ mv0 mv1, WinsIn g In 0 mv0 W0 ∧ WinsIn g In 1 mv1 W1 ∧ ∀ i, In i → W0 i ∨ W1 i
/-- There is one way to do so. -/
theorem Solved.unique {g : G} {In W0 W1 V0 V1 : Nat → Prop} (n : Nat) (hn : ∀ i, In i → i < n) (hw : ∀ i, In i → g.owner.getD i 0 = 0 ∨ g.owner.getD i 0 = 1) (h : Solved g In W0 W1) (k : Solved g In V0 V1) (i : Nat) : (W0 i ↔ V0 i) ∧ (W1 i ↔ V1 i) := by
  obtain ⟨a0, a1, a2, a3, a4⟩ := h
  obtain ⟨b0, b1, b2, b3, b4⟩ := k
  refine ⟨⟨fun h => ?_, fun h => ?_⟩, fun h => ?_, fun h => ?_⟩
  · exact (b4 i (a2.sub i h)).elim id fun h2 => (no_both n hn hw a2 b3 h h2).elim
  · exact (a4 i (b2.sub i h)).elim id fun h2 => (no_both n hn hw b2 a3 h h2).elim
  · exact (b4 i (a3.sub i h)).elim (fun h2 => (no_both n hn hw b2 a3 h2 h).elim) id
  · exact (a4 i (b3.sub i h)).elim (fun h2 => (no_both n hn hw a2 b3 h2 h).elim) id
/-- .. also where one region only is known. -/
theorem Solved.holds0 {g : G} {In W0 W1 R : Nat → Prop} {mv : Nat → Int} (n : Nat) (hn : ∀ i, In i → i < n) (hw : ∀ i, In i → g.owner.getD i 0 = 0 ∨ g.owner.getD i 0 = 1) (h : Solved g In W0 W1) (hR : WinsIn g In 0 mv R) (i : Nat) (hi : R i) : W0 i := by
  obtain ⟨a0, a1, a2, a3, a4⟩ := h
  exact (a4 i (hR.sub i hi)).elim id fun h2 => (no_both n hn hw hR a3 hi h2).elim
theorem Solved.holds1 {g : G} {In W0 W1 R : Nat → Prop} {mv : Nat → Int} (n : Nat) (hn : ∀ i, In i → i < n) (hw : ∀ i, In i → g.owner.getD i 0 = 0 ∨ g.owner.getD i 0 = 1) (h : Solved g In W0 W1) (hR : WinsIn g In 1 mv R) (i : Nat) (hi : R i) : W1 i := by
  obtain ⟨a0, a1, a2, a3, a4⟩ := h
  exact (a4 i (hR.sub i hi)).elim (fun h2 => (no_both n hn hw a2 hR h2 hi).elim) id
/-- A set that a player can force its way into, within a part: by what moves, and how soon. -/
structure Attr (g : G) (In T A : Nat → Prop) (p : Int) (mv : Nat → Int) (rk : Nat → Nat) : Prop where
  sub : ∀ i, A i → In i
  base : ∀ i, In i → T i → A i
  own : ∀ i, A i → ¬ T i → g.owner.getD i 0 = p → ∃ j : Nat, (j : Int) = mv i ∧ (j : Int) ∈ g.moves.getD i [] ∧ A j ∧ rk j < rk i
  oth : ∀ i, A i → ¬ T i → g.owner.getD i 0 ≠ p → ∀ j : Nat, (j : Int) ∈ g.moves.getD i [] → In j → A j ∧ rk j < rk i
  trapo : ∀ i, In i → ¬ A i → g.owner.getD i 0 = p → ∀ j : Nat, (j : Int) ∈ g.moves.getD i [] → In j → ¬ A j
  trapn : ∀ i, In i → ¬ A i → g.owner.getD i 0 ≠ p → ∃ j : Nat, (j : Int) ∈ g.moves.getD i [] ∧ In j ∧ ¬ A j
theorem Attr.edge {g : G} {In T A : Nat → Prop} {p : Int} {mv : Nat → Int} {rk : Nat → Nat} (h : Attr g In T A p mv rk) {i j : Nat} (hi : A i) (ht : ¬ T i) (he : Edge g In p mv i j) : A j ∧ rk j < rk i := by
  by_cases ho : g.owner.getD i 0 = p
  · obtain ⟨k, e1, e2, e3, e4⟩ := h.own i hi ht ho
    have := he.2.2 ho
    have : j = k := by omega
    rw [this]
    exact ⟨e3, e4⟩
  · exact h.oth i hi ht ho j he.1 he.2.1
/-- Can one go on within a part? -/
def Goes (g : G) (In : Nat → Prop) : Prop := ∀ i, In i → ∃ j : Nat, (j : Int) ∈ g.moves.getD i [] ∧ In j
/-- What is left of a part is one. -/
theorem Attr.goes {g : G} {In T A : Nat → Prop} {p : Int} {mv : Nat → Int} {rk : Nat → Nat} (h : Attr g In T A p mv rk) (hg : Goes g In) : Goes g (fun i => In i ∧ ¬ A i) := by
  rintro i ⟨h1, h2⟩
  by_cases ho : g.owner.getD i 0 = p
  · obtain ⟨j, e1, e2⟩ := hg i h1
    exact ⟨j, e1, e2, h.trapo i h1 h2 ho j e1 e2⟩
  · obtain ⟨j, e1, e2, e3⟩ := h.trapn i h1 h2 ho
    exact ⟨j, e1, e2, e3⟩
/-- Where the other one wins nothing without what the top attracts, the top's player wins all. -/
theorem wins_all {g : G} {In T A : Nat → Prop} {p : Int} {mv : Nat → Int} {rk : Nat → Nat} (d : Int) (hd : ∀ i, In i → g.prio.getD i 0 ≤ d) (hT : ∀ i, T i ↔ In i ∧ g.prio.getD i 0 = d) (hp : d % 2 = p)
    (hA : Attr g In T A p mv rk) (hW : WinsIn g (fun i => In i ∧ ¬ A i) p mv (fun i => In i ∧ ¬ A i)) (hs : ∀ i, T i → g.owner.getD i 0 = p → ∃ j : Nat, (j : Int) = mv i ∧ (j : Int) ∈ g.moves.getD i [] ∧ In j) : WinsIn g In p mv In where
  sub i hi := hi
  own i hi ho := by
    by_cases hAi : A i
    · by_cases ht : T i
      · exact hs i ht ho
      · obtain ⟨j, e1, e2, e3, -⟩ := hA.own i hAi ht ho
        exact ⟨j, e1, e2, hA.sub j e3⟩
    · obtain ⟨j, e1, e2, e3⟩ := hW.own i ⟨hi, hAi⟩ ho
      exact ⟨j, e1, e2, e3.1⟩
  oth _ _ _ _ _ hj := hj
  good i hi hpi hc := by
    have hid : g.prio.getD i 0 ≠ d := fun e => hpi (by rw [e]; exact hp)
    have hlt : g.prio.getD i 0 < d := by have := hd i hi; omega
    have noT : ∀ j, g.prio.getD j 0 ≤ g.prio.getD i 0 → ¬ T j := fun j hj ht => by have := ((hT j).1 ht).2; omega
    have key : ∀ x y, (A x ∧ ¬ T x) → Edge g In p mv x y → (In y ∧ g.prio.getD y 0 ≤ g.prio.getD i 0) → (A y ∧ ¬ T y) ∧ rk y < rk x := by
      rintro x y ⟨h1, h2⟩ he ⟨-, h4⟩
      obtain ⟨h5, h6⟩ := hA.edge h1 h2 he
      exact ⟨⟨h5, noT y h4⟩, h6⟩
    by_cases hAi : A i
    · have := hc.less (fun x => A x ∧ ¬ T x) rk key ⟨hAi, noT i (Int.le_refl _)⟩
      omega
    · refine hW.good i ⟨hi, hAi⟩ hpi (hc.avoid (fun x => A x ∧ ¬ T x) (fun x y h1 h2 h3 => (key x y h1 h2 h3).1) (fun x y h1 h2 h3 h4 => ?_) (fun h => hAi h.1) (fun h => hAi h.1))
      have : ¬ A y := fun h => h2 ⟨h, noT y h4.2⟩
      exact ⟨⟨h3.1, ⟨h3.2.1, this⟩, h3.2.2⟩, ⟨h4.1, this⟩, h4.2⟩
/-- What the top's player wins without what the other one's region attracts, it wins. -/
theorem wins_same {g : G} {In L B V : Nat → Prop} {p q : Int} {mv mv' : Nat → Int} {rk : Nat → Nat} (hw : ∀ i, In i → g.owner.getD i 0 = p ∨ g.owner.getD i 0 = q) (hB : Attr g In L B q mv' rk) (hV : WinsIn g (fun i => In i ∧ ¬ B i) p mv V) : WinsIn g In p mv V := by
  have stay : ∀ i j, V i → Edge g In p mv i j → V j := by
    intro i j hi he
    by_cases ho : g.owner.getD i 0 = p
    · obtain ⟨k, e1, e2, e3⟩ := hV.own i hi ho
      have := he.2.2 ho
      have : j = k := by omega
      rw [this]
      exact e3
    · have h1 := hV.sub i hi
      exact hV.oth i hi ho j he.1 ⟨he.2.1, hB.trapo i h1.1 h1.2 ((hw i h1.1).resolve_left ho) j he.1 he.2.1⟩
  refine ⟨fun i hi => (hV.sub i hi).1, hV.own, fun i hi ho j h1 h2 => stay i j hi ⟨h1, h2, fun h => absurd h ho⟩, fun i hi hpi hc => hV.good i hi hpi ?_⟩
  exact hc.to fun x y he hy => ⟨⟨he.1, hV.sub y hy.1, he.2.2⟩, hy⟩
/-- What the other one wins without what the top attracts, with what that attracts and what it wins behind it, is the other one's. -/
theorem wins_other {g : G} {In T A L B V : Nat → Prop} {p q : Int} {mv mvA : Nat → Int} {rk rkA : Nat → Nat} (hw : ∀ i, In i → g.owner.getD i 0 = p ∨ g.owner.getD i 0 = q)
    (hA : Attr g In T A p mvA rkA) (hL : WinsIn g (fun i => In i ∧ ¬ A i) q mv L) (hB : Attr g In L B q mv rk) (hV : WinsIn g (fun i => In i ∧ ¬ B i) q mv V) : WinsIn g In q mv (fun i => B i ∨ V i) := by
  have hLB : ∀ i, L i → B i := fun i hi => hB.base i (hL.sub i hi).1 hi
  have stL : ∀ i j, L i → Edge g In q mv i j → L j := by
    intro i j hi he
    by_cases ho : g.owner.getD i 0 = q
    · obtain ⟨k, e1, -, e3⟩ := hL.own i hi ho
      have := he.2.2 ho
      have : j = k := by omega
      rw [this]
      exact e3
    · have h1 := hL.sub i hi
      exact hL.oth i hi ho j he.1 ⟨he.2.1, hA.trapo i h1.1 h1.2 ((hw i h1.1).resolve_right ho) j he.1 he.2.1⟩
  have stB : ∀ i j, B i → Edge g In q mv i j → B j := by
    intro i j hi he
    by_cases hl : L i
    · exact hLB j (stL i j hl he)
    · exact (hB.edge hi hl he).1
  have stV : ∀ i j, V i → Edge g In q mv i j → B j ∨ V j := by
    intro i j hi he
    by_cases hb : B j
    · exact .inl hb
    · exact .inr (hV.stays hi ⟨he.1, ⟨he.2.1, hb⟩, he.2.2⟩)
  refine ⟨fun i hi => hi.elim (hB.sub i) fun h => (hV.sub i h).1, fun i hi ho => ?_, fun i hi ho j h1 h2 => ?_, fun i hi hpi hc => ?_⟩
  · rcases hi with hi | hi
    · by_cases hl : L i
      · obtain ⟨j, e1, e2, e3⟩ := hL.own i hl ho
        exact ⟨j, e1, e2, .inl (hLB j e3)⟩
      · obtain ⟨j, e1, e2, e3, -⟩ := hB.own i hi hl ho
        exact ⟨j, e1, e2, .inl e3⟩
    · obtain ⟨j, e1, e2, e3⟩ := hV.own i hi ho
      exact ⟨j, e1, e2, .inr e3⟩
  · have he : Edge g In q mv i j := ⟨h1, h2, fun h => absurd h ho⟩
    rcases hi with hi | hi
    · exact .inl (stB i j hi he)
    · exact stV i j hi he
  · by_cases hl : L i
    · refine hL.good i hl hpi ?_
      have key : ∀ x y, Path (Edge g In q mv) (fun j => (B j ∨ V j) ∧ g.prio.getD j 0 ≤ g.prio.getD i 0) x y → L x → Path (Edge g (fun i => In i ∧ ¬ A i) q mv) (fun j => L j ∧ g.prio.getD j 0 ≤ g.prio.getD i 0) x y := by
        intro x y h1
        induction h1 with
        | one he hy =>
          intro hx
          have h2 := stL _ _ hx he
          exact .one ⟨he.1, hL.sub _ h2, he.2.2⟩ ⟨h2, hy.2⟩
        | more he hy _ ih =>
          intro hx
          have h2 := stL _ _ hx he
          exact .more ⟨he.1, hL.sub _ h2, he.2.2⟩ ⟨h2, hy.2⟩ (ih h2)
      exact key i i hc hl
    · by_cases hb : B i
      · -- no way back into what was not won: the way gets shorter
        have notL : ∀ x y, Path (Edge g In q mv) (fun j => (B j ∨ V j) ∧ g.prio.getD j 0 ≤ g.prio.getD i 0) x y → ¬ L y → B x → ¬ L x → rk y < rk x := by
          intro x y h1
          induction h1 with
          | one he hy => exact fun _ h2 h3 => (hB.edge h2 h3 he).2
          | @more x y z he hy p ih =>
            intro h2 h3 h4
            obtain ⟨h5, h6⟩ := hB.edge h3 h4 he
            by_cases h7 : L y
            · exact absurd (p.keeps L (fun a b h8 h9 _ => stL a b h8 h9) h7) h2
            · exact Nat.lt_trans (ih h2 h5 h7) h6
        have := notL i i hc hl hb hl
        omega
      · have hv := hi.resolve_left hb
        refine hV.good i hv hpi (hc.avoid B (fun x y h1 h2 _ => stB x y h1 h2) (fun x y h1 h2 h3 h4 => ?_) hb hb)
        exact ⟨⟨h3.1, ⟨h3.2.1, h2⟩, h3.2.2⟩, h4.1.resolve_left h2, h4.2⟩
theorem Attr.congr {g : G} {In T A : Nat → Prop} {p : Int} {mv mv' : Nat → Int} {rk : Nat → Nat} (h : Attr g In T A p mv rk) (hm : ∀ i, A i → ¬ T i → g.owner.getD i 0 = p → mv' i = mv i) : Attr g In T A p mv' rk :=
  ⟨h.sub, h.base, fun i hi ht ho => by rw [hm i hi ht ho]; exact h.own i hi ht ho, h.oth, h.trapo, h.trapn⟩
/-- A part, taken apart between two players. -/
def Solv (g : G) (p q : Int) (In W V : Nat → Prop) : Prop := ∃ mv mv', WinsIn g In p mv W ∧ WinsIn g In q mv' V ∧ ∀ i, In i → W i ∨ V i
theorem Solv.swap {g : G} {p q : Int} {In W V : Nat → Prop} (h : Solv g p q In W V) : Solv g q p In V W := by
  obtain ⟨a, b, h1, h2, h3⟩ := h
  exact ⟨b, a, h2, h1, fun i hi => (h3 i hi).symm⟩
theorem wins_none (g : G) (In : Nat → Prop) (p : Int) (mv : Nat → Int) : WinsIn g In p mv (fun _ => False) := ⟨fun _ h => h.elim, fun _ h => h.elim, fun _ h => h.elim, fun _ h => h.elim⟩
theorem solv_none (g : G) (p q : Int) {In : Nat → Prop} (h : ∀ i, ¬ In i) : Solv g p q In (fun _ => False) (fun _ => False) := ⟨fun _ => 0, fun _ => 0, wins_none g In p _, wins_none g In q _, fun i hi => (h i hi).elim⟩
/-- The top's player wins all. -/
theorem solv_all {g : G} {p q : Int} {In T A W V : Nat → Prop} {mvA : Nat → Int} {rk : Nat → Nat} (hg : Goes g In) (d : Int) (hd : ∀ i, In i → g.prio.getD i 0 ≤ d) (hT : ∀ i, T i ↔ In i ∧ g.prio.getD i 0 = d) (hp : d % 2 = p)
    (hA : Attr g In T A p mvA rk) (hS : Solv g p q (fun i => In i ∧ ¬ A i) W V) (hV : ∀ i, ¬ V i) : Solv g p q In In (fun _ => False) := by
  obtain ⟨mvW, -, hW, -, hc⟩ := hS
  obtain ⟨st, hst⟩ : ∃ st : Nat → Nat, ∀ i, In i → (st i : Int) ∈ g.moves.getD i [] ∧ In (st i) := by
    refine ⟨fun i => open Classical in if h : In i then (hg i h).choose else 0, fun i h => ?_⟩
    simp only [dif_pos h]
    exact (hg i h).choose_spec
  have hW2 : WinsIn g (fun i => In i ∧ ¬ A i) p mvW (fun i => In i ∧ ¬ A i) := hW.iff (fun _ => Iff.rfl) fun i => ⟨fun h => hW.sub i h, fun h => (hc i h).elim id fun h2 => (hV i h2).elim⟩
  refine ⟨fun i => open Classical in if A i then (if T i then (st i : Int) else mvA i) else mvW i, fun _ => 0, ?_, wins_none g In q _, fun i hi => .inl hi⟩
  refine wins_all d hd hT hp (hA.congr fun i h1 h2 _ => ?_) (hW2.congr fun i h1 _ => ?_) (fun i h1 _ => ?_)
  · simp only [if_pos h1, if_neg h2]
  · simp only [if_neg h1.2]
  · have hi := ((hT i).1 h1).1
    simp only [if_pos (hA.base i hi h1), if_pos h1]
    exact ⟨st i, rfl, (hst i hi).1, (hst i hi).2⟩
/-- The other one wins some: what that attracts as well, and what it wins behind it. -/
theorem solv_part {g : G} {p q : Int} {In T A B L V W2 V2 : Nat → Prop} {mvA mvB : Nat → Int} {rkA rkB : Nat → Nat} (hw : ∀ i, In i → g.owner.getD i 0 = p ∨ g.owner.getD i 0 = q)
    (hA : Attr g In T A p mvA rkA) (hS : Solv g p q (fun i => In i ∧ ¬ A i) V L) (hB : Attr g In L B q mvB rkB) (hS2 : Solv g p q (fun i => In i ∧ ¬ B i) W2 V2) : Solv g p q In W2 (fun i => B i ∨ V2 i) := by
  obtain ⟨-, mvL, -, hL, -⟩ := hS
  obtain ⟨mvW, mvV, hW, hV, hc⟩ := hS2
  refine ⟨mvW, fun i => open Classical in if L i then mvL i else if B i then mvB i else mvV i, wins_same hw hB hW, wins_other hw hA (hL.congr fun i h _ => ?_) (hB.congr fun i h1 h2 _ => ?_) (hV.congr fun i h _ => ?_), fun i hi => ?_⟩
  · simp only [if_pos h]
  · simp only [if_neg h2, if_pos h1]
  · have h1 := (hV.sub i h).2
    simp only [if_neg (fun h2 => h1 (hB.base i (hL.sub i h2).1 h2)), if_neg h1]
  · by_cases h : B i
    · exact .inr (.inl h)
    · exact (hc i ⟨hi, h⟩).elim .inl fun h => .inr (.inr h)
/-- The first number of which something is so. -/
theorem least_nat {Q : Nat → Prop} (h : ∃ k, Q k) : ∃ k, Q k ∧ ∀ j, j < k → ¬ Q j := by
  obtain ⟨k, hk⟩ := h
  induction k using Nat.strongRecOn with
  | ind k ih =>
    by_cases hj : ∃ j, j < k ∧ Q j
    · obtain ⟨j, h1, h2⟩ := hj
      exact ih j h1 h2
    · exact ⟨k, hk, fun j h1 h2 => hj ⟨j, h1, h2⟩⟩
/-- One number for all of few. -/
theorem one_for_all {Q : Nat → Nat → Prop} (hm : ∀ k j i, k ≤ j → Q k i → Q j i) : ∀ n, ∃ K, ∀ i, i < n → (∃ k, Q k i) → Q K i
  | 0 => ⟨0, fun i h => absurd h (Nat.not_lt_zero i)⟩
  | n + 1 => by
    obtain ⟨K, hK⟩ := one_for_all hm n
    by_cases h : ∃ k, Q k n
    · obtain ⟨k, hk⟩ := h
      refine ⟨max K k, fun i hi he => ?_⟩
      by_cases e : i = n
      · rw [e]; exact hm k _ n (Nat.le_max_right ..) hk
      · exact hm K _ i (Nat.le_max_left ..) (hK i (by omega) he)
    · refine ⟨K, fun i hi he => ?_⟩
      by_cases e : i = n
      · rw [e] at he; exact absurd he h
      · exact hK i (by omega) he
/-- A part's positions that a player can force its way from, in so many rounds. -/
def Lev (g : G) (In T : Nat → Prop) (p : Int) : Nat → Nat → Prop
  | 0, i => In i ∧ T i
  | k + 1, i => Lev g In T p k i ∨ (In i ∧ g.owner.getD i 0 = p ∧ ∃ j : Nat, (j : Int) ∈ g.moves.getD i [] ∧ Lev g In T p k j) ∨ (In i ∧ g.owner.getD i 0 ≠ p ∧ ∀ j : Nat, (j : Int) ∈ g.moves.getD i [] → In j → Lev g In T p k j)
theorem Lev.mono {g : G} {In T : Nat → Prop} {p : Int} {k j i : Nat} (h : k ≤ j) (hk : Lev g In T p k i) : Lev g In T p j i := by
  induction h with
  | refl => exact hk
  | step _ ih => exact .inl ih
theorem Lev.in_ {g : G} {In T : Nat → Prop} {p : Int} : ∀ {k i : Nat}, Lev g In T p k i → In i
  | 0, _, h => h.1
  | k + 1, i, h => by
    rcases h with h | h | h
    · exact Lev.in_ h
    · exact h.1
    · exact h.1
/-- What is forced in rounds is what a player can force its way from. -/
theorem lev_attr {g : G} {In T A : Nat → Prop} {p : Int} (n : Nat) (hn : ∀ i, In i → i < n) (hA : ∀ i, A i ↔ ∃ k, Lev g In T p k i) : ∃ mv rk, Attr g In T A p mv rk := by
  obtain ⟨K, hK⟩ := one_for_all (Q := Lev g In T p) (fun k j i h1 h2 => h2.mono h1) n
  have hAK : ∀ i, A i ↔ Lev g In T p K i := fun i => ⟨fun h => hK i (by obtain ⟨k, hk⟩ := (hA i).1 h; exact hn i hk.in_) ((hA i).1 h), fun h => (hA i).2 ⟨K, h⟩⟩
  obtain ⟨rk, hrk⟩ : ∃ rk : Nat → Nat, ∀ i, A i → Lev g In T p (rk i) i ∧ ∀ j, j < rk i → ¬ Lev g In T p j i := by
    refine ⟨fun i => open Classical in if h : ∃ k, Lev g In T p k i then (least_nat h).choose else 0, fun i h => ?_⟩
    simp only [dif_pos ((hA i).1 h)]
    exact (least_nat ((hA i).1 h)).choose_spec
  have low : ∀ {k j}, Lev g In T p k j → A j ∧ rk j ≤ k := fun {k j} h => by
    have hj := (hA j).2 ⟨k, h⟩
    refine ⟨hj, ?_⟩
    rcases Nat.lt_or_ge k (rk j) with h2 | h2
    · exact absurd h ((hrk j hj).2 k h2)
    · exact h2
  have step : ∀ i, A i → ¬ T i → (g.owner.getD i 0 = p ∧ ∃ j : Nat, (j : Int) ∈ g.moves.getD i [] ∧ A j ∧ rk j < rk i) ∨ (g.owner.getD i 0 ≠ p ∧ ∀ j : Nat, (j : Int) ∈ g.moves.getD i [] → In j → A j ∧ rk j < rk i) := by
    intro i hi ht
    obtain ⟨h1, h2⟩ := hrk i hi
    obtain ⟨r, hr⟩ : ∃ r, rk i = r := ⟨_, rfl⟩
    rw [hr] at h1 h2 ⊢
    cases r with
    | zero => exact absurd h1.2 ht
    | succ r =>
      rcases h1 with h1 | ⟨h3, h4, j, h5, h6⟩ | ⟨h3, h4, h5⟩
      · exact absurd h1 (h2 r (Nat.lt_succ_self r))
      · exact .inl ⟨h4, j, h5, (low h6).1, Nat.lt_succ_of_le (low h6).2⟩
      · exact .inr ⟨h4, fun j h6 h7 => ⟨(low (h5 j h6 h7)).1, Nat.lt_succ_of_le (low (h5 j h6 h7)).2⟩⟩
  obtain ⟨mv, hmv⟩ : ∃ mv : Nat → Nat, ∀ i, A i → ¬ T i → g.owner.getD i 0 = p → (mv i : Int) ∈ g.moves.getD i [] ∧ A (mv i) ∧ rk (mv i) < rk i := by
    refine ⟨fun i => open Classical in if h : ∃ j : Nat, (j : Int) ∈ g.moves.getD i [] ∧ A j ∧ rk j < rk i then h.choose else 0, fun i h1 h2 h3 => ?_⟩
    rcases step i h1 h2 with ⟨-, h⟩ | ⟨h, -⟩
    · simp only [dif_pos h]
      exact h.choose_spec
    · exact absurd h3 h
  refine ⟨fun i => (mv i : Int), rk, fun i hi => ((hAK i).1 hi).in_, fun i h1 h2 => (hA i).2 ⟨0, h1, h2⟩, fun i h1 h2 h3 => ⟨mv i, rfl, hmv i h1 h2 h3⟩, fun i h1 h2 h3 => ?_, fun i h1 h2 h3 j h4 h5 h6 => ?_, fun i h1 h2 h3 => ?_⟩
  · rcases step i h1 h2 with ⟨h, -⟩ | ⟨-, h⟩
    · exact absurd h h3
    · exact h
  · exact h2 ((hA i).2 ⟨K + 1, .inr (.inl ⟨h1, h3, j, h4, (hAK j).1 h6⟩)⟩)
  · refine Classical.byContradiction fun hc => h2 ((hA i).2 ⟨K + 1, .inr (.inr ⟨h1, h3, fun j h4 h5 => ?_⟩)⟩)
    exact Classical.byContradiction fun h6 => hc ⟨j, h4, h5, fun h7 => h6 ((hAK j).1 h7)⟩
end P
end Go.Proofs.YtghdjkpndhcplaaDoor
