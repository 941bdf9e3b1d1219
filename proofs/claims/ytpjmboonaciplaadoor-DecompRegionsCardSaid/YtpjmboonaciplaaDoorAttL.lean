/- What the document's Attract answers, as a set that a player can force its way into; a part of a game given by truths. Plain. -/
import Derived.Test.YtpjmboonaciplaaDoorParP
import Derived.Test.YtpjmboonaciplaaDoorAttA
import Derived.Test.YtpjmboonaciplaaDoorBools
namespace Go.Proofs.YtpjmboonaciplaaDoor
namespace P
/-- The positions that are so. -/
def inF (g : G) (f : Nat → Bool) (i : Nat) : Prop := i < g.owner.length ∧ f i = true
theorem att_attr {g : G} (hr : g.Right) {p : Int} (f t a : Nat → Bool) (hg : Goes g (inF g f))
    (hA : ∀ i, i < g.owner.length → (a i = true ↔ Att g (setK f g.owner.length) p (setK t g.owner.length) i)) : ∃ mv rk, Attr g (inF g f) (inF g t) (inF g a) p mv rk := by
  have hm := hr.many
  have hI : ∀ (f : Nat → Bool) i, (setK f g.owner.length).getLsbD i = true ↔ inF g f i := by
    intro f i
    rw [setK_bit f _ (by omega) i, Bool.and_eq_true, decide_eq_true_eq]
    exact Iff.rfl
  refine lev_attr g.owner.length (fun i hi => hi.1) fun i => ?_
  constructor
  · rintro ⟨hi, h⟩
    replace h := (hA i hi).1 h
    clear hA hi
    induction h with
    | base i h1 h2 h3 => exact ⟨0, (hI f i).1 h2, (hI t i).1 h3⟩
    | own i m h1 h2 h3 h4 h5 _ ih =>
      obtain ⟨k, hk⟩ := ih
      exact ⟨k + 1, .inr (.inl ⟨(hI f i).1 h2, h3, m, h4, hk⟩)⟩
    | oth i h1 h2 h3 h4 _ ih =>
      obtain ⟨K, hK⟩ := one_for_all (Q := Lev g (inF g f) (inF g t) p) (fun k j i h1 h2 => h2.mono h1) g.owner.length
      exact ⟨K + 1, .inr (.inr ⟨(hI f i).1 h2, h3, fun j h5 h6 => hK j h6.1 (ih j h5 ((hI f j).2 h6))⟩)⟩
  · rintro ⟨k, hk⟩
    have hi := hk.in_.1
    refine ⟨hi, (hA i hi).2 ?_⟩
    clear hA hi
    induction k generalizing i with
    | zero => exact .base i hk.1.1 ((hI f i).2 hk.1) ((hI t i).2 hk.2)
    | succ k ih =>
      rcases hk with hk | ⟨h1, h2, j, h3, h4⟩ | ⟨h1, h2, h3⟩
      · exact ih i hk
      · exact .own i j h1.1 ((hI f i).2 h1) h2 h3 ((hI f j).2 h4.in_) (ih j h4)
      · obtain ⟨j, e1, e2⟩ := hg i h1
        exact .oth i h1.1 ((hI f i).2 h1) h2 ⟨j, e1, (hI f j).2 e2⟩ fun m h4 h5 => ih m (h3 m h4 ((hI f m).1 h5))
/-- How many are so. -/
def cntF (g : G) (f : Nat → Bool) : Nat := (List.range g.owner.length).countP f
theorem cntF_less {g : G} {f a : Nat → Bool} {i : Nat} (h : inF g f i) (ha : a i = true) : cntF g (fun j => f j && !a j) < cntF g f := by
  unfold cntF
  have := countP_lt (p := fun j => f j && !a j) (q := f) (List.range g.owner.length) (fun x _ hx => by rw [Bool.and_eq_true] at hx; exact hx.1) ⟨i, List.mem_range.2 h.1, by rw [ha]; simp, h.2⟩
  omega
theorem inF_less (g : G) (f a : Nat → Bool) (i : Nat) : inF g (fun j => f j && !a j) i ↔ inF g f i ∧ ¬ inF g a i := by
  unfold inF
  rw [Bool.and_eq_true]
  constructor
  · rintro ⟨h1, h2, h3⟩
    exact ⟨⟨h1, h2⟩, fun h => by rw [h.2] at h3; cases h3⟩
  · rintro ⟨⟨h1, h2⟩, h3⟩
    refine ⟨h1, h2, ?_⟩
    cases ha : a i
    · rfl
    · exact absurd ⟨h1, ha⟩ h3
theorem Goes.less {g : G} {f a : Nat → Bool} {T : Nat → Prop} {p : Int} {mv : Nat → Int} {rk : Nat → Nat} (hA : Attr g (inF g f) T (inF g a) p mv rk) (hg : Goes g (inF g f)) : Goes g (inF g (fun j => f j && !a j)) := by
  have h := hA.goes hg
  intro i hi
  obtain ⟨j, e1, e2⟩ := h i ((inF_less g f a i).1 hi)
  exact ⟨j, e1, (inF_less g f a j).2 e2⟩
theorem Solv.iff {g : G} {p q : Int} {In In' W W' V V' : Nat → Prop} (h : Solv g p q In W V) (hi : ∀ i, In i ↔ In' i) (hw : ∀ i, W i ↔ W' i) (hv : ∀ i, V i ↔ V' i) : Solv g p q In' W' V' := by
  obtain ⟨a, b, h1, h2, h3⟩ := h
  exact ⟨a, b, h1.iff hi hw, h2.iff hi hv, fun i hi2 => (h3 i ((hi i).2 hi2)).imp (hw i).1 (hv i).1⟩
/-- Taken apart, as truths: x is player 0's. -/
def SolB (g : G) (f x y : Nat → Bool) : Prop := Solv g 0 1 (inF g f) (inF g x) (inF g y)
/-- .. as the top's player p sees it: its own and the other's. -/
def SolQ (g : G) (p : Int) (f x y : Nat → Bool) : Prop := Solv g p (1 - p) (inF g f) (inF g x) (inF g y)
theorem solB_q {g : G} {f x y : Nat → Bool} {p : Int} (hp : p = 0 ∨ p = 1) (h : SolB g f x y) : SolQ g p f (if p = 1 then y else x) (if p = 1 then x else y) := by
  rcases hp with rfl | rfl
  · exact h
  · exact h.swap
theorem solq_b {g : G} {f x y : Nat → Bool} {p : Int} (hp : p = 0 ∨ p = 1) (h : SolQ g p f x y) : SolB g f (if p = 1 then y else x) (if p = 1 then x else y) := by
  rcases hp with rfl | rfl
  · exact h
  · exact h.swap
theorem solq_none {g : G} {f : Nat → Bool} (h : ∀ i, i < g.owner.length → f i = false) : SolB g f (fun _ => false) (fun _ => false) :=
  (solv_none g 0 1 (In := inF g f) fun i hi => by have h3 := hi.2; rw [h i hi.1] at h3; cases h3).iff (fun _ => Iff.rfl) (fun i => ⟨fun h => h.elim, fun h => absurd h.2 (by simp)⟩) (fun i => ⟨fun h => h.elim, fun h => absurd h.2 (by simp)⟩)
theorem solq_all {g : G} (hr : g.Right) {p z : Int} {f t a x y : Nat → Bool} (hg : Goes g (inF g f)) (hz : ∀ i, inF g f i → g.prio.getD i 0 ≤ z) (hp : z % 2 = p) (ht : ∀ i, i < g.owner.length → t i = (f i && decide (g.prio.getD i 0 = z)))
    (hA : ∀ i, i < g.owner.length → (a i = true ↔ Att g (setK f g.owner.length) p (setK t g.owner.length) i)) (hS : SolQ g p (fun j => f j && !a j) x y) (hy : ∀ i, i < g.owner.length → y i = false) : SolQ g p f f (fun _ => false) := by
  obtain ⟨mv, rk, hAt⟩ := att_attr hr f t a hg hA
  have hT : ∀ i, inF g t i ↔ inF g f i ∧ g.prio.getD i 0 = z := by
    intro i
    constructor
    · rintro ⟨h1, h2⟩
      rw [ht i h1, Bool.and_eq_true, decide_eq_true_eq] at h2
      exact ⟨⟨h1, h2.1⟩, h2.2⟩
    · rintro ⟨h1, h2⟩
      exact ⟨h1.1, by rw [ht i h1.1, h1.2, decide_eq_true h2]; rfl⟩
  have h2 : Solv g p (1 - p) (fun i => inF g f i ∧ ¬ inF g a i) (inF g x) (inF g y) := Solv.iff hS (inF_less g f a) (fun _ => Iff.rfl) (fun _ => Iff.rfl)
  have h3 := solv_all hg z hz hT hp hAt h2 (fun i hi => by have h3 := hi.2; rw [hy i hi.1] at h3; cases h3)
  exact h3.iff (fun _ => Iff.rfl) (fun _ => Iff.rfl) (fun i => ⟨fun h => h.elim, fun h => absurd h.2 (by simp)⟩)
theorem solq_part {g : G} (hr : g.Right) {p : Int} (hp : p = 0 ∨ p = 1) {f t a b x y x2 y2 : Nat → Bool} (hg : Goes g (inF g f))
    (hA : ∀ i, i < g.owner.length → (a i = true ↔ Att g (setK f g.owner.length) p (setK t g.owner.length) i)) (hS : SolQ g p (fun j => f j && !a j) x y)
    (hB : ∀ i, i < g.owner.length → (b i = true ↔ Att g (setK f g.owner.length) (1 - p) (setK y g.owner.length) i)) (hS2 : SolQ g p (fun j => f j && !b j) x2 y2) : SolQ g p f (fun i => !b i && x2 i) (fun i => b i || y2 i) := by
  obtain ⟨mv, rk, hAt⟩ := att_attr hr f t a hg hA
  obtain ⟨mv2, rk2, hBt⟩ := att_attr hr f y b hg hB
  have hw : ∀ i, inF g f i → g.owner.getD i 0 = p ∨ g.owner.getD i 0 = 1 - p := by
    intro i hi
    have := (hr.at i hi.1).1
    omega
  have h2 : Solv g p (1 - p) (fun i => inF g f i ∧ ¬ inF g a i) (inF g x) (inF g y) := Solv.iff hS (inF_less g f a) (fun _ => Iff.rfl) (fun _ => Iff.rfl)
  have h3 : Solv g p (1 - p) (fun i => inF g f i ∧ ¬ inF g b i) (inF g x2) (inF g y2) := Solv.iff hS2 (inF_less g f b) (fun _ => Iff.rfl) (fun _ => Iff.rfl)
  have hx2 : ∀ i, inF g x2 i → ¬ inF g b i := by
    obtain ⟨_, _, h4, -, -⟩ := h3
    exact fun i hi => (h4.sub i hi).2
  have h5 := solv_part hw hAt h2 hBt h3
  refine h5.iff (fun _ => Iff.rfl) (fun i => ?_) (fun i => ?_)
  · constructor
    · intro h
      have := hx2 i h
      refine ⟨h.1, ?_⟩
      cases hb : b i
      · show (!b i && x2 i) = true
        rw [hb, h.2]; rfl
      · exact absurd ⟨h.1, hb⟩ this
    · rintro ⟨h1, h2⟩
      rw [Bool.and_eq_true] at h2
      exact ⟨h1, h2.2⟩
  · unfold inF
    rw [Bool.or_eq_true]
    constructor
    · rintro (⟨h1, h2⟩ | ⟨h1, h2⟩)
      · exact ⟨h1, .inl h2⟩
      · exact ⟨h1, .inr h2⟩
    · rintro ⟨h1, h2 | h2⟩
      · exact .inl ⟨h1, h2⟩
      · exact .inr ⟨h1, h2⟩
theorem solq_sub {g : G} {p : Int} {f a x y : Nat → Bool} (h : SolQ g p (fun j => f j && !a j) x y) (i : Nat) (hi : i < g.owner.length) (hy : y i = true) : inF g f i := by
  obtain ⟨_, _, -, h2, -⟩ := h
  exact ((inF_less g f a i).1 (h2.sub i ⟨hi, hy⟩)).1
end P
end Go.Proofs.YtpjmboonaciplaaDoor
