/- Lifting until nobody waits ends in what stands. Plain. -/
import Derived.Test.YteeaojciobmcaaaLifP
namespace Go.Proofs.Yteeaojciobmcaaa
namespace P
theorem unmet_congr {M K : Nat → Bool} : ∀ {n : Nat}, (∀ y, y < n → M y = K y) → unmet M n = unmet K n
  | 0, _ => rfl
  | n + 1, h => by
    unfold unmet
    rw [unmet_congr (n := n) fun y hy => h y (by omega), h n (by omega)]
/-- How many wait. -/
def waiting (Wt : Nat → Bool) (n : Nat) : Nat := unmet (fun y => !Wt y) n
theorem waiting_le (Wt : Nat → Bool) (n : Nat) : waiting Wt n ≤ n := unmet_le _ n
theorem waiting_off {Wt Wt' : Nat → Bool} {n k : Nat} (hk : k < n) (h : Wt k = true) (h2 : ∀ y, Wt' y = if y = k then false else Wt y) : waiting Wt' n + 1 = waiting Wt n := by
  have h1 := unmet_mark (M := fun y => !Wt y) (i := k) (by show (!Wt k) = false; rw [h]; rfl) n hk
  have e : unmet (fun y => !Wt' y) n = unmet (mark (fun y => !Wt y) k) n := unmet_congr fun y _ => by
    show (!Wt' y) = mark _ k y
    rw [h2]
    unfold mark
    by_cases e : y = k
    · rw [if_pos e, if_pos e]; rfl
    · rw [if_neg e, if_neg e]
  unfold waiting
  omega
/-- What holds while lifting goes on. -/
structure SInv (g : G) (m : Nat → Int) (l : List Tup) (Wt : Nat → Bool) (next : Nat) : Prop where
  low : Low g l
  ahead : ∀ y, y < next → Wt y = false
  rest : ∀ (i y : Nat), i < g.owner.length → m i = (y : Int) → Wt y = false → Rest g l i
theorem SInv.start (g : G) (m : Nat → Int) (Wt : Nat → Bool) (n : Nat) (hm : ∀ i, i < g.owner.length → ∃ y : Nat, y < n ∧ m i = (y : Int)) (hW : ∀ y, y < n → Wt y = true) : SInv g m (List.replicate g.owner.length .zero) Wt 0 :=
  ⟨zero_low, fun y hy => absurd hy (Nat.not_lt_zero y), fun i y hi hy h => by
    obtain ⟨z, hz, e⟩ := hm i hi
    have : z = y := by omega
    rw [hW y (by omega)] at h
    cases h⟩
theorem SInv.skip {g : G} {m : Nat → Int} {l : List Tup} {Wt : Nat → Bool} {next : Nat} (h : SInv g m l Wt next) (h1 : Wt next = false) : SInv g m l Wt (next + 1) :=
  ⟨h.low, fun y hy => by
    by_cases e : y = next
    · rw [e]; exact h1
    · exact h.ahead y (by omega), h.rest⟩
theorem SInv.same {g : G} {m : Nat → Int} {l : List Tup} {Wt Wt' : Nat → Bool} {k x : Nat} (h : SInv g m l Wt k) (hr : Rest g l x) (hx : ∀ i, i < g.owner.length → m i = (k : Int) → i = x) (h2 : ∀ y, Wt' y = if y = k then false else Wt y) : SInv g m l Wt' k :=
  ⟨h.low, fun y hy => by rw [h2, if_neg (by omega)]; exact h.ahead y hy, fun i y hi hy hw => by
    rw [h2] at hw
    by_cases e : y = k
    · rw [hx i hi (by rw [hy, e])]
      exact hr
    · rw [if_neg e] at hw
      exact h.rest i y hi hy hw⟩
theorem SInv.lifted {g : G} (hg : g.Right) {m : Nat → Int} {l : List Tup} {Wt Wt' : Nat → Bool} {k x first : Nat} {bs : List Int} (h : SInv g m l Wt k) (hxn : x < g.owner.length) (hx : ∀ i, i < g.owner.length → m i = (k : Int) → i = x)
    (hf : first ≤ k) (h1 : ∀ y, y < first → Wt' y = true → Wt y = true) (h2 : ∀ y, Wt' y = false → (y = k ∨ Wt y = false) ∧ ∀ z ∈ bs, m z.toNat ≠ (y : Int)) (hbs : ∀ i, i < g.owner.length → (x : Int) ∈ g.moves.getD i [] → (i : Int) ∈ bs) :
    SInv g m (l.set x (g.choose l x).2) Wt' first := by
  refine ⟨h.low.lifted hg hxn, fun y hy => ?_, fun i y hi hy hw => ?_⟩
  · cases hw : Wt' y with
    | false => rfl
    | true =>
      have := h1 y hy hw
      rw [h.ahead y (by omega)] at this
      cases this
  · obtain ⟨h3, h4⟩ := h2 y hw
    refine Rest.lifted hg h.low.1 hxn hi (fun hm => ?_) ?_
    · have := h4 (i : Int) (hbs i hi hm)
      rw [Int.toNat_natCast] at this
      exact this hy
    · rcases h3 with h3 | h3
      · exact .inl (hx i hi (by rw [hy, h3]))
      · exact .inr (h.rest i y hi hy h3)
theorem SInv.done {g : G} {m : Nat → Int} {l : List Tup} {Wt : Nat → Bool} {n : Nat} (h : SInv g m l Wt n) (hm : ∀ i, i < g.owner.length → ∃ y : Nat, y < n ∧ m i = (y : Int)) : IsSol g l :=
  ⟨h.low, fun i hi => by
    obtain ⟨y, hy, e⟩ := hm i hi
    exact h.rest i y hi e (h.ahead y hy)⟩
/-- Where positions stand. -/
theorem Order.places {n : Nat} {O : List Nat} (hO : Order n O) {m : Nat → Int} (hm : ∀ (i x : Nat), O[i]? = some x → m x = i) : ∀ x, x < n → ∃ y : Nat, y < n ∧ m x = (y : Int) ∧ O[y]? = some x := by
  intro x hx
  obtain ⟨i, hi⟩ := List.getElem?_of_mem ((hO.2 x).2 hx)
  have := (List.getElem?_eq_some_iff.1 hi).1
  rw [hO.len] at this
  exact ⟨i, this, hm i x hi, hi⟩
theorem measure_lt {s s' n a a' b b' : Nat} (h : s' < s) (ha : a' ≤ n) (hb : b' ≤ n) : s' * (2 * n + 1) + (a' + b') < s * (2 * n + 1) + (a + b) := by
  have := Nat.mul_le_mul_right (2 * n + 1) (show s' + 1 ≤ s from h)
  rw [Nat.add_mul, Nat.one_mul] at this
  omega
end P
end Go.Proofs.Yteeaojciobmcaaa
