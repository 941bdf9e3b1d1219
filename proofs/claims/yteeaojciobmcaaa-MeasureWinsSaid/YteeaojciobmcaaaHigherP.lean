/- A game with each priority two more: its tuples are the other game's, each counter one place on. Plain. -/
import Derived.Test.YteeaojciobmcaaaMea
namespace Go.Proofs.Yteeaojciobmcaaa
namespace P
namespace Tup
/-- Each counter one place on; and back. -/
def phi (t : Tup) : Tup := ⟨t.top, 0, t.a, t.b, t.c⟩
def psi (t : Tup) : Tup := ⟨t.top, t.b, t.c, t.d, 0⟩
theorem phi_psi {t : Tup} (h : t.a = 0) : phi (psi t) = t := by
  obtain ⟨t0, t1, t2, t3, t4⟩ := t
  simp only at h
  subst h
  rfl
theorem cmp_phi (s t : Tup) (hs : s.d = 0) (ht : t.d = 0) : cmp (phi s) (phi t) 0 = cmp s t 0 := by
  obtain ⟨s0, s1, s2, s3, s4⟩ := s
  obtain ⟨t0, t1, t2, t3, t4⟩ := t
  simp only at hs ht
  subst hs ht
  cases s0 <;> cases t0 <;> simp [cmp, phi, dig]
theorem le_phi (s t : Tup) (hs : s.d = 0) (ht : t.d = 0) : le (phi s) (phi t) ↔ le s t := by
  rw [← cmp_le, ← cmp_le, cmp_phi s t hs ht]
theorem better_phi (o : Int) (s t : Tup) (hs : s.d = 0) (ht : t.d = 0) : better o (phi s) (phi t) = better o s t := by
  unfold better
  rw [cmp_phi s t hs ht]
theorem up_phi (n t : Tup) (p : Int) (hp : 0 ≤ p) (h5 : p ≤ 5) (hn : n.d = 0) (ht : t.d = 0) : up (phi n) (p + 2) (phi t) = phi (up n p t) ∧ (up n p t).d = 0 := by
  obtain ⟨t0, t1, t2, t3, t4⟩ := t
  obtain ⟨n0, n1, n2, n3, n4⟩ := n
  simp only at hn ht
  subst hn ht
  cases t0
  · have : p = 0 ∨ p = 1 ∨ p = 2 ∨ p = 3 ∨ p = 4 ∨ p = 5 := by omega
    rcases this with rfl | rfl | rfl | rfl | rfl | rfl <;> by_cases h1 : t1 < n1 <;> by_cases h2 : t2 < n2 <;> by_cases h3 : t3 < n3 <;> simp [up, up0, up1, up2, up3, phi, over, h1, h2, h3]
  · exact ⟨rfl, rfl⟩
end Tup
theorem getD_phi (l : List Tup) (j : Nat) : (l.map Tup.phi).getD j .zero = Tup.phi (l.getD j .zero) := by
  rw [List.getD_eq_getElem?_getD, List.getD_eq_getElem?_getD, List.getElem?_map]
  cases l[j]? <;> rfl
theorem pick_phi (n : Tup) (o p : Int) (l : List Tup) (hp : 0 ≤ p) (h5 : p ≤ 5) (hn : n.d = 0) (hl : ∀ j, (l.getD j .zero).d = 0) : ∀ (xs : List Int) (m : Int × Tup), m.2.d = 0 →
    pick (Tup.phi n) o (p + 2) (l.map Tup.phi) xs (m.1, Tup.phi m.2) = ((pick n o p l xs m).1, Tup.phi (pick n o p l xs m).2) ∧ (pick n o p l xs m).2.d = 0
  | [], m, hm => ⟨rfl, hm⟩
  | x :: xs, m, hm => by
    have e : tget (l.map Tup.phi) x = Tup.phi (tget l x) := getD_phi l x.toNat
    obtain ⟨u1, u2⟩ := Tup.up_phi n (tget l x) p hp h5 hn (hl _)
    unfold pick
    rw [e, u1, Tup.better_phi _ _ _ u2 hm]
    by_cases hb : m.1 = -1 ∨ better o (Tup.up n p (tget l x)) m.2 = true
    · rw [if_pos hb, if_pos hb]
      exact pick_phi n o p l hp h5 hn hl xs (x, Tup.up n p (tget l x)) u2
    · rw [if_neg hb, if_neg hb]
      exact pick_phi n o p l hp h5 hn hl xs m hm
/-- The game with each priority two more. -/
def G.higher (g : G) : G := ⟨g.owner, g.prio.map (· + 2), g.moves⟩
theorem count_high (l : List Int) (z : Int) : (l.map (· + 2)).count (z + 2) = l.count z := by
  induction l with
  | nil => rfl
  | cons x l ih =>
    rw [List.map_cons, List.count_cons, List.count_cons, ih]
    congr 1
    by_cases h : x = z
    · rw [h]; simp
    · rw [if_neg (by simp; omega), if_neg (by simpa using h)]
section
variable {g : G} (hr : g.Right) (h5 : ∀ i, i < g.owner.length → g.prio.getD i 0 ≤ 5)
include hr
theorem higher_at {i : Nat} (hi : i < g.owner.length) : g.higher.prio.getD i 0 = g.prio.getD i 0 + 2 := by
  show (g.prio.map (· + 2)).getD i 0 = _
  have : i < g.prio.length := by rw [hr.prio]; exact hi
  rw [List.getD_eq_getElem?_getD, List.getD_eq_getElem?_getD, List.getElem?_map, List.getElem?_eq_getElem this]
  rfl
theorem prio_in : ∀ x ∈ g.prio, ∃ i, i < g.owner.length ∧ g.prio.getD i 0 = x := by
  intro x hx
  obtain ⟨i, hi, e⟩ := List.mem_iff_getElem.1 hx
  refine ⟨i, by rw [← hr.prio]; exact hi, ?_⟩
  rw [List.getD_eq_getElem?_getD, List.getElem?_eq_getElem hi, e]
  rfl
include h5
theorem higher_right : g.higher.Right where
  prio := by show (g.prio.map (· + 2)).length = g.owner.length; rw [List.length_map]; exact hr.prio
  moves := hr.moves
  pos := hr.pos
  many := hr.many
  each := by
    intro i hi
    obtain ⟨a1, a2, a3, a4, a5⟩ := hr.at i hi
    unfold G.check P.check
    rw [higher_at hr hi]
    show (if g.owner.getD i 0 ≠ 0 ∧ g.owner.getD i 0 ≠ 1 then 14 else if _ then 15 else if g.moves.getD i [] = [] then 17 else if rise (g.owner.length : Int) (-1) (g.moves.getD i []) = true then 0 else 16) = 0
    have := h5 i hi
    rw [if_neg (by omega), if_neg (by omega), if_neg a4, if_pos a5]
theorem tups_high : g.higher.tups = Tup.phi g.tups ∧ g.tups.d = 0 := by
  have z7 : g.prio.count 7 = 0 := List.count_eq_zero.2 fun h => by
    obtain ⟨i, hi, e⟩ := prio_in hr 7 h
    have := h5 i hi
    omega
  have z1 : (g.prio.map (· + 2)).count 1 = 0 := List.count_eq_zero.2 fun h => by
    obtain ⟨x, hx, e⟩ := List.mem_map.1 h
    obtain ⟨i, hi, e2⟩ := prio_in hr x hx
    have := (hr.at i hi).2.1
    omega
  refine ⟨?_, ?_⟩
  · show (⟨false, ((g.prio.map (· + 2)).count 1 : Nat), ((g.prio.map (· + 2)).count 3 : Nat), ((g.prio.map (· + 2)).count 5 : Nat), ((g.prio.map (· + 2)).count 7 : Nat)⟩ : Tup) = ⟨false, 0, (g.prio.count 1 : Nat), (g.prio.count 3 : Nat), (g.prio.count 5 : Nat)⟩
    have e3 := count_high g.prio 1
    have e5 := count_high g.prio 3
    have e7 := count_high g.prio 5
    rw [show (1 : Int) + 2 = 3 from rfl] at e3
    rw [show (3 : Int) + 2 = 5 from rfl] at e5
    rw [show (5 : Int) + 2 = 7 from rfl] at e7
    rw [z1, e3, e5, e7]
    rfl
  · show ((g.prio.count 7 : Nat) : Int) = 0
    rw [z7]
    rfl
theorem choose_high {l : List Tup} (hl : ∀ j, (l.getD j .zero).d = 0) {i : Nat} (hi : i < g.owner.length) : (g.higher.choose (l.map Tup.phi) i).2 = Tup.phi (g.choose l i).2 ∧ (g.choose l i).2.d = 0 := by
  obtain ⟨t1, t2⟩ := tups_high hr h5
  have h := pick_phi g.tups (g.owner.getD i 0) (g.prio.getD i 0) l (hr.at i hi).2.1 (h5 i hi) t2 hl (g.moves.getD i []) (-1, .zero) rfl
  unfold G.choose
  rw [higher_at hr hi, t1]
  exact ⟨congrArg Prod.snd h.1, h.2⟩
theorem fixed_high {l : List Tup} (hl : ∀ j, (l.getD j .zero).d = 0) : Fixed g.higher (l.map Tup.phi) ↔ Fixed g l := by
  have key : ∀ i, i < g.owner.length → (Tup.le (g.higher.choose (l.map Tup.phi) i).2 ((l.map Tup.phi).getD i .zero) ↔ Tup.le (g.choose l i).2 (l.getD i .zero)) := by
    intro i hi
    obtain ⟨c1, c2⟩ := choose_high hr h5 hl hi
    rw [c1, getD_phi, Tup.le_phi _ _ c2 (hl i)]
  exact ⟨fun h i hi => (key i hi).1 (h i hi), fun h i hi => (key i hi).2 (h i hi)⟩
theorem high_of {m : List Tup} (hm : Rng g.higher m) : (m.map Tup.psi).map Tup.phi = m ∧ Rng g (m.map Tup.psi) ∧ ∀ j, ((m.map Tup.psi).getD j .zero).d = 0 := by
  obtain ⟨t1, t2⟩ := tups_high hr h5
  have gp : ∀ j, (m.map Tup.psi).getD j .zero = Tup.psi (m.getD j .zero) := by
    intro j
    rw [List.getD_eq_getElem?_getD, List.getD_eq_getElem?_getD, List.getElem?_map]
    cases m[j]? <;> rfl
  have hin : ∀ j, j < g.owner.length → Tup.inR (Tup.phi g.tups) (m.getD j .zero) := by
    intro j hj
    rw [← t1]
    exact hm.2 j hj
  refine ⟨?_, ⟨by rw [List.length_map]; exact hm.1, fun j hj => ?_⟩, fun j => by rw [gp]; rfl⟩
  · rw [List.map_map]
    apply List.ext_getElem (by rw [List.length_map])
    intro i h1 h2
    rw [List.getElem_map]
    have hi : i < g.owner.length := by have := hm.1; show i < g.higher.owner.length; omega
    have h := hin i hi
    rw [List.getD_eq_getElem?_getD, List.getElem?_eq_getElem h2, Option.getD_some] at h
    apply Tup.phi_psi
    unfold Tup.inR Tup.phi at h
    simp only at h
    omega
  · rw [gp]
    have h := hin j hj
    have h0 := g.tups_inR
    unfold Tup.inR Tup.phi at h
    unfold Tup.inR at h0 ⊢
    unfold Tup.psi
    simp only at h ⊢
    omega
/-- What lifting ends in, there. -/
theorem sol_high {l : List Tup} (h : IsSol g l) : IsSol g.higher (l.map Tup.phi) := by
  obtain ⟨t1, t2⟩ := tups_high hr h5
  have hl : ∀ j, (l.getD j .zero).d = 0 := by
    intro j
    rcases Nat.lt_or_ge j g.owner.length with hj | hj
    · have := (h.1.2.1 j hj).1
      unfold Tup.inR at this
      omega
    · rw [List.getD_eq_getElem?_getD, List.getElem?_eq_none (by rw [h.1.1]; exact hj)]
      rfl
  refine ⟨⟨by rw [List.length_map]; exact h.1.1, fun i hi => ?_, fun m hm hf i hi => ?_⟩, (fixed_high hr h5 hl).2 h.2⟩
  · rw [getD_phi, t1]
    obtain ⟨a1, a2⟩ := h.1.2.1 i hi
    refine ⟨?_, fun ht => by rw [a2 ht]; rfl⟩
    unfold Tup.inR at a1 ⊢
    unfold Tup.phi
    simp only
    omega
  · obtain ⟨e, hr2, hd⟩ := high_of hr h5 hm
    rw [← e] at hf ⊢
    rw [getD_phi, getD_phi, Tup.le_phi _ _ (hl i) (hd i)]
    exact h.1.2.2 _ hr2 ((fixed_high hr h5 hd).1 hf) i hi
end
/-- The first k of a list two more. -/
def raise : Nat → List Int → List Int
  | 0, l => l
  | _ + 1, [] => []
  | k + 1, x :: l => (x + 2) :: raise k l
theorem raise_len : ∀ (k : Nat) (l : List Int), (raise k l).length = l.length
  | 0, _ => rfl
  | _ + 1, [] => rfl
  | k + 1, x :: l => by rw [raise, List.length_cons, List.length_cons, raise_len k l]
theorem raise_at : ∀ (k : Nat) (l : List Int) (j : Nat), k ≤ j → (raise k l)[j]? = l[j]?
  | 0, _, _, _ => rfl
  | _ + 1, [], _, _ => rfl
  | k + 1, x :: l, 0, h => absurd h (by omega)
  | k + 1, x :: l, j + 1, h => by rw [raise, List.getElem?_cons_succ, List.getElem?_cons_succ, raise_at k l j (by omega)]
theorem raise_set : ∀ (k : Nat) (l : List Int), k < l.length → (raise k l).set k (l.getD k 0 + 2) = raise (k + 1) l
  | 0, x :: l, _ => rfl
  | k + 1, x :: l, h => by rw [raise, List.set_cons_succ, List.getD_cons_succ, raise_set k l (by simpa using h), ← raise.eq_3]
theorem raise_all : ∀ (l : List Int), raise l.length l = l.map (· + 2)
  | [] => rfl
  | x :: l => by rw [List.length_cons, raise, raise_all l, List.map_cons]
end P
end Go.Proofs.Yteeaojciobmcaaa
