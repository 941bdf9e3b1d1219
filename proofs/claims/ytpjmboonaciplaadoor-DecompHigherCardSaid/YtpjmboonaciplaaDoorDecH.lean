/- Only the order and the parity of priorities count; a cycle turned to its highest position. Plain. -/
import Derived.Test.YtpjmboonaciplaaDoorDecA
namespace Go.Proofs.YtpjmboonaciplaaDoor
namespace P
/-- The highest position of a way. -/
theorem Path.top {E : Nat → Nat → Prop} {ok : Nat → Prop} (F : Nat → Int) {x y : Nat} (h : Path E ok x y) : ∃ k, ok k ∧ (k = y ∨ Path E (fun j => ok j ∧ F j ≤ F k) k y) ∧ Path E (fun j => ok j ∧ F j ≤ F k) x k := by
  induction h with
  | @one x y he hy => exact ⟨y, hy, .inl rfl, .one he ⟨hy, Int.le_refl _⟩⟩
  | @more x y z he hy p ih =>
    obtain ⟨k, hk, h1, h2⟩ := ih
    by_cases hl : F y ≤ F k
    · exact ⟨k, hk, h1, .more he ⟨hy, hl⟩ h2⟩
    · have up : ∀ j, ok j ∧ F j ≤ F k → ok j ∧ F j ≤ F y := fun j hj => ⟨hj.1, by omega⟩
      have h2' := h2.imp (F := E) (fun _ _ e => e) up
      refine ⟨y, hy, .inr ?_, .one he ⟨hy, Int.le_refl _⟩⟩
      rcases h1 with rfl | h1
      · exact h2'
      · exact h2'.trans (h1.imp (fun _ _ e => e) up)
theorem Path.round {E : Nat → Nat → Prop} {ok : Nat → Prop} (F : Nat → Int) {x : Nat} (h : Path E ok x x) : ∃ k, ok k ∧ Path E (fun j => ok j ∧ F j ≤ F k) k k ∧ F x ≤ F k := by
  obtain ⟨k, hk, h1, h2⟩ := h.top F
  rcases h1 with rfl | h1
  · exact ⟨k, hk, h2, Int.le_refl _⟩
  · exact ⟨k, hk, h1.trans h2, h1.end_.2⟩
/-- Priorities that keep the parities, and turn no order round. -/
theorem WinsIn.order {g g' : G} (ho : g'.owner = g.owner) (hm : g'.moves = g.moves) {In R : Nat → Prop} {p : Int} {mv : Nat → Int} (hpar : ∀ i, In i → g'.prio.getD i 0 % 2 = g.prio.getD i 0 % 2) (hmono : ∀ i j, In i → In j → g.prio.getD i 0 ≤ g.prio.getD j 0 → g'.prio.getD i 0 ≤ g'.prio.getD j 0) (h : WinsIn g In p mv R) : WinsIn g' In p mv R := by
  refine ⟨h.sub, fun i hi ho' => by rw [hm]; exact h.own i hi (by rw [← ho]; exact ho'), fun i hi ho' j hj => h.oth i hi (by rw [← ho]; exact ho') j (by rw [← hm]; exact hj), fun i hi hpi hc => ?_⟩
  have hc' : Path (Edge g In p mv) (fun j => R j ∧ g'.prio.getD j 0 ≤ g'.prio.getD i 0) i i := hc.imp (fun x y e => ⟨by rw [← hm]; exact e.1, e.2.1, fun e2 => e.2.2 (by rw [ho]; exact e2)⟩) fun _ hy => hy
  obtain ⟨k, hk, hp, hik⟩ := hc'.round (fun j => g.prio.getD j 0)
  have hkI := h.sub k hk.1
  have h1 := hmono i k (h.sub i hi) hkI hik
  have h2 : g'.prio.getD k 0 = g'.prio.getD i 0 := Int.le_antisymm hk.2 h1
  refine h.good k hk.1 ?_ (hp.imp (fun _ _ e => e) fun j hj => ⟨hj.1.1, hj.2⟩)
  rw [← hpar k hkI, h2]
  exact hpi
theorem Solved.order {g g' : G} (ho : g'.owner = g.owner) (hm : g'.moves = g.moves) {In A B : Nat → Prop} (hpar : ∀ i, In i → g'.prio.getD i 0 % 2 = g.prio.getD i 0 % 2) (hmono : ∀ i j, In i → In j → g.prio.getD i 0 ≤ g.prio.getD j 0 → g'.prio.getD i 0 ≤ g'.prio.getD j 0) (h : Solved g In A B) : Solved g' In A B := by
  obtain ⟨m0, m1, h0, h1, h2⟩ := h
  exact ⟨m0, m1, h0.order ho hm hpar hmono, h1.order ho hm hpar hmono, h2⟩
/-- Higher by the priorities below that stand in a list, as far as parities turn. -/
def climb (S : List Int) : Nat → Int
  | 0 => 0
  | q + 1 => if decide ((q : Int) ∈ S) = true ∧ climb S q % 2 ≠ (q : Int) % 2 then climb S q + 1 else climb S q
/-- The least priority that keeps order and parities. -/
def fit (S : List Int) (z : Int) : Int := if climb S z.toNat % 2 ≠ z % 2 then climb S z.toNat + 1 else climb S z.toNat
theorem climb_bounds (S : List Int) : ∀ q : Nat, 0 ≤ climb S q ∧ climb S q ≤ q
  | 0 => by unfold climb; omega
  | q + 1 => by
    have := climb_bounds S q
    unfold climb
    split <;> omega
theorem climb_up (S : List Int) (q : Nat) : ∀ d, climb S q ≤ climb S (q + d)
  | 0 => Int.le_refl _
  | d + 1 => by
    have h := climb_up S q d
    have e : climb S (q + (d + 1)) = if decide (((q + d : Nat) : Int) ∈ S) = true ∧ climb S (q + d) % 2 ≠ ((q + d : Nat) : Int) % 2 then climb S (q + d) + 1 else climb S (q + d) := rfl
    rw [e]
    split <;> omega
theorem fit_parity (S : List Int) (z : Int) : fit S z % 2 = z % 2 := by
  unfold fit
  split <;> omega
theorem fit_bounds (S : List Int) {z : Int} (hz : 0 ≤ z) : 0 ≤ fit S z ∧ fit S z ≤ z := by
  have := climb_bounds S z.toNat
  unfold fit
  split <;> omega
theorem fit_mono (S : List Int) {x y : Int} (hx : 0 ≤ x) (hS : x ∈ S) (hxy : x ≤ y) : fit S x ≤ fit S y := by
  by_cases e : x = y
  · rw [e]; exact Int.le_refl _
  · have h1 : fit S x = climb S (x.toNat + 1) := by
      have : ((x.toNat : Nat) : Int) = x := by omega
      show (if climb S x.toNat % 2 ≠ x % 2 then climb S x.toNat + 1 else climb S x.toNat) = if decide (((x.toNat : Nat) : Int) ∈ S) = true ∧ climb S x.toNat % 2 ≠ ((x.toNat : Nat) : Int) % 2 then climb S x.toNat + 1 else climb S x.toNat
      rw [this, decide_eq_true hS]
      simp
    obtain ⟨d, hd⟩ : ∃ d, y.toNat = x.toNat + 1 + d := ⟨y.toNat - x.toNat - 1, by omega⟩
    have h2 := climb_up S (x.toNat + 1) d
    rw [← hd] at h2
    have h3 : climb S y.toNat ≤ fit S y := by
      unfold fit
      split <;> omega
    omega
theorem getD_map' {l : List Int} {f : Int → Int} {i : Nat} (hi : i < l.length) : (l.map f).getD i 0 = f (l.getD i 0) := by
  rw [List.getD_eq_getElem?_getD, List.getD_eq_getElem?_getD, List.getElem?_map, List.getElem?_eq_getElem hi]
  rfl
theorem getD_in {l : List Int} {i : Nat} (hi : i < l.length) : l.getD i 0 ∈ l := by
  rw [List.getD_eq_getElem?_getD, List.getElem?_eq_getElem hi]
  exact List.getElem_mem hi
/-- A right game with other priorities. -/
theorem right_prio {g : G} (hr : g.Right) {f : Int → Int} (hf : ∀ i, i < g.owner.length → 0 ≤ f (g.prio.getD i 0) ∧ f (g.prio.getD i 0) ≤ 7) : (⟨g.owner, g.prio.map f, g.moves⟩ : G).Right where
  prio := by show (g.prio.map f).length = _; rw [List.length_map]; exact hr.prio
  moves := hr.moves
  pos := hr.pos
  many := hr.many
  each i hi := by
    have hi : i < g.owner.length := hi
    have h1 := hf i hi
    have h4 := hr.at i hi
    unfold G.check
    show check _ _ ((g.prio.map f).getD i 0) _ = 0
    rw [getD_map' (by rw [hr.prio]; exact hi)]
    unfold check
    rw [if_neg (by show ¬ (g.owner.getD i 0 ≠ 0 ∧ g.owner.getD i 0 ≠ 1); omega), if_neg (by omega), if_neg h4.2.2.2.1]
    exact if_pos h4.2.2.2.2
/-- A game with a priority too high is none. -/
theorem wrong_prio {g : G} (hr : g.Right) {f : Int → Int} {i : Nat} (hi : i < g.owner.length) (hf : 7 < f (g.prio.getD i 0)) : (⟨g.owner, g.prio.map f, g.moves⟩ : G).ok = false := by
  cases h : (⟨g.owner, g.prio.map f, g.moves⟩ : G).ok
  · rfl
  · have h1 := (((G.ok_iff _).1 h).at i hi).2.2.1
    have h2 : (g.prio.map f).getD i 0 ≤ 7 := h1
    rw [getD_map' (by rw [hr.prio]; exact hi)] at h2
    omega
section
variable {g : G} {n : Nat} {X Y X' Y' : BitVec 256} {c c1 c' c1' : List Int}
/-- The games are parted in one way. -/
theorem prio_same (hr : g.Right) (hn : g.owner.length = n) {f : Int → Int} (hpar : ∀ z, f z % 2 = z % 2) (hmono : ∀ x y, x ∈ g.prio → y ∈ g.prio → x ≤ y → f x ≤ f y)
    (hb : ∀ i, Bit (full (n : Int)) i ↔ i < n) (h : Ap g 0 (full (n : Int)) X Y c c1) (h' : Ap ⟨g.owner, g.prio.map f, g.moves⟩ 0 (full (n : Int)) X' Y' c' c1') : X = X' ∧ Y = Y' := by
  have hpl : g.prio.length = n := by rw [hr.prio, hn]
  have hs := Solved.order (g := g) (g' := ⟨g.owner, g.prio.map f, g.moves⟩) rfl rfl (In := (· < n)) (fun i hi => by
    show (g.prio.map f).getD i 0 % 2 = _
    have hi : i < n := hi
    rw [getD_map' (by omega)]
    exact hpar _) (fun i j hi hj hij => by
    show (g.prio.map f).getD i 0 ≤ (g.prio.map f).getD j 0
    have hi : i < n := hi
    have hj : j < n := hj
    rw [getD_map' (by omega), getD_map' (by omega)]
    exact hmono _ _ (getD_in (by omega)) (getD_in (by omega)) hij) (h.solved hb)
  have hu := fun i => Solved.unique (g := ⟨g.owner, g.prio.map f, g.moves⟩) n (fun i hi => hi) (fun i hi => (hr.at i (by rw [hn]; exact hi)).1) hs (h'.solved hb) i
  exact ⟨set_ext fun x _ => (hu x).1, set_ext fun x _ => (hu x).2⟩
end
end P
end Go.Proofs.YtpjmboonaciplaaDoor
