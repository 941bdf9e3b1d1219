/- A game whose positions are numbered the other way round. Plain. -/
import Derived.Test.YtpjmboonaciplaaDoorDecA
namespace Go.Proofs.YtpjmboonaciplaaDoor
namespace P
theorem Path.map {E F : Nat → Nat → Prop} {ok fine : Nat → Prop} (f : Nat → Nat) (hE : ∀ x y, E x y → ok y → F (f x) (f y) ∧ fine (f y)) {x y : Nat} (h : Path E ok x y) : Path F fine (f x) (f y) := by
  induction h with
  | one h hy => exact .one (hE _ _ h hy).1 (hE _ _ h hy).2
  | more h hy _ ih => exact .more (hE _ _ h hy).1 (hE _ _ h hy).2 ih
/-- A position's moves, numbered the other way round. -/
def backRow (n : Nat) (l : List Int) : List Int := (l.map fun m => (n : Int) - 1 - m).reverse
/-- A game, numbered the other way round. -/
def G.back (g : G) (n : Nat) : G := ⟨g.owner.reverse, g.prio.reverse, (g.moves.map (backRow n)).reverse⟩
theorem getD_rev {α : Type} {l : List α} {d : α} {i : Nat} (hi : i < l.length) : l.reverse.getD i d = l.getD (l.length - 1 - i) d := by
  rw [List.getD_eq_getElem?_getD, List.getD_eq_getElem?_getD, List.getElem?_reverse hi]
section
variable {g : G} {n : Nat} (hr : g.Right) (hn : g.owner.length = n)
include hn in
theorem back_own {i : Nat} (hi : i < n) : (g.back n).owner.getD i 0 = g.owner.getD (n - 1 - i) 0 := by
  show g.owner.reverse.getD i 0 = _
  rw [getD_rev (by omega), hn]
include hr hn in
theorem back_prio {i : Nat} (hi : i < n) : (g.back n).prio.getD i 0 = g.prio.getD (n - 1 - i) 0 := by
  have := hr.prio
  show g.prio.reverse.getD i 0 = _
  rw [getD_rev (by omega), show g.prio.length = n by omega]
include hr hn in
theorem back_row {i : Nat} (hi : i < n) : (g.back n).moves.getD i [] = backRow n (g.moves.getD (n - 1 - i) []) := by
  have := hr.moves
  show (g.moves.map (backRow n)).reverse.getD i [] = _
  rw [getD_rev (by rw [List.length_map]; omega), List.length_map, show g.moves.length = n by omega, List.getD_eq_getElem?_getD, List.getD_eq_getElem?_getD, List.getElem?_map, List.getElem?_eq_getElem (by omega)]
  rfl
include hr hn in
theorem back_moves {i j : Nat} (hi : i < n) : (j : Int) ∈ (g.back n).moves.getD i [] ↔ j < n ∧ ((n - 1 - j : Nat) : Int) ∈ g.moves.getD (n - 1 - i) [] := by
  rw [back_row hr hn hi]
  unfold backRow
  rw [List.mem_reverse, List.mem_map]
  constructor
  · rintro ⟨m, h1, h2⟩
    have h3 := hr.moves_in (i := n - 1 - i) (by omega) m h1
    have e : ((n - 1 - j : Nat) : Int) = m := by omega
    exact ⟨by omega, by rw [e]; exact h1⟩
  · rintro ⟨h1, h2⟩
    exact ⟨_, h2, by omega⟩
include hr hn in
theorem back_none {i : Nat} (hi : n ≤ i) : (g.back n).moves.getD i [] = [] := by
  have := hr.moves
  show (g.moves.map (backRow n)).reverse.getD i [] = _
  rw [List.getD_eq_getElem?_getD, List.getElem?_eq_none (by rw [List.length_reverse, List.length_map]; omega)]
  rfl
include hr hn in
theorem WinsIn.back {R : Nat → Prop} {p : Int} {mv : Nat → Int} (h : WinsIn g (· < n) p mv R) : WinsIn (g.back n) (· < n) p (fun i => (n : Int) - 1 - mv (n - 1 - i)) (fun i => i < n ∧ R (n - 1 - i)) := by
  refine ⟨fun i hi => hi.1, fun i hi ho => ?_, fun i hi ho j hj hjn => ?_, fun i hi hpi hc => ?_⟩
  · rw [back_own hn hi.1] at ho
    obtain ⟨j, h1, h2, h3⟩ := h.own _ hi.2 ho
    have hjn : j < n := h.sub j h3
    have e : n - 1 - (n - 1 - j) = j := by omega
    exact ⟨n - 1 - j, by omega, (back_moves hr hn hi.1).2 ⟨by omega, by rw [e]; exact h2⟩, by omega, by rw [e]; exact h3⟩
  · rw [back_own hn hi.1] at ho
    exact ⟨hjn, h.oth _ hi.2 ho _ ((back_moves hr hn hi.1).1 hj).2 (by show n - 1 - j < n; omega)⟩
  · rw [back_prio hr hn hi.1] at hpi hc
    refine h.good _ hi.2 hpi (hc.map (fun x => n - 1 - x) fun x y he hy => ?_)
    have hx : x < n := by
      refine Classical.byContradiction fun hx => ?_
      have := he.1
      rw [back_none hr hn (by omega)] at this
      cases this
    have hyn : y < n := he.2.1
    rw [back_prio hr hn hyn] at hy
    refine ⟨⟨((back_moves hr hn hx).1 he.1).2, by show n - 1 - y < n; omega, fun ho => ?_⟩, hy.1.2, hy.2⟩
    have e1 : (y : Int) = (n : Int) - 1 - mv (n - 1 - x) := he.2.2 (by rw [back_own hn hx]; exact ho)
    show ((n - 1 - y : Nat) : Int) = mv (n - 1 - x)
    omega
include hr hn in
theorem Solved.back {A B : Nat → Prop} (h : Solved g (· < n) A B) : Solved (g.back n) (· < n) (fun i => i < n ∧ A (n - 1 - i)) (fun i => i < n ∧ B (n - 1 - i)) := by
  obtain ⟨m0, m1, h0, h1, h2⟩ := h
  refine ⟨_, _, h0.back hr hn, h1.back hr hn, fun i hi => ?_⟩
  have hi : i < n := hi
  exact (h2 (n - 1 - i) (by show n - 1 - i < n; omega)).imp (fun h => ⟨hi, h⟩) fun h => ⟨hi, h⟩
end
theorem rise_snoc {n : Int} : ∀ {l : List Int} {last x : Int}, (∀ m ∈ l, m < x) → rise n last l = true → x < n → last < x → rise n last (l ++ [x]) = true
  | [], last, x, _, _, h1, h2 => by
    show rise n last [x] = true
    unfold rise rise
    rw [decide_eq_true h2, decide_eq_true h1]
    rfl
  | y :: l, last, x, h, hr, h1, h2 => by
    show rise n last (y :: (l ++ [x])) = true
    unfold rise at hr ⊢
    simp only [Bool.and_eq_true, decide_eq_true_eq] at hr ⊢
    exact ⟨hr.1, hr.2.1, rise_snoc (fun m hm => h m (List.mem_cons_of_mem _ hm)) hr.2.2 h1 (h y (List.mem_cons_self ..))⟩
theorem rise_low {n : Int} : ∀ {l : List Int} {last last' : Int}, (∀ m ∈ l, last' < m) → rise n last l = true → rise n last' l = true
  | [], _, _, _, _ => by unfold rise; rfl
  | y :: l, last, last', h, hr => by
    unfold rise at hr ⊢
    simp only [Bool.and_eq_true, decide_eq_true_eq] at hr ⊢
    exact ⟨h y (List.mem_cons_self ..), hr.2⟩
theorem rise_back {n : Nat} : ∀ {l : List Int} {last : Int}, rise (n : Int) last l = true → -1 ≤ last → rise (n : Int) (-1) (backRow n l) = true
  | [], _, _, _ => by unfold backRow; rfl
  | y :: l, last, h, hl => by
    have h0 := rise_bounds h
    unfold rise at h
    simp only [Bool.and_eq_true, decide_eq_true_eq] at h
    have h1 := rise_back (l := l) h.2.2 (by omega)
    have h2 := rise_bounds h.2.2
    have e : backRow n (y :: l) = backRow n l ++ [(n : Int) - 1 - y] := by unfold backRow; rw [List.map_cons, List.reverse_cons]
    rw [e]
    refine rise_snoc (fun m hm => ?_) h1 (by omega) (by omega)
    unfold backRow at hm
    rw [List.mem_reverse, List.mem_map] at hm
    obtain ⟨z, hz, rfl⟩ := hm
    have := (h2 z hz).1
    omega
theorem G.Right.back {g : G} (hr : g.Right) {n : Nat} (hn : g.owner.length = n) : (g.back n).Right ∧ (g.back n).owner.length = n := by
  have hlen : (g.back n).owner.length = n := by show g.owner.reverse.length = n; rw [List.length_reverse]; exact hn
  refine ⟨⟨?_, ?_, ?_, ?_, fun i hi => ?_⟩, hlen⟩
  · rw [hlen, ← hn]; show g.prio.reverse.length = _; rw [List.length_reverse]; exact hr.prio
  · rw [hlen, ← hn]; show (g.moves.map _).reverse.length = _; rw [List.length_reverse, List.length_map]; exact hr.moves
  · rw [hlen, ← hn]; exact hr.pos
  · rw [hlen, ← hn]; exact hr.many
  · rw [hlen] at hi
    have h4 := hr.at (n - 1 - i) (by omega)
    unfold G.check
    rw [hlen, back_own hn hi, back_prio hr hn hi, back_row hr hn hi]
    unfold P.check
    rw [hn] at h4
    rw [if_neg (by omega), if_neg (by omega), if_neg (by
      unfold backRow
      simpa using h4.2.2.2.1)]
    exact if_pos (rise_back h4.2.2.2.2 (Int.le_refl _))
theorem back_same {g : G} (hr : g.Right) {n : Nat} (hn : g.owner.length = n) {X Y X' Y' : BitVec 256} {c c1 c' c1' : List Int} (hb : ∀ i, Bit (full (n : Int)) i ↔ i < n) (h : Ap g 0 (full (n : Int)) X Y c c1) (h' : Ap (g.back n) 0 (full (n : Int)) X' Y' c' c1') {i : Nat} (hi : i < n) : Bit X i ↔ Bit X' (n - 1 - i) := by
  have hs := (h.solved hb).back hr hn
  have hu := hs.unique n (fun i hi => hi) (fun i hi => by
    have hi : i < n := hi
    rw [back_own hn hi]
    exact (hr.at _ (by omega)).1) (h'.solved hb) (n - 1 - i)
  have e : n - 1 - (n - 1 - i) = i := by omega
  rw [e] at hu
  exact ⟨fun h => hu.1.1 ⟨by omega, h⟩, fun h => (hu.1.2 h).2⟩
end P
end Go.Proofs.YtpjmboonaciplaaDoor
