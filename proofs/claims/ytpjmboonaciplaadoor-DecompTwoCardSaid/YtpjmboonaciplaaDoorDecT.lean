/- Two games side by side. Plain. -/
import Derived.Test.YtpjmboonaciplaaDoorDecM
namespace Go.Proofs.YtpjmboonaciplaaDoor
namespace P
/-- A position's moves, so much further on. -/
def farRow (n : Nat) (l : List Int) : List Int := l.map fun m => m + (n : Int)
/-- A game, and another one behind it. -/
def G.beside (g h : G) : G := ⟨g.owner ++ h.owner, g.prio ++ h.prio, g.moves ++ h.moves.map (farRow g.owner.length)⟩
theorem getD_left {α : Type} {l m : List α} {d : α} {i : Nat} (hi : i < l.length) : (l ++ m).getD i d = l.getD i d := by
  rw [List.getD_eq_getElem?_getD, List.getD_eq_getElem?_getD, List.getElem?_append_left hi]
theorem getD_right {α : Type} {l m : List α} {d : α} {i : Nat} (hi : l.length ≤ i) : (l ++ m).getD i d = m.getD (i - l.length) d := by
  rw [List.getD_eq_getElem?_getD, List.getD_eq_getElem?_getD, List.getElem?_append_right hi]
section
variable {g h : G} {n k : Nat} (hr : g.Right) (hn : g.owner.length = n) (kr : h.Right) (hk : h.owner.length = k)
include hn in
theorem side_own0 {i : Nat} (hi : i < n) : (g.beside h).owner.getD i 0 = g.owner.getD i 0 := getD_left (by omega)
include hn in
theorem side_own1 {i : Nat} (hi : n ≤ i) : (g.beside h).owner.getD i 0 = h.owner.getD (i - n) 0 := by
  show (g.owner ++ h.owner).getD i 0 = _
  rw [getD_right (by omega), hn]
include hr hn in
theorem side_prio0 {i : Nat} (hi : i < n) : (g.beside h).prio.getD i 0 = g.prio.getD i 0 := getD_left (by rw [hr.prio]; omega)
include hr hn in
theorem side_prio1 {i : Nat} (hi : n ≤ i) : (g.beside h).prio.getD i 0 = h.prio.getD (i - n) 0 := by
  show (g.prio ++ h.prio).getD i 0 = _
  rw [getD_right (by rw [hr.prio]; omega), hr.prio, hn]
include hr hn in
theorem side_row0 {i : Nat} (hi : i < n) : (g.beside h).moves.getD i [] = g.moves.getD i [] := getD_left (by rw [hr.moves]; omega)
include hr hn in
theorem side_row1 {i : Nat} (hi : n ≤ i) : (g.beside h).moves.getD i [] = farRow n (h.moves.getD (i - n) []) := by
  show (g.moves ++ h.moves.map (farRow g.owner.length)).getD i [] = _
  rw [getD_right (by rw [hr.moves]; omega), hr.moves, hn, List.getD_eq_getElem?_getD, List.getD_eq_getElem?_getD, List.getElem?_map]
  cases h.moves[i - n]? <;> rfl
include hr hn kr hk in
theorem side_moves1 {i j : Nat} (hi : n ≤ i) (hik : i < n + k) : (j : Int) ∈ (g.beside h).moves.getD i [] ↔ n ≤ j ∧ ((j - n : Nat) : Int) ∈ h.moves.getD (i - n) [] := by
  rw [side_row1 hr hn hi]
  unfold farRow
  rw [List.mem_map]
  constructor
  · rintro ⟨m, h1, h2⟩
    have h3 := kr.moves_in (i := i - n) (by omega) m h1
    have e : ((j - n : Nat) : Int) = m := by omega
    exact ⟨by omega, by rw [e]; exact h1⟩
  · rintro ⟨h1, h2⟩
    exact ⟨_, h2, by omega⟩
include hr hn kr hk in
theorem side_none {i : Nat} (hi : n + k ≤ i) : (g.beside h).moves.getD i [] = [] := by
  rw [side_row1 hr hn (by omega)]
  have := kr.moves
  rw [List.getD_eq_getElem?_getD, List.getElem?_eq_none (by omega)]
  rfl
include hr hn kr hk in
theorem WinsIn.beside {R S : Nat → Prop} {p : Int} {mv mv' : Nat → Int} (h1 : WinsIn g (· < n) p mv R) (h2 : WinsIn h (· < k) p mv' S) : WinsIn (g.beside h) (· < n + k) p (fun i => if i < n then mv i else mv' (i - n) + n) (fun i => if i < n then R i else S (i - n)) := by
  have inR : ∀ {i}, R i → i < n := fun {i} hi => h1.sub i hi
  have inS : ∀ {i}, S i → i < k := fun {i} hi => h2.sub i hi
  have moves0 : ∀ {i j : Nat}, i < n → (j : Int) ∈ (g.beside h).moves.getD i [] → (j : Int) ∈ g.moves.getD i [] ∧ j < n := fun {i j} hi hj => by
    rw [side_row0 hr hn hi] at hj
    have := hr.moves_in (i := i) (by omega) _ hj
    exact ⟨hj, by omega⟩
  have moves1 : ∀ {i j : Nat}, ¬ i < n → (j : Int) ∈ (g.beside h).moves.getD i [] → i < n + k ∧ n ≤ j ∧ ((j - n : Nat) : Int) ∈ h.moves.getD (i - n) [] ∧ j - n < k := fun {i j} hi hj => by
    have hik : i < n + k := by
      refine Classical.byContradiction fun hc => ?_
      rw [side_none hr hn kr hk (by omega)] at hj
      cases hj
    have h3 := (side_moves1 hr hn kr hk (by omega) hik).1 hj
    have := kr.moves_in (i := i - n) (by omega) _ h3.2
    exact ⟨hik, h3.1, h3.2, by omega⟩
  refine ⟨fun i hi => ?_, fun i hi ho => ?_, fun i hi ho j hj hjn => ?_, fun i hi hpi hc => ?_⟩
  · show i < n + k
    by_cases e : i < n
    · omega
    · have hi : (if i < n then R i else S (i - n)) := hi
      rw [if_neg e] at hi
      have := inS hi
      omega
  · show ∃ j : Nat, (j : Int) = (if i < n then mv i else mv' (i - n) + n) ∧ _ ∧ (if j < n then R j else S (j - n))
    have hi : (if i < n then R i else S (i - n)) := hi
    by_cases e : i < n
    · rw [if_pos e] at hi
      rw [side_own0 hn e] at ho
      obtain ⟨j, e1, e2, e3⟩ := h1.own i hi ho
      exact ⟨j, by rw [if_pos e]; exact e1, by rw [side_row0 hr hn e]; exact e2, by rw [if_pos (inR e3)]; exact e3⟩
    · rw [if_neg e] at hi
      rw [side_own1 hn (by omega)] at ho
      obtain ⟨j, e1, e2, e3⟩ := h2.own _ hi ho
      have hik := inS hi
      have ej : j + n - n = j := by omega
      exact ⟨j + n, by rw [if_neg e]; omega, (side_moves1 hr hn kr hk (by omega) (by omega)).2 ⟨by omega, by rw [ej]; exact e2⟩, by rw [if_neg (by omega), ej]; exact e3⟩
  · show (if j < n then R j else S (j - n))
    have hi : (if i < n then R i else S (i - n)) := hi
    by_cases e : i < n
    · rw [if_pos e] at hi
      rw [side_own0 hn e] at ho
      have h3 := moves0 e hj
      rw [if_pos h3.2]
      exact h1.oth i hi ho j h3.1 h3.2
    · rw [if_neg e] at hi
      rw [side_own1 hn (by omega)] at ho
      have h3 := moves1 e hj
      rw [if_neg (by omega)]
      exact h2.oth _ hi ho _ h3.2.2.1 h3.2.2.2
  · have hi : (if i < n then R i else S (i - n)) := hi
    by_cases e : i < n
    · rw [if_pos e] at hi
      rw [side_prio0 hr hn e] at hpi hc
      refine h1.good i hi hpi ?_
      have key : ∀ x y, Path (Edge (g.beside h) (· < n + k) p (fun i => if i < n then mv i else mv' (i - n) + n)) (fun j => (if j < n then R j else S (j - n)) ∧ (g.beside h).prio.getD j 0 ≤ g.prio.getD i 0) x y → x < n → Path (Edge g (· < n) p mv) (fun j => R j ∧ g.prio.getD j 0 ≤ g.prio.getD i 0) x y := by
        intro x y hp
        have one : ∀ {x y : Nat}, x < n → Edge (g.beside h) (· < n + k) p (fun i => if i < n then mv i else mv' (i - n) + n) x y → ((if y < n then R y else S (y - n)) ∧ (g.beside h).prio.getD y 0 ≤ g.prio.getD i 0) → y < n ∧ Edge g (· < n) p mv x y ∧ R y ∧ g.prio.getD y 0 ≤ g.prio.getD i 0 := fun {x y} hx he hy => by
          have h3 := moves0 hx he.1
          rw [if_pos h3.2, side_prio0 hr hn h3.2] at hy
          refine ⟨h3.2, ⟨h3.1, h3.2, fun ho => ?_⟩, hy⟩
          have := he.2.2 (by rw [side_own0 hn hx]; exact ho)
          simp only [if_pos hx] at this
          exact this
        induction hp with
        | one he hy => exact fun hx => .one (one hx he hy).2.1 (one hx he hy).2.2
        | more he hy _ ih => exact fun hx => .more (one hx he hy).2.1 (one hx he hy).2.2 (ih (one hx he hy).1)
      exact key i i hc e
    · rw [if_neg e] at hi
      rw [side_prio1 hr hn (by omega)] at hpi hc
      refine h2.good _ hi hpi ?_
      have key : ∀ x y, Path (Edge (g.beside h) (· < n + k) p (fun i => if i < n then mv i else mv' (i - n) + n)) (fun j => (if j < n then R j else S (j - n)) ∧ (g.beside h).prio.getD j 0 ≤ h.prio.getD (i - n) 0) x y → ¬ x < n → Path (Edge h (· < k) p mv') (fun j => S j ∧ h.prio.getD j 0 ≤ h.prio.getD (i - n) 0) (x - n) (y - n) := by
        intro x y hp
        have one : ∀ {x y : Nat}, ¬ x < n → Edge (g.beside h) (· < n + k) p (fun i => if i < n then mv i else mv' (i - n) + n) x y → ((if y < n then R y else S (y - n)) ∧ (g.beside h).prio.getD y 0 ≤ h.prio.getD (i - n) 0) → ¬ y < n ∧ Edge h (· < k) p mv' (x - n) (y - n) ∧ S (y - n) ∧ h.prio.getD (y - n) 0 ≤ h.prio.getD (i - n) 0 := fun {x y} hx he hy => by
          have h3 := moves1 hx he.1
          have hy' : ¬ y < n := by omega
          rw [if_neg hy', side_prio1 hr hn (by omega)] at hy
          refine ⟨hy', ⟨h3.2.2.1, h3.2.2.2, fun ho => ?_⟩, hy⟩
          have := he.2.2 (by rw [side_own1 hn (by omega)]; exact ho)
          simp only [if_neg hx] at this
          omega
        induction hp with
        | one he hy => exact fun hx => .one (one hx he hy).2.1 (one hx he hy).2.2
        | more he hy _ ih => exact fun hx => .more (one hx he hy).2.1 (one hx he hy).2.2 (ih (one hx he hy).1)
      exact key i i hc e
include hr hn kr hk in
theorem Solved.beside {A B A' B' : Nat → Prop} (h1 : Solved g (· < n) A B) (h2 : Solved h (· < k) A' B') : Solved (g.beside h) (· < n + k) (fun i => if i < n then A i else A' (i - n)) (fun i => if i < n then B i else B' (i - n)) := by
  obtain ⟨m0, m1, a0, a1, a2⟩ := h1
  obtain ⟨l0, l1, b0, b1, b2⟩ := h2
  refine ⟨_, _, a0.beside hr hn kr hk b0, a1.beside hr hn kr hk b1, fun i hi => ?_⟩
  have hi : i < n + k := hi
  show (if i < n then A i else A' (i - n)) ∨ (if i < n then B i else B' (i - n))
  by_cases e : i < n
  · rw [if_pos e, if_pos e]
    exact a2 i e
  · rw [if_neg e, if_neg e]
    exact b2 _ (by show i - n < k; omega)
end
theorem rise_far {n k : Nat} : ∀ {l : List Int} {last : Int}, rise (k : Int) last l = true → ∀ {last' : Int}, (∀ m ∈ l, last' < m + n) → rise ((n : Int) + k) last' (farRow n l) = true
  | [], _, _, _, _ => by unfold farRow; rfl
  | y :: l, last, h, last', h' => by
    have h2 := rise_bounds h
    unfold rise at h
    simp only [Bool.and_eq_true, decide_eq_true_eq] at h
    have h3 := rise_bounds h.2.2
    show rise _ last' ((y + n) :: farRow n l) = true
    unfold rise
    simp only [Bool.and_eq_true, decide_eq_true_eq]
    exact ⟨h' y (List.mem_cons_self ..), by omega, rise_far h.2.2 fun m hm => by have := (h3 m hm).1; omega⟩
theorem rise_more {n k : Int} (hk : n ≤ k) : ∀ {l : List Int} {last : Int}, rise n last l = true → rise k last l = true
  | [], _, _ => by unfold rise; rfl
  | y :: l, last, h => by
    unfold rise at h ⊢
    simp only [Bool.and_eq_true, decide_eq_true_eq] at h ⊢
    exact ⟨h.1, by omega, rise_more hk h.2.2⟩
theorem G.Right.beside {g h : G} (hr : g.Right) {n k : Nat} (hn : g.owner.length = n) (kr : h.Right) (hk : h.owner.length = k) (hm : n + k ≤ 200) : (g.beside h).Right ∧ (g.beside h).owner.length = n + k := by
  have hlen : (g.beside h).owner.length = n + k := by show (g.owner ++ h.owner).length = n + k; rw [List.length_append]; omega
  have h0 := hr.pos
  refine ⟨⟨?_, ?_, by omega, by omega, fun i hi => ?_⟩, hlen⟩
  · rw [hlen]; show (g.prio ++ h.prio).length = _; rw [List.length_append, hr.prio, kr.prio]; omega
  · rw [hlen]; show (g.moves ++ h.moves.map _).length = _; rw [List.length_append, List.length_map, hr.moves, kr.moves]; omega
  · rw [hlen] at hi
    unfold G.check
    rw [hlen]
    unfold P.check
    by_cases e : i < n
    · have h4 := hr.at i (by omega)
      rw [side_own0 hn e, side_prio0 hr hn e, side_row0 hr hn e, if_neg (by omega), if_neg (by omega), if_neg h4.2.2.2.1]
      exact if_pos (rise_more (by omega) h4.2.2.2.2)
    · have h4 := kr.at (i - n) (by omega)
      rw [side_own1 hn (by omega), side_prio1 hr hn (by omega), side_row1 hr hn (by omega), if_neg (by omega), if_neg (by omega), if_neg (by
        unfold farRow
        simpa using h4.2.2.2.1)]
      rw [hk] at h4
      have h5 := rise_bounds h4.2.2.2.2
      rw [show ((n + k : Nat) : Int) = (n : Int) + (k : Int) by omega]
      exact if_pos (rise_far h4.2.2.2.2 fun m hm => by have := (h5 m hm).1; omega)
/-- The positions of a set, so much further on, behind others. -/
theorem lst_beside {n k : Nat} (hnk : n + k ≤ 256) {X Y Z : BitVec 256} (hX : ∀ i, Bit X i → i < n) (hY : ∀ i, Bit Y i → i < k) (hZ : ∀ i, Bit Z i ↔ if i < n then Bit X i else Bit Y (i - n)) : lst Z = lst X ++ (lst Y).map (· + n) := by
  unfold lst
  have key : ∀ (m : Nat) (S : BitVec 256), (∀ i, Bit S i → i < m) → m ≤ 256 → (List.range 256).filter (fun j => S.getLsbD j) = (List.range m).filter fun j => S.getLsbD j := by
    intro m S hS hm
    have hr : List.range 256 = List.range m ++ (List.range (256 - m)).map (m + ·) := by
      rw [← List.range_add]
      congr 1
      omega
    rw [hr, List.filter_append]
    have hz : ((List.range (256 - m)).map (m + ·)).filter (fun j => S.getLsbD j) = [] := List.filter_eq_nil_iff.2 fun i hi hb => by
      obtain ⟨j, -, rfl⟩ := List.mem_map.1 hi
      have := hS (m + j) hb
      omega
    rw [hz, List.append_nil]
  have hZ' : ∀ i, Bit Z i → i < n + k := fun i hi => by
    have := (hZ i).1 hi
    by_cases e : i < n
    · omega
    · rw [if_neg e] at this
      have := hY _ this
      omega
  rw [key (n + k) Z hZ' hnk, key n X hX (by omega), key k Y hY (by omega), List.range_add, List.filter_append]
  congr 1
  · refine List.filter_congr fun i hi => ?_
    have h1 := hZ i
    rw [if_pos (List.mem_range.1 hi)] at h1
    unfold Bit at h1
    rw [Bool.eq_iff_iff]
    exact h1
  · rw [List.filter_map]
    have e1 : (fun x => n + x) = (fun x => x + n) := funext fun x => Nat.add_comm _ _
    rw [e1]
    congr 1
    refine List.filter_congr fun i hi => ?_
    have h1 := hZ (i + n)
    rw [if_neg (by omega), show i + n - n = i by omega] at h1
    unfold Bit at h1
    show Z.getLsbD (i + n) = _
    rw [Bool.eq_iff_iff]
    exact h1
theorem beside_same {g h : G} (hr : g.Right) {n k : Nat} (hn : g.owner.length = n) (kr : h.Right) (hk : h.owner.length = k) (hm : n + k ≤ 200) {X Y X' Y' V W : BitVec 256} {c c1 c' c1' d d1 : List Int}
    (h1 : Ap g 0 (full (n : Int)) X Y c c1) (h2 : Ap h 0 (full (k : Int)) X' Y' c' c1') (h3 : Ap (g.beside h) 0 (full ((n + k : Nat) : Int)) V W d d1) (hb1 : ∀ i, Bit (full (n : Int)) i ↔ i < n) (hb2 : ∀ i, Bit (full (k : Int)) i ↔ i < k) (hb3 : ∀ i, Bit (full ((n + k : Nat) : Int)) i ↔ i < n + k) :
    lst V = lst X ++ (lst X').map (· + n) ∧ lst W = lst Y ++ (lst Y').map (· + n) := by
  have e : (1 : Int) - 0 = 1 := by decide
  have y1 := h1.his
  have y2 := h2.his
  rw [e] at y1 y2
  have hs := Solved.beside hr hn kr hk (h1.solved hb1) (h2.solved hb2)
  have hR := (hr.beside hn kr hk hm)
  have hu := fun i => hs.unique (n + k) (fun i hi => hi) (fun i hi => (hR.1.at i (by rw [hR.2]; exact hi)).1) (h3.solved hb3) i
  exact ⟨lst_beside (by omega) (fun i hi => (hb1 i).1 (h1.mine.sub i hi)) (fun i hi => (hb2 i).1 (h2.mine.sub i hi)) fun i => (hu i).1.symm, lst_beside (by omega) (fun i hi => (hb1 i).1 (y1.sub i hi)) (fun i hi => (hb2 i).1 (y2.sub i hi)) fun i => (hu i).2.symm⟩
end P
end Go.Proofs.YtpjmboonaciplaaDoor
