/- What counting makes: for each position those ahead of it, and how many moves lead from each. Plain facts, no program. -/
import Derived.Test.YtpfponiidppldaaDoorAttP
namespace Go.Proofs.YtpfponiidppldaaDoor
namespace P
/-- One move. -/
def note (I : BitVec 256) (x : Nat) (st : List (List Int) × List Int) (m : Int) : List (List Int) × List Int :=
  if has I m = true then (st.1.set m.toNat (st.1.getD m.toNat [] ++ [(x : Int)]), st.2.set x (st.2.getD x 0 + 1)) else st
/-- One position. -/
def notes (g : G) (I : BitVec 256) (st : List (List Int) × List Int) (x : Nat) : List (List Int) × List Int := (g.moves.getD x []).foldl (note I x) st
def counts (g : G) (I : BitVec 256) (l : List Nat) : List (List Int) × List Int := l.foldl (notes g I) (List.replicate g.owner.length [], List.replicate g.owner.length 0)
theorem note_len (I : BitVec 256) (x : Nat) (st : List (List Int) × List Int) (m : Int) : (note I x st m).1.length = st.1.length ∧ (note I x st m).2.length = st.2.length := by
  unfold note
  split <;> simp
theorem note_all (I : BitVec 256) (x : Nat) : ∀ (l : List Int) (st : List (List Int) × List Int), (l.foldl (note I x) st).1.length = st.1.length ∧ (l.foldl (note I x) st).2.length = st.2.length
  | [], _ => ⟨rfl, rfl⟩
  | m :: l, st => by
    have h := note_all I x l (note I x st m)
    have h2 := note_len I x st m
    exact ⟨h.1.trans h2.1, h.2.trans h2.2⟩
theorem notes_len (g : G) (I : BitVec 256) (st : List (List Int) × List Int) (x : Nat) : (notes g I st x).1.length = st.1.length ∧ (notes g I st x).2.length = st.2.length := note_all I x _ st
theorem getD_set {α : Type} (l : List α) (i j : Nat) (a d : α) (hi : i < l.length) : (l.set i a).getD j d = if j = i then a else l.getD j d := by
  rw [List.getD_eq_getElem?_getD, List.getD_eq_getElem?_getD, List.getElem?_set]
  by_cases e : i = j
  · subst e
    rw [if_pos rfl, if_pos rfl, if_pos hi]
    rfl
  · rw [if_neg e, if_neg (fun h => e h.symm)]
theorem note_is (I : BitVec 256) (x : Nat) (n : Nat) (hx : x < n) : ∀ (l : List Int) (st : List (List Int) × List Int), l.Nodup → (∀ m ∈ l, 0 ≤ m ∧ m < n) → st.1.length = n → st.2.length = n →
    (∀ q : Nat, (l.foldl (note I x) st).1.getD q [] = st.1.getD q [] ++ (if (q : Int) ∈ l ∧ has I q = true then [(x : Int)] else [])) ∧ ∀ y, (l.foldl (note I x) st).2.getD y 0 = st.2.getD y 0 + (if y = x then ((l.filter (has I)).length : Int) else 0)
  | [], st, _, _, _, _ => by
    refine ⟨fun q => ?_, fun y => ?_⟩
    · simp
    · simp
  | m :: l, st, hn, hb, h1, h2 => by
    obtain ⟨hm, hn2⟩ := List.nodup_cons.1 hn
    have hb2 := hb m (by simp)
    have hl := note_len I x st m
    obtain ⟨ih1, ih2⟩ := note_is I x n hx l (note I x st m) hn2 (fun k hk => hb k (by simp [hk])) (by rw [hl.1, h1]) (by rw [hl.2, h2])
    rw [List.foldl_cons]
    by_cases e : has I m = true
    · have hnote : note I x st m = (st.1.set m.toNat (st.1.getD m.toNat [] ++ [(x : Int)]), st.2.set x (st.2.getD x 0 + 1)) := by unfold note; rw [if_pos e]
      refine ⟨fun q => ?_, fun y => ?_⟩
      · rw [ih1, hnote]
        show (st.1.set m.toNat _).getD q [] ++ _ = _
        rw [getD_set _ _ _ _ _ (by omega)]
        by_cases eq : q = m.toNat
        · subst eq
          have hq : ((m.toNat : Nat) : Int) = m := Int.toNat_of_nonneg hb2.1
          rw [if_pos rfl, hq, if_neg (fun h => hm h.1), if_pos ⟨by simp, e⟩]
          simp
        · rw [if_neg eq]
          have hq : (q : Int) ≠ m := fun h => eq (by omega)
          simp [hq]
      · rw [ih2, hnote]
        show (st.2.set x _).getD y 0 + _ = _
        rw [getD_set _ _ _ _ _ (by omega), List.filter_cons_of_pos e]
        by_cases ey : y = x
        · subst ey
          rw [if_pos rfl, if_pos rfl, if_pos rfl, List.length_cons]
          omega
        · rw [if_neg ey, if_neg ey, if_neg ey]
    · have hnote : note I x st m = st := by unfold note; rw [if_neg e]
      refine ⟨fun q => ?_, fun y => ?_⟩
      · rw [ih1, hnote]
        by_cases eq : (q : Int) = m
        · rw [eq, if_neg (fun h => hm h.1), if_neg (fun h => e h.2)]
        · simp [eq]
      · rw [ih2, hnote, List.filter_cons_of_neg e]
theorem notes_is {g : G} (hr : g.Right) (I : BitVec 256) : ∀ (l : List Nat) (st : List (List Int) × List Int), l.Nodup → (∀ x ∈ l, x < g.owner.length) → st.1.length = g.owner.length → st.2.length = g.owner.length →
    (∀ q : Nat, (l.foldl (notes g I) st).1.getD q [] = st.1.getD q [] ++ (l.filter (fun x => decide ((q : Int) ∈ g.moves.getD x []) && has I q)).map (fun (x : Nat) => (x : Int))) ∧ ∀ y, (l.foldl (notes g I) st).2.getD y 0 = st.2.getD y 0 + (if y ∈ l then ((into g I y).length : Int) else 0)
  | [], st, _, _, _, _ => by
    refine ⟨fun q => ?_, fun y => ?_⟩
    · simp
    · simp
  | x :: l, st, hn, hb, h1, h2 => by
    obtain ⟨hm, hn2⟩ := List.nodup_cons.1 hn
    have hx := hb x (by simp)
    have hl := notes_len g I st x
    obtain ⟨ih1, ih2⟩ := notes_is hr I l (notes g I st x) hn2 (fun k hk => hb k (by simp [hk])) (by rw [hl.1, h1]) (by rw [hl.2, h2])
    have hrise := (hr.at x hx).2.2.2.2
    obtain ⟨k1, k2⟩ := note_is I x g.owner.length hx (g.moves.getD x []) st (rise_nodup hrise) (fun m hm => by have := rise_bounds hrise m hm; omega) h1 h2
    rw [List.foldl_cons]
    refine ⟨fun q => ?_, fun y => ?_⟩
    · rw [ih1]
      show (List.foldl (note I x) st (g.moves.getD x [])).1.getD q [] ++ _ = _
      rw [k1]
      by_cases e : (q : Int) ∈ g.moves.getD x [] ∧ has I q = true
      · rw [if_pos e, List.filter_cons_of_pos (by rw [decide_eq_true e.1, e.2]; rfl)]
        simp
      · rw [if_neg e, List.filter_cons_of_neg (by rw [Bool.and_eq_true, decide_eq_true_eq]; exact e)]
        simp
    · rw [ih2]
      show (List.foldl (note I x) st (g.moves.getD x [])).2.getD y 0 + _ = _
      rw [k2]
      by_cases e : y = x
      · subst e
        rw [if_pos rfl, if_neg hm, if_pos (by simp)]
        unfold into
        omega
      · rw [if_neg e]
        simp [e]
theorem counts_is {g : G} (hr : g.Right) (I : BitVec 256) : (∀ q : Nat, (counts g I (pre2 I g.owner.length)).1.getD q [] = (ahead g I q).map (fun (x : Nat) => (x : Int))) ∧ ∀ y, y < g.owner.length → I.getLsbD y = true → (counts g I (pre2 I g.owner.length)).2.getD y 0 = ((into g I y).length : Int) := by
  have hn : (pre2 I g.owner.length).Nodup := List.Pairwise.filter _ List.nodup_range
  obtain ⟨h1, h2⟩ := notes_is hr I (pre2 I g.owner.length) (List.replicate g.owner.length [], List.replicate g.owner.length 0) hn (fun x hx => ((pre2_mem I g.owner.length x).1 hx).1) (by simp) (by simp)
  refine ⟨fun q => ?_, fun y hy hI => ?_⟩
  · unfold counts
    rw [h1]
    have e0 : (List.replicate g.owner.length ([] : List Int)).getD q [] = [] := by
      rw [List.getD_eq_getElem?_getD, List.getElem?_replicate]
      split <;> rfl
    rw [e0, List.nil_append]
    congr 1
    unfold ahead
    rw [nat_has]
    by_cases e : I.getLsbD q = true
    · rw [if_pos e, e]
      simp
    · rw [if_neg e, show I.getLsbD q = false by simpa using e]
      simp
  · unfold counts
    rw [h2]
    have e0 : (List.replicate g.owner.length (0 : Int)).getD y 0 = 0 := by
      rw [List.getD_eq_getElem?_getD, List.getElem?_replicate]
      split <;> rfl
    rw [e0, if_pos ((pre2_mem I g.owner.length y).2 ⟨hy, hI⟩)]
    omega
end P
end Go.Proofs.YtpfponiidppldaaDoor
namespace Go.Proofs.YtpfponiidppldaaDoor
namespace P
def none2 (n : Nat) : List (List Int) × List Int := (List.replicate n [], List.replicate n 0)
theorem counts_def (g : G) (I : BitVec 256) (l : List Nat) : counts g I l = l.foldl (notes g I) (none2 g.owner.length) := rfl
theorem notes_all (g : G) (I : BitVec 256) : ∀ (l : List Nat) (st : List (List Int) × List Int), (l.foldl (notes g I) st).1.length = st.1.length ∧ (l.foldl (notes g I) st).2.length = st.2.length
  | [], _ => ⟨rfl, rfl⟩
  | x :: l, st => by
    have h := notes_all g I l (notes g I st x)
    have h2 := notes_len g I st x
    exact ⟨h.1.trans h2.1, h.2.trans h2.2⟩
theorem counts_len (g : G) (I : BitVec 256) (l : List Nat) : (counts g I l).1.length = g.owner.length ∧ (counts g I l).2.length = g.owner.length := by
  have := notes_all g I l (none2 g.owner.length)
  rw [counts_def]
  exact ⟨this.1.trans (by simp [none2]), this.2.trans (by simp [none2])⟩
/-- Who has not been come to counts nothing yet. -/
theorem counts_low {g : G} (hr : g.Right) (I : BitVec 256) (k : Nat) (hk : k < (pre2 I g.owner.length).length) : (counts g I ((pre2 I g.owner.length).take k)).2.getD (pre2 I g.owner.length)[k] 0 = 0 := by
  have hn : (pre2 I g.owner.length).Nodup := List.Pairwise.filter _ List.nodup_range
  have hb : ∀ x ∈ (pre2 I g.owner.length).take k, x < g.owner.length := fun x hx => ((pre2_mem I g.owner.length x).1 (List.mem_of_mem_take hx)).1
  obtain ⟨-, h2⟩ := notes_is hr I ((pre2 I g.owner.length).take k) (none2 g.owner.length) (hn.sublist (List.take_sublist _ _)) hb (by simp [none2]) (by simp [none2])
  rw [counts_def, h2, if_neg]
  · unfold none2
    rw [List.getD_eq_getElem?_getD, List.getElem?_replicate]
    split <;> rfl
  · intro hm
    obtain ⟨i, hi, e⟩ := List.mem_iff_getElem.1 hm
    rw [List.length_take] at hi
    rw [List.getElem_take] at e
    exact (List.pairwise_iff_getElem.1 hn) i k (by omega) hk (by omega) e
/-- What the moves gone through of a position have counted. -/
theorem note_low {g : G} (hr : g.Right) (I : BitVec 256) (x : Nat) (hx : x < g.owner.length) (st : List (List Int) × List Int) (h1 : st.1.length = g.owner.length) (h2 : st.2.length = g.owner.length) (j : Nat) :
    (((g.moves.getD x []).take j).foldl (note I x) st).2.getD x 0 = st.2.getD x 0 + ((((g.moves.getD x []).take j).filter (has I)).length : Int) := by
  have hrise := (hr.at x hx).2.2.2.2
  obtain ⟨-, k2⟩ := note_is I x g.owner.length hx ((g.moves.getD x []).take j) st ((rise_nodup hrise).sublist (List.take_sublist _ _)) (fun m hm => by have := rise_bounds hrise m (List.mem_of_mem_take hm); omega) h1 h2
  rw [k2, if_pos rfl]
theorem note_snoc (I : BitVec 256) (x : Nat) (l : List Int) (m : Int) (st : List (List Int) × List Int) : (l ++ [m]).foldl (note I x) st = note I x (l.foldl (note I x) st) m := by rw [List.foldl_append]; rfl
theorem counts_snoc (g : G) (I : BitVec 256) (l : List Nat) (x : Nat) : counts g I (l ++ [x]) = (g.moves.getD x []).foldl (note I x) (counts g I l) := by
  rw [counts_def, counts_def, List.foldl_append]; rfl
theorem set_short (l : List (List Int)) (i q : Nat) (x : Int) : ((l.set i (l.getD i [] ++ [x])).getD q []).length ≤ (l.getD q []).length + 1 := by
  rw [List.getD_eq_getElem?_getD, List.getElem?_set]
  by_cases e : i = q
  · subst e
    rw [if_pos rfl]
    split
    · simp
    · simp
  · rw [if_neg e, ← List.getD_eq_getElem?_getD]
    omega
theorem note_short (I : BitVec 256) (x q : Nat) : ∀ (l : List Int) (st : List (List Int) × List Int), ((l.foldl (note I x) st).1.getD q []).length ≤ (st.1.getD q []).length + l.length
  | [], _ => Nat.le_refl _
  | m :: l, st => by
    have h := note_short I x q l (note I x st m)
    have h2 : ((note I x st m).1.getD q []).length ≤ (st.1.getD q []).length + 1 := by
      unfold note
      split
      · exact set_short st.1 m.toNat q x
      · omega
    rw [List.foldl_cons, List.length_cons]
    omega
theorem counts_short (g : G) (I : BitVec 256) (q : Nat) (hm : ∀ x, (g.moves.getD x []).length ≤ 200) : ∀ (l : List Nat) (st : List (List Int) × List Int), ((l.foldl (notes g I) st).1.getD q []).length ≤ (st.1.getD q []).length + 200 * l.length
  | [], _ => Nat.le_refl _
  | x :: l, st => by
    have h := counts_short g I q hm l (notes g I st x)
    have h2 : ((notes g I st x).1.getD q []).length ≤ (st.1.getD q []).length + 200 := by
      have h3 := note_short I x q (g.moves.getD x []) st
      have h4 := hm x
      unfold notes
      omega
    rw [List.foldl_cons, List.length_cons]
    omega
theorem moves_short {g : G} (hr : g.Right) (x : Nat) : (g.moves.getD x []).length ≤ 200 := by
  rcases Nat.lt_or_ge x g.owner.length with h | h
  · exact rise_len (hr.at x h).2.2.2.2 hr.many
  · rw [List.getD_eq_getElem?_getD, List.getElem?_eq_none (by rw [hr.moves]; exact h)]
    exact Nat.zero_le _
/-- No row grows long. -/
theorem rows_short {g : G} (hr : g.Right) (I : BitVec 256) (l : List Nat) (hl : l.length ≤ 200) (x q : Nat) (ms : List Int) (hms : ms.length ≤ 200) : ((ms.foldl (note I x) (counts g I l)).1.getD q []).length ≤ 40200 := by
  have h1 := note_short I x q ms (counts g I l)
  have h2 := counts_short g I q (moves_short hr) l (none2 g.owner.length)
  have h3 : ((none2 g.owner.length).1.getD q []).length = 0 := by
    unfold none2
    rw [List.getD_eq_getElem?_getD, List.getElem?_replicate]
    split <;> rfl
  rw [counts_def] at h1 ⊢
  omega
end P
end Go.Proofs.YtpfponiidppldaaDoor
