/- A part of a right game is right; the part of a part is the part of both: plain. -/
import Derived.Test.YtpfponiidppldaaDoorRSubP
import Derived.Test.YtpfponiidppldaaDoorHalvesP
import Derived.Test.YtpfponiidppldaaDoorOf
namespace Go.Proofs.YtpfponiidppldaaDoor
namespace P
theorem uniq : ∀ (l r : List Nat), l.Pairwise (· < ·) → r.Pairwise (· < ·) → (∀ j, j ∈ l ↔ j ∈ r) → l = r
  | [], [], _, _, _ => rfl
  | [], y :: r, _, _, h => by have := (h y).2 (by simp); simp at this
  | x :: l, [], _, _, h => by have := (h x).1 (by simp); simp at this
  | x :: l, y :: r, hl, hr, h => by
    obtain ⟨l1, l2⟩ := List.pairwise_cons.1 hl
    obtain ⟨r1, r2⟩ := List.pairwise_cons.1 hr
    have e : x = y := by
      have a := (h x).1 (by simp)
      have b := (h y).2 (by simp)
      rcases List.mem_cons.1 a with a | a
      · exact a
      · rcases List.mem_cons.1 b with b | b
        · exact b.symm
        · have := l1 y b
          have := r1 x a
          omega
    subst e
    congr 1
    apply uniq l r l2 r2
    intro j
    constructor
    · intro hj
      rcases List.mem_cons.1 ((h j).1 (List.mem_cons_of_mem _ hj)) with a | a
      · have := l1 j hj; omega
      · exact a
    · intro hj
      rcases List.mem_cons.1 ((h j).2 (List.mem_cons_of_mem _ hj)) with a | a
      · have := r1 j hj; omega
      · exact a
theorem getLsbD_ofL (l : List Int) (i : Nat) (hi : i < 256) : (ofL l).getLsbD i = decide ((i : Int) ∈ l) := by
  have gen : ∀ (l : List Int) (s : BitVec 256), (l.foldl (fun s n => s ||| bit n) s).getLsbD i = (s.getLsbD i || decide ((i : Int) ∈ l)) := by
    intro l
    induction l with
    | nil => intro s; simp
    | cons x l ih =>
      intro s
      rw [List.foldl_cons, ih, BitVec.getLsbD_or, getLsbD_bit]
      by_cases e : (i : Int) = x
      · subst e
        have : (i : Int) < 256 := by omega
        simp [this]
      · have e2 : ¬ x = (i : Int) := fun h => e h.symm
        simp [e, e2]
  have := gen l 0#256
  unfold ofL
  rw [this]
  simp
theorem pre2_sorted (s : BitVec 256) (k : Nat) : (pre2 s k).Pairwise (· < ·) := by
  unfold pre2
  exact List.Pairwise.filter _ List.pairwise_lt_range
theorem cnt_mono (s : BitVec 256) (x y : Nat) (h : x ≤ y) : (pre2 s x).length ≤ (pre2 s y).length := by
  induction y with
  | zero =>
    obtain rfl : x = 0 := by omega
    exact Nat.le_refl _
  | succ y ih =>
    by_cases e : x = y + 1
    · subst e
      exact Nat.le_refl _
    · refine Nat.le_trans (ih (by omega)) ?_
      rw [pre2_succ]
      split
      · simp
      · exact Nat.le_refl _
theorem cnt_lt (s : BitVec 256) (x y : Nat) (h : x < y) (hb : s.getLsbD x = true) : (pre2 s x).length < (pre2 s y).length := by
  have h1 := cnt_mono s (x + 1) y h
  rw [pre2_succ, if_pos hb, List.length_append] at h1
  simp at h1
  omega
theorem has_nat (s : BitVec 256) (x : Nat) : has s (x : Int) = s.getLsbD x := by unfold has; simp
theorem rise_renum (s : BitVec 256) (n : Nat) : ∀ (l : List Int) (last lastc : Int), rise (n : Int) last l = true → -1 ≤ last → (∀ y : Nat, last < (y : Int) → s.getLsbD y = true → lastc < ((pre2 s y).length : Int)) →
    rise ((pre2 s n).length : Int) lastc (renum (pre2 s n) s l) = true
  | [], _, _, _, _, _ => rfl
  | x :: l, last, lastc, h, h0, hy => by
    unfold rise at h
    simp only [Bool.and_eq_true, decide_eq_true_eq] at h
    obtain ⟨h1, h2, h3⟩ := h
    obtain ⟨y, rfl⟩ := Int.eq_ofNat_of_zero_le (show 0 ≤ x by omega)
    unfold renum
    by_cases hb : s.getLsbD y = true
    · rw [List.filter_cons_of_pos (by rw [has_nat]; exact hb), List.map_cons]
      unfold rise
      have hi : (pre2 s n).idxOf (y : Int).toNat = (pre2 s y).length := by
        rw [Int.toNat_natCast]
        exact idx_pre2 s y hb n (by omega)
      rw [hi]
      have h5 := cnt_lt s y n (by omega) hb
      simp only [Bool.and_eq_true, decide_eq_true_eq]
      refine ⟨hy y h1 hb, by omega, ?_⟩
      exact rise_renum s n l (y : Int) _ h3 (by omega) fun z hz hbz => by
        have := cnt_lt s y z (by omega) hb
        omega
    · rw [List.filter_cons_of_neg (by rw [has_nat]; exact hb)]
      exact rise_renum s n l (y : Int) lastc h3 (by omega) fun z hz hbz => hy z (by omega) hbz
theorem has_parts {g : G} {s : BitVec 256} (h : g.has s = true) : g.ok = true ∧ 0 < (g.old s).length ∧ ∀ i ∈ g.old s, (g.moves.getD i []).filter (P.has s) ≠ [] := by
  unfold G.has at h
  simp only [Bool.and_eq_true] at h
  obtain ⟨h1, h2, h3⟩ := h
  refine ⟨h1, ?_, fun i hi => ?_⟩
  · cases hl : g.old s with
    | nil => rw [hl] at h2; simp at h2
    | cons _ _ => simp
  · have := List.all_eq_true.1 h3 i hi
    intro e
    rw [e] at this
    simp at this
/-- A part of a right game is right. -/
theorem part_right {g : G} (hr : g.Right) {s : BitVec 256} (h : g.has s = true) : (g.part s).Right := by
  obtain ⟨-, hpos, hne⟩ := has_parts h
  have hl := g.part_len s
  have hop := old_pre2 g s (by have := hr.many; omega)
  have hlen : (g.old s).length ≤ g.owner.length := by rw [hop]; exact pre2_len _ _
  refine ⟨by rw [hl.1, hl.2.1], by rw [hl.1, hl.2.2], by rw [hl.1]; exact hpos, by rw [hl.1]; have := hr.many; omega, fun i hi => ?_⟩
  rw [hl.1] at hi
  have hmem : (g.old s).getD i 0 ∈ g.old s := by
    rw [List.getD_eq_getElem?_getD, List.getElem?_eq_getElem hi]
    exact List.getElem_mem hi
  have hat := hr.at _ (old_lt g s _ hmem).1
  have hne' := hne _ hmem
  unfold G.check
  rw [G.part_owner g s i hi, G.part_prio g s i hi, G.part_moves g s i hi, hl.1]
  generalize (g.old s).getD i 0 = x at hat hne'
  obtain ⟨h1, h2, h3, -, h5⟩ := hat
  unfold P.check
  rw [if_neg (by omega), if_neg (by omega), if_neg (fun e => hne' (renum_empty (by rw [e]; rfl)))]
  rw [hop]
  rw [if_pos]
  exact rise_renum s g.owner.length _ (-1) (-1) h5 (by omega) fun y _ _ => by omega
/-- The positions of both. -/
def both (s v : BitVec 256) (n : Nat) : List Nat := (pre2 v (pre2 s n).length).map fun i => (pre2 s n).getD i 0
theorem pre2_nodup (s : BitVec 256) (n : Nat) : (pre2 s n).Nodup := (pre2_sorted s n).imp fun h => Nat.ne_of_lt h
theorem getD_idx {l : List Nat} {y : Nat} (h : y ∈ l) : l.getD (l.idxOf y) 0 = y := by
  have hlt := List.idxOf_lt_length_of_mem h
  rw [List.getD_eq_getElem?_getD, List.getElem?_eq_getElem hlt, List.getElem_idxOf hlt]
  rfl
theorem idx_getD {l : List Nat} (hn : l.Nodup) {i : Nat} (h : i < l.length) : l.idxOf (l.getD i 0) = i := by
  rw [List.getD_eq_getElem?_getD, List.getElem?_eq_getElem h]
  exact idx_nodup hn i h
theorem getD_mem {l : List Nat} {i : Nat} (h : i < l.length) : l.getD i 0 ∈ l := by
  rw [List.getD_eq_getElem?_getD, List.getElem?_eq_getElem h]
  exact List.getElem_mem h
theorem getD_lt {l : List Nat} (hs : l.Pairwise (· < ·)) {i j : Nat} (h : i < j) (hj : j < l.length) : l.getD i 0 < l.getD j 0 := by
  rw [List.getD_eq_getElem?_getD, List.getD_eq_getElem?_getD, List.getElem?_eq_getElem (by omega), List.getElem?_eq_getElem hj]
  exact List.pairwise_iff_getElem.1 hs i j (by omega) hj h
theorem mem_both (s v : BitVec 256) (n y : Nat) : y ∈ both s v n ↔ y ∈ pre2 s n ∧ v.getLsbD ((pre2 s n).idxOf y) = true := by
  unfold both
  rw [List.mem_map]
  constructor
  · rintro ⟨i, hi, rfl⟩
    obtain ⟨h1, h2⟩ := (pre2_mem _ _ _).1 hi
    exact ⟨getD_mem h1, by rw [idx_getD (pre2_nodup s n) h1]; exact h2⟩
  · rintro ⟨h1, h2⟩
    exact ⟨_, (pre2_mem _ _ _).2 ⟨List.idxOf_lt_length_of_mem h1, h2⟩, getD_idx h1⟩
theorem both_sorted (s v : BitVec 256) (n : Nat) : (both s v n).Pairwise (· < ·) := by
  unfold both
  rw [List.pairwise_map]
  refine List.Pairwise.imp_of_mem ?_ (pre2_sorted v _)
  intro a b _ hb hab
  exact getD_lt (pre2_sorted s n) hab ((pre2_mem _ _ _).1 hb).1
theorem both_len (s v : BitVec 256) (n : Nat) : (both s v n).length = (pre2 v (pre2 s n).length).length := by unfold both; rw [List.length_map]
theorem both_at (s v : BitVec 256) (n i : Nat) (h : i < (pre2 v (pre2 s n).length).length) : (both s v n).getD i 0 = (pre2 s n).getD ((pre2 v (pre2 s n).length).getD i 0) 0 := by
  unfold both
  simp [List.getD, h]
/-- The set of both. -/
def bset (s v : BitVec 256) (n : Nat) : BitVec 256 := ofL ((both s v n).map fun (i : Nat) => (i : Int))
theorem bset_bit (s v : BitVec 256) (n y : Nat) (hy : y < 256) : (bset s v n).getLsbD y = decide (y ∈ both s v n) := by
  unfold bset
  rw [getLsbD_ofL _ _ hy]
  refine decide_eq_decide.2 ?_
  rw [List.mem_map]
  constructor
  · rintro ⟨a, ha, e⟩
    obtain rfl : a = y := by omega
    exact ha
  · intro h
    exact ⟨y, h, rfl⟩
theorem bset_pre2 (s v : BitVec 256) (n : Nat) (hn : n ≤ 256) : pre2 (bset s v n) n = both s v n := by
  refine uniq _ _ (pre2_sorted _ _) (both_sorted s v n) fun j => ?_
  rw [pre2_mem]
  constructor
  · rintro ⟨h1, h2⟩
    rw [bset_bit s v n j (by omega)] at h2
    exact of_decide_eq_true h2
  · intro h
    have h1 := ((pre2_mem _ _ _).1 ((mem_both s v n j).1 h).1).1
    exact ⟨h1, by rw [bset_bit s v n j (by omega)]; exact decide_eq_true h⟩
theorem idx_both (s v : BitVec 256) (n y : Nat) (h : y ∈ both s v n) : (both s v n).idxOf y = (pre2 v (pre2 s n).length).idxOf ((pre2 s n).idxOf y) := by
  obtain ⟨h1, h2⟩ := (mem_both s v n y).1 h
  have h3 : (pre2 s n).idxOf y ∈ pre2 v (pre2 s n).length := (pre2_mem _ _ _).2 ⟨List.idxOf_lt_length_of_mem h1, h2⟩
  have h4 := List.idxOf_lt_length_of_mem h3
  have h5 : (both s v n).getD ((pre2 v (pre2 s n).length).idxOf ((pre2 s n).idxOf y)) 0 = y := by
    rw [both_at s v n _ h4, getD_idx h3, getD_idx h1]
  conv => lhs; rw [← h5]
  exact idx_getD ((both_sorted s v n).imp fun h => Nat.ne_of_lt h) (by rw [both_len]; exact h4)
theorem filter_both (s v : BitVec 256) (n : Nat) (hn : n ≤ 256) (l : List Int) (hl : ∀ y ∈ l, 0 ≤ y ∧ y < (n : Int)) : l.filter (has (bset s v n)) = (l.filter (has s)).filter (fun y => has v (((pre2 s n).idxOf y.toNat : Nat) : Int)) := by
  rw [List.filter_filter]
  apply List.filter_congr
  intro y hy
  obtain ⟨h0, h1⟩ := hl y hy
  obtain ⟨z, rfl⟩ := Int.eq_ofNat_of_zero_le h0
  rw [has_nat, has_nat, has_nat, Int.toNat_natCast, bset_bit s v n z (by omega), Bool.eq_iff_iff, decide_eq_true_iff, mem_both, pre2_mem, Bool.and_eq_true]
  constructor
  · rintro ⟨⟨-, h2⟩, h3⟩
    exact ⟨h3, h2⟩
  · rintro ⟨h3, h2⟩
    exact ⟨⟨by omega, h2⟩, h3⟩
theorem renum_both (s v : BitVec 256) (n : Nat) (hn : n ≤ 256) (l : List Int) (hl : ∀ y ∈ l, 0 ≤ y ∧ y < (n : Int)) : renum (pre2 v (pre2 s n).length) v (renum (pre2 s n) s l) = renum (both s v n) (bset s v n) l := by
  have hf := filter_both s v n hn l hl
  unfold renum
  rw [List.filter_map, List.map_map, hf]
  apply List.map_congr_left
  intro y hy
  have hy1 := (List.mem_filter.1 hy).1
  have hy2 : has v (((pre2 s n).idxOf y.toNat : Nat) : Int) = true := (List.mem_filter.1 hy).2
  obtain ⟨h0, h1⟩ := hl y (List.mem_filter.1 hy1).1
  have hs := (List.mem_filter.1 hy1).2
  obtain ⟨z, rfl⟩ := Int.eq_ofNat_of_zero_le h0
  rw [has_nat] at hs hy2
  simp only [Function.comp, Int.toNat_natCast] at hy2 ⊢
  rw [idx_both s v n z ((mem_both s v n z).2 ⟨(pre2_mem _ _ _).2 ⟨by omega, hs⟩, hy2⟩)]
theorem rise_in {n : Int} {l : List Int} (h : rise n (-1) l = true) : ∀ y ∈ l, 0 ≤ y ∧ y < n := fun y hy => by
  have := rise_bounds h y hy
  omega
theorem part_eq (g : G) (s : BitVec 256) : g.part s = ⟨(g.old s).map fun i => g.owner.getD i 0, (g.old s).map fun i => g.prio.getD i 0, (g.old s).map fun i => renum (g.old s) s (g.moves.getD i [])⟩ := by
  unfold G.part G.partTo
  rw [List.take_length]
/-- The part of a part is the part of both. -/
theorem part_both {g : G} (hr : g.Right) {s : BitVec 256} (h : g.has s = true) (v : BitVec 256) :
    (g.part s).has v = g.has (bset s v g.owner.length) ∧ (g.part s).part v = g.part (bset s v g.owner.length) ∧ (g.part s).old v = pre2 v (pre2 s g.owner.length).length ∧ g.old (bset s v g.owner.length) = both s v g.owner.length := by
  have hn : g.owner.length ≤ 256 := by have := hr.many; omega
  have hpr := part_right hr h
  have hl := g.part_len s
  have ho := old_pre2 g s hn
  have hb := old_pre2 g (bset s v g.owner.length) hn
  rw [bset_pre2 s v _ hn] at hb
  have hp := old_pre2 (g.part s) v (by rw [hl.1, ho]; have := pre2_len s g.owner.length; omega)
  rw [hl.1, ho] at hp
  have hmv : ∀ i, i < (pre2 s g.owner.length).length → (g.part s).moves.getD i [] = renum (pre2 s g.owner.length) s (g.moves.getD ((pre2 s g.owner.length).getD i 0) []) := fun i hi => by
    have := G.part_moves g s i (by rw [ho]; exact hi)
    rw [ho] at this
    exact this
  have hin : ∀ i, i < (pre2 s g.owner.length).length → ∀ y ∈ g.moves.getD ((pre2 s g.owner.length).getD i 0) [], 0 ≤ y ∧ y < (g.owner.length : Int) := fun i hi => by
    have h1 := ((pre2_mem s _ _).1 (getD_mem hi)).1
    exact rise_in (hr.at _ h1).2.2.2.2
  refine ⟨?_, ?_, hp, hb⟩
  · unfold G.has
    rw [(G.ok_iff _).2 hpr, (G.ok_iff _).2 hr, hp, hb]
    congr 1
    congr 1
    · unfold both
      cases pre2 v (pre2 s g.owner.length).length <;> rfl
    · unfold both
      rw [List.all_map]
      rw [Bool.eq_iff_iff, List.all_eq_true, List.all_eq_true]
      have key : ∀ i ∈ pre2 v (pre2 s g.owner.length).length, (!(((g.part s).moves.getD i []).filter (P.has v)).isEmpty) = (!((g.moves.getD ((pre2 s g.owner.length).getD i 0) []).filter (P.has (bset s v g.owner.length))).isEmpty) := fun i hi => by
        have hi' := ((pre2_mem _ _ _).1 hi).1
        rw [hmv i hi', filter_both s v _ hn _ (hin i hi')]
        unfold renum
        rw [List.filter_map, List.isEmpty_map]
        rfl
      constructor
      · intro h i hi
        have := h i hi
        rw [key i hi] at this
        exact this
      · intro h i hi
        rw [key i hi]
        exact h i hi
  · rw [part_eq (g.part s) v, part_eq g (bset s v g.owner.length), hp, hb]
    have e1 : ∀ (α : Type) (f g' : Nat → α), (∀ i ∈ pre2 v (pre2 s g.owner.length).length, f i = g' ((pre2 s g.owner.length).getD i 0)) → (pre2 v (pre2 s g.owner.length).length).map f = (both s v g.owner.length).map g' := fun α f g' hfg => by
      unfold both
      rw [List.map_map]
      exact List.map_congr_left hfg
    have hpo : ∀ i ∈ pre2 v (pre2 s g.owner.length).length, i < (g.old s).length := fun i hi => by rw [ho]; exact ((pre2_mem _ _ _).1 hi).1
    congr 1
    · exact e1 _ _ _ fun i hi => by
        have := G.part_owner g s i (hpo i hi)
        rw [ho] at this
        exact this
    · exact e1 _ _ _ fun i hi => by
        have := G.part_prio g s i (hpo i hi)
        rw [ho] at this
        exact this
    · exact e1 _ _ _ fun i hi => by
        have hi' := ((pre2_mem _ _ _).1 hi).1
        show renum _ v ((g.part s).moves.getD i []) = _
        rw [hmv i hi', renum_both s v _ hn _ (hin i hi')]
end P
end Go.Proofs.YtpfponiidppldaaDoor
