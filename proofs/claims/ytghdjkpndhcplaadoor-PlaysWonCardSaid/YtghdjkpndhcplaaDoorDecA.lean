/- A right game's moves. Plain. Taking a game apart by sets, with the moves that are chosen on the way. Plain. -/
import Derived.Test.YtghdjkpndhcplaaDoorGame
import Derived.Test.YtghdjkpndhcplaaDoorParP
import Derived.Test.YtghdjkpndhcplaaDoorAttA
section
namespace Go.Proofs.YtghdjkpndhcplaaDoor
namespace P
theorem G.Right.moves_in {g : G} (hr : g.Right) {i : Nat} (hi : i < g.owner.length) : ∀ x ∈ g.moves.getD i [], 0 ≤ x ∧ x < (g.owner.length : Int) := fun x hx => by
  have := rise_bounds (hr.at i hi).2.2.2.2 x hx
  omega
end P
end Go.Proofs.YtghdjkpndhcplaaDoor
end
section
namespace Go.Proofs.YtghdjkpndhcplaaDoor
namespace P
def Bit (s : BitVec 256) (i : Nat) : Prop := s.getLsbD i = true
instance (s : BitVec 256) (i : Nat) : Decidable (Bit s i) := inferInstanceAs (Decidable (s.getLsbD i = true))
theorem full_and {n : Nat} {I : BitVec 256} (hI : ∀ i, Bit I i → i < n) : I &&& full (n : Int) = I := by
  refine set_ext fun x hx => ?_
  rw [BitVec.getLsbD_and, Bool.and_eq_true]
  refine ⟨fun h => h.1, fun h => ⟨h, ?_⟩⟩
  have := hI x h
  rw [getLsbD_full, decide_eq_true (by omega)]
theorem bit_minus {s t : BitVec 256} (i : Nat) : Bit (s &&& ~~~t) i ↔ Bit s i ∧ ¬ Bit t i := by
  unfold Bit
  rcases Nat.lt_or_ge i 256 with hi | hi
  · rw [BitVec.getLsbD_and, BitVec.getLsbD_not, decide_eq_true hi, Bool.true_and]
    cases s.getLsbD i <;> cases t.getLsbD i <;> simp
  · rw [BitVec.getLsbD_of_ge _ _ hi, BitVec.getLsbD_of_ge s _ hi]
    simp
theorem bits_or {s t : BitVec 256} (i : Nat) : Bit (s ||| t) i ↔ Bit s i ∨ Bit t i := by
  unfold Bit
  rw [BitVec.getLsbD_or, Bool.or_eq_true]
theorem bit_zero (i : Nat) : ¬ Bit 0#256 i := by unfold Bit; simp
theorem bit_none {s : BitVec 256} (h : ∀ i, ¬ Bit s i) : s = 0#256 := set_ext fun x _ => ⟨fun h1 => absurd h1 (h x), fun h1 => absurd h1 (bit_zero x)⟩
theorem nodup_at {l : List Nat} (h : l.Nodup) {i j x : Nat} (hi : l[i]? = some x) (hj : l[j]? = some x) : i = j := by
  obtain ⟨h1, h2⟩ := List.getElem?_eq_some_iff.1 hi
  obtain ⟨h3, h4⟩ := List.getElem?_eq_some_iff.1 hj
  rcases Nat.lt_trichotomy i j with hl | he | hl
  · exact absurd (h2.trans h4.symm) (List.pairwise_iff_getElem.1 h i j h1 h3 hl)
  · exact he
  · exact absurd (h4.trans h2.symm) (List.pairwise_iff_getElem.1 h j i h3 h1 hl)
/-- What Attract tells is a way to force one's way, with moves. -/
theorem played_attr {g : G} (hr : g.Right) {I To : BitVec 256} {p : Int} (hp : p = 0 ∨ p = 1) (hI : ∀ i, Bit I i → i < g.owner.length) (hg : Goes g (Bit I)) {m : List Int} (h : Played g (I &&& full g.owner.length) p To m) :
    m.length = g.owner.length ∧ (∃ rk, Attr g (Bit I) (Bit To) (Bit (attOf g I p To)) p (fun i => m.getD i (-1)) rk) ∧ (∀ i, ¬ Bit (attOf g I p To) i ∨ Bit To i ∨ g.owner.getD i 0 ≠ p → m.getD i (-1) = -1) ∧ ∀ i, Bit (attOf g I p To) i → ¬ Bit To i → g.owner.getD i 0 = p → m.getD i (-1) ≠ -1 := by
  have hm := hr.many
  have hII := full_and (n := g.owner.length) hI
  obtain ⟨A, Q, o, v, hR, rfl⟩ := h
  have hA := hR.set_is hr hp
  rw [hII] at hR
  have hQ : ∀ x, Bit (attOf g I p To) x ↔ x ∈ Q := fun x => by rw [← hA]; exact hR.bits x
  have hat : ∀ x, Bit (attOf g I p To) x ↔ Att g I p To x := fun x => by rw [hQ, ← hR.bits x]; exact hR.done hr x
  have hv : ∀ i, i < g.owner.length → (rowOf g.owner.length v).getD i (-1) = v i := fun i hi => by rw [List.getD_eq_getElem?_getD, rowOf_at v hi]; rfl
  have hbd : ∀ i, Bit (attOf g I p To) i → i < g.owner.length := fun i hi => ((hat i).1 hi).bound.1
  have hmv : ∀ i m : Nat, i < g.owner.length → (m : Int) ∈ g.moves.getD i [] → m < g.owner.length := fun i m hi h => by
    have := (rise_bounds (hr.at i hi).2.2.2.2 m h).2
    omega
  have hrk : ∃ rk : Nat → Nat, ∀ k x, Q[k]? = some x → rk x = k := by
    refine ⟨fun x => open Classical in if h : ∃ k : Nat, Q[k]? = some x then h.choose else 0, fun k x hk => ?_⟩
    have h1 : ∃ k : Nat, Q[k]? = some x := ⟨k, hk⟩
    simp only [dif_pos h1]
    exact nodup_at hR.nod h1.choose_spec hk
  obtain ⟨rk, hrk⟩ := hrk
  have hbit : ∀ {s : BitVec 256} {i : Nat}, ¬ Bit s i → s.getLsbD i = false := fun {s i} h => by
    cases e : s.getLsbD i
    · rfl
    · exact absurd e h
  refine ⟨rowOf_len _ _, ⟨rk, fun i hi => ((hat i).1 hi).bound.2, fun i h1 h2 => (hat i).2 (.base i (hI i h1) h1 h2), fun i hi ht ho => ?_, fun i hi ht ho j hj hIj => ?_, fun i hi ht ho j hj hIj hAj => ?_, fun i hi ht ho => ?_⟩, fun i hi => ?_, fun i hi ht ho => ?_⟩
  · obtain ⟨k, hk⟩ := List.mem_iff_getElem?.1 ((hQ i).1 hi)
    obtain ⟨m, l, e1, e2, e3, e4⟩ := hR.leads k i hk (hbit ht) ho
    refine ⟨m, by rw [hv i (hbd i hi), e1], e4, (hQ m).2 (List.mem_of_getElem? e2), ?_⟩
    rw [hrk l m e2, hrk k i hk]
    exact e3
  · obtain ⟨k, hk⟩ := List.mem_iff_getElem?.1 ((hQ i).1 hi)
    obtain ⟨l, e2, e3⟩ := hR.alls k i hk (hbit ht) ho j hj hIj
    refine ⟨(hQ j).2 (List.mem_of_getElem? e2), ?_⟩
    rw [hrk l j e2, hrk k i hk]
    exact e3
  · exact ht ((hat i).2 (.own i j (hI i hi) hi ho hj hIj ((hat j).1 hAj)))
  · refine Classical.byContradiction fun hc => ht ((hat i).2 (.oth i (hI i hi) hi ho ?_ fun m h5 h6 => ?_))
    · obtain ⟨j, e1, e2⟩ := hg i hi
      exact ⟨j, e1, e2⟩
    · exact Classical.byContradiction fun h7 => hc ⟨m, h5, h6, fun h8 => h7 ((hat m).1 h8)⟩
  · rcases Nat.lt_or_ge i g.owner.length with hl | hl
    · rw [hv i hl]
      refine hR.nones i ?_
      rcases hi with h1 | h1 | h1
      · exact .inl fun h2 => h1 ((hQ i).2 h2)
      · exact .inr (.inl h1)
      · exact .inr (.inr h1)
    · rw [List.getD_eq_getElem?_getD, List.getElem?_eq_none (by rw [rowOf_len]; exact hl)]
      rfl
  · obtain ⟨k, hk⟩ := List.mem_iff_getElem?.1 ((hQ i).1 hi)
    obtain ⟨m, l, e1, e2, e3, e4⟩ := hR.leads k i hk (hbit ht) ho
    rw [hv i (hbd i hi), e1]
    omega
/-- The moves that are chosen, with the forced ones written over. -/
def frc (c m : List Int) : List Int := (List.range c.length).map fun j => if m.getD j (-1) = -1 then c.getD j (-1) else m.getD j (-1)
theorem frc_len (c m : List Int) : (frc c m).length = c.length := by unfold frc; simp
theorem frc_at {c m : List Int} (h : m.length ≤ c.length) (j : Nat) : (frc c m).getD j (-1) = if m.getD j (-1) = -1 then c.getD j (-1) else m.getD j (-1) := by
  rcases Nat.lt_or_ge j c.length with hj | hj
  · unfold frc
    rw [List.getD_eq_getElem?_getD, List.getElem?_map, List.getElem?_range hj]
    rfl
  · have e : ∀ l : List Int, l.length ≤ c.length → l.getD j (-1) = -1 := fun l hl => by rw [List.getD_eq_getElem?_getD, List.getElem?_eq_none (by omega)]; rfl
    rw [e _ (by rw [frc_len]; exact Nat.le_refl _), e m h, e c (Nat.le_refl _)]
    simp
/-- The first of some numbers that a set has. -/
def first (I : BitVec 256) (l : List Int) : Option Int := l.find? fun x => has I x
/-- The moves that are chosen, with any that stay written over, where a set is and a player moves. -/
def sty (g : G) (p : Int) (I S : BitVec 256) (c : List Int) : List Int := (List.range c.length).map fun j => if S.getLsbD j = true ∧ g.owner.getD j 0 = p then (first I (g.moves.getD j [])).getD (c.getD j (-1)) else c.getD j (-1)
theorem sty_len (g : G) (p : Int) (I S : BitVec 256) (c : List Int) : (sty g p I S c).length = c.length := by unfold sty; simp
theorem sty_at {g : G} {p : Int} {I S : BitVec 256} {c : List Int} {j : Nat} (hj : j < c.length) : (sty g p I S c).getD j (-1) = if Bit S j ∧ g.owner.getD j 0 = p then (first I (g.moves.getD j [])).getD (c.getD j (-1)) else c.getD j (-1) := by
  unfold sty
  rw [List.getD_eq_getElem?_getD, List.getElem?_map, List.getElem?_range hj]
  rfl
theorem sty_else {g : G} {p : Int} {I S : BitVec 256} {c : List Int} {j : Nat} (h : ¬ (Bit S j ∧ g.owner.getD j 0 = p)) : (sty g p I S c).getD j (-1) = c.getD j (-1) := by
  rcases Nat.lt_or_ge j c.length with hj | hj
  · rw [sty_at hj, if_neg h]
  · rw [List.getD_eq_getElem?_getD, List.getD_eq_getElem?_getD, List.getElem?_eq_none (by rw [sty_len]; exact hj), List.getElem?_eq_none hj]
/-- What taking a part apart comes to, as a player p sees it. -/
structure Ap (g : G) (p : Int) (I Wp Wq : BitVec 256) (c c' : List Int) : Prop where
  len : c'.length = c.length
  same : ∀ j, ¬ Bit I j → c'.getD j (-1) = c.getD j (-1)
  mine : WinsIn g (Bit I) p (fun i => c'.getD i (-1)) (Bit Wp)
  his : WinsIn g (Bit I) (1 - p) (fun i => c'.getD i (-1)) (Bit Wq)
  all : ∀ i, Bit I i → Bit Wp i ∨ Bit Wq i
theorem Ap.swap {g : G} {p : Int} {I Wp Wq : BitVec 256} {c c' : List Int} (h : Ap g p I Wp Wq c c') : Ap g (1 - p) I Wq Wp c c' :=
  ⟨h.len, h.same, h.his, by rw [show 1 - (1 - p) = p by omega]; exact h.mine, fun i hi => (h.all i hi).symm⟩
theorem wins_zero (g : G) (In : Nat → Prop) (p : Int) (mv : Nat → Int) : WinsIn g In p mv (Bit 0#256) := (wins_none g In p mv).iff (fun _ => Iff.rfl) fun i => ⟨fun h => h.elim, fun h => bit_zero i h⟩
theorem Ap.none (g : G) (p : Int) (c : List Int) : Ap g p 0#256 0#256 0#256 c c := ⟨rfl, fun _ _ => rfl, wins_zero .., wins_zero .., fun i hi => absurd hi (bit_zero i)⟩
section
variable {g : G} (hr : g.Right) {p : Int} (hp : p = 0 ∨ p = 1) {I T : BitVec 256} (hI : ∀ i, Bit I i → i < g.owner.length) (hg : Goes g (Bit I))
include hr hI hg in
theorem first_in {i : Nat} (hi : Bit I i) : ∃ j : Nat, first I (g.moves.getD i []) = some (j : Int) ∧ (j : Int) ∈ g.moves.getD i [] ∧ Bit I j := by
  have hm := hr.many
  obtain ⟨j, h1, h2⟩ := hg i hi
  have hhas : ∀ j : Nat, has I (j : Int) = I.getLsbD j := fun j => by
    unfold has
    first
      | simp
      | skip
  obtain ⟨x, hx⟩ : ∃ x, first I (g.moves.getD i []) = some x := by
    unfold first
    rw [← Option.isSome_iff_exists, List.find?_isSome]
    exact ⟨j, h1, by rw [hhas]; exact h2⟩
  have h3 := List.find?_some hx
  have h4 := List.mem_of_find?_eq_some hx
  have h5 := hr.moves_in (hI i hi) x h4
  obtain ⟨y, rfl⟩ := Int.eq_ofNat_of_zero_le h5.1
  exact ⟨y, hx, h4, by rw [hhas] at h3; exact h3⟩
include hr hp hI hg in
theorem ap_all {d : Int} (hd : ∀ i, Bit I i → g.prio.getD i 0 ≤ d) (hT : ∀ i, Bit T i ↔ Bit I i ∧ g.prio.getD i 0 = d) (hdp : d % 2 = p) {c m c' : List Int} {W : BitVec 256} (hc : c.length = g.owner.length) (hm : Played g (I &&& full g.owner.length) p T m)
    (h : Ap g p (I &&& ~~~(attOf g I p T)) W 0#256 (frc c m) c') : Ap g p I I 0#256 c (sty g p I T c') := by
  obtain ⟨hml, ⟨rk, hA⟩, hno, hyes⟩ := played_attr hr hp hI hg hm
  have hTA : ∀ i, Bit T i → Bit (attOf g I p T) i := fun i hi => hA.base i ((hT i).1 hi).1 hi
  have hcl : c'.length = g.owner.length := by rw [h.len, frc_len, hc]
  have hIA : ∀ i, Bit (I &&& ~~~(attOf g I p T)) i ↔ Bit I i ∧ ¬ Bit (attOf g I p T) i := bit_minus
  refine ⟨by rw [sty_len, h.len, frc_len], fun j hj => ?_, ?_, wins_zero .., fun i hi => .inl hi⟩
  · rw [sty_else (fun e => hj ((hT j).1 e.1).1), h.same j (fun e => hj ((hIA j).1 e).1), frc_at (by omega), if_pos (hno j (.inl fun e => hj (hA.sub j e)))]
  · refine wins_all d hd hT hdp (hA.congr fun i h1 h2 ho => ?_) ?_ fun i h1 ho => ?_
    · show (sty g p I T c').getD i (-1) = m.getD i (-1)
      rw [sty_else (fun e => h2 e.1), h.same i (fun e => ((hIA i).1 e).2 h1), frc_at (by omega), if_neg (hyes i h1 h2 ho)]
    · have h1 := h.mine.iff hIA fun i => (⟨fun h2 => (hIA i).1 (h.mine.sub i h2), fun h2 => (h.all i ((hIA i).2 h2)).resolve_right (bit_zero i)⟩ : Bit W i ↔ Bit I i ∧ ¬ Bit (attOf g I p T) i)
      refine h1.congr fun i h2 _ => ?_
      show (sty g p I T c').getD i (-1) = c'.getD i (-1)
      exact sty_else fun e => h2.2 (hTA i e.1)
    · have hi := ((hT i).1 h1).1
      obtain ⟨j, e1, e2, e3⟩ := first_in hr hI hg hi
      refine ⟨j, ?_, e2, e3⟩
      rw [sty_at (by rw [hcl]; exact hI i hi), if_pos ⟨h1, ho⟩, e1]
      rfl
include hr hp hI hg in
theorem ap_part {c m c' m2 c'' : List Int} {V L W2 V2 : BitVec 256} (hc : c.length = g.owner.length) (hm : Played g (I &&& full g.owner.length) p T m)
    (h : Ap g p (I &&& ~~~(attOf g I p T)) V L (frc c m) c') (hm2 : Played g (I &&& full g.owner.length) (1 - p) L m2) (h2 : Ap g p (I &&& ~~~(attOf g I (1 - p) L)) W2 V2 (frc c' m2) c'') : Ap g p I W2 (V2 ||| attOf g I (1 - p) L) c c'' := by
  have hq : 1 - p = 0 ∨ 1 - p = 1 := by omega
  obtain ⟨hml, ⟨rk, hA⟩, hno, -⟩ := played_attr hr hp hI hg hm
  obtain ⟨hml2, ⟨rk2, hB⟩, hno2, hyes2⟩ := played_attr hr hq hI hg hm2
  have hIA : ∀ i, Bit (I &&& ~~~(attOf g I p T)) i ↔ Bit I i ∧ ¬ Bit (attOf g I p T) i := bit_minus
  have hIB : ∀ i, Bit (I &&& ~~~(attOf g I (1 - p) L)) i ↔ Bit I i ∧ ¬ Bit (attOf g I (1 - p) L) i := bit_minus
  have hw : ∀ i, Bit I i → g.owner.getD i 0 = p ∨ g.owner.getD i 0 = 1 - p := fun i hi => by
    have := (hr.at i (hI i hi)).1
    omega
  have hcl : c'.length = g.owner.length := by rw [h.len, frc_len, hc]
  have hLI : ∀ i, Bit L i → Bit I i := fun i hi => ((hIA i).1 (h.his.sub i hi)).1
  have hLB : ∀ i, Bit L i → Bit (attOf g I (1 - p) L) i := fun i hi => hB.base i (hLI i hi) hi
  have e3 : ∀ j, (frc c' m2).getD j (-1) = if m2.getD j (-1) = -1 then c'.getD j (-1) else m2.getD j (-1) := frc_at (by omega)
  refine ⟨by rw [h2.len, frc_len, h.len, frc_len], fun j hj => ?_, ?_, ?_, fun i hi => ?_⟩
  · rw [h2.same j (fun e => hj ((hIB j).1 e).1), e3, if_pos (hno2 j (.inl fun e => hj (hB.sub j e))), h.same j (fun e => hj ((hIA j).1 e).1), frc_at (by omega), if_pos (hno j (.inl fun e => hj (hA.sub j e)))]
  · exact wins_same hw hB (h2.mine.iff hIB fun _ => Iff.rfl)
  · have hL : WinsIn g (fun i => Bit I i ∧ ¬ Bit (attOf g I p T) i) (1 - p) (fun i => c''.getD i (-1)) (Bit L) := (h.his.iff hIA fun _ => Iff.rfl).congr fun i h1 _ => by
      show c''.getD i (-1) = c'.getD i (-1)
      rw [h2.same i (fun e => ((hIB i).1 e).2 (hLB i h1)), e3, if_pos (hno2 i (.inr (.inl h1)))]
    have hB2 : Attr g (Bit I) (Bit L) (Bit (attOf g I (1 - p) L)) (1 - p) (fun i => c''.getD i (-1)) rk2 := hB.congr fun i h1 h3 ho => by
      show c''.getD i (-1) = m2.getD i (-1)
      rw [h2.same i (fun e => ((hIB i).1 e).2 h1), e3, if_neg (hyes2 i h1 h3 ho)]
    refine (wins_other hw hA hL hB2 (h2.his.iff hIB fun _ => Iff.rfl)).iff (fun _ => Iff.rfl) fun i => ?_
    rw [bits_or]
    exact or_comm
  · by_cases hb : Bit (attOf g I (1 - p) L) i
    · exact .inr ((bits_or i).2 (.inr hb))
    · exact (h2.all i ((hIB i).2 ⟨hi, hb⟩)).imp id fun h => (bits_or i).2 (.inl h)
end
/-- How many a set holds below n. -/
def cntS (n : Nat) (I : BitVec 256) : Nat := (List.range n).countP fun i => I.getLsbD i
theorem cntS_less {n i : Nat} {I A : BitVec 256} (hi : i < n) (h1 : Bit I i) (h2 : Bit A i) : cntS n (I &&& ~~~A) + 1 ≤ cntS n I := by
  unfold cntS
  refine countP_lt (List.range n) (fun x _ hx => ((bit_minus x).1 hx).1) ⟨i, List.mem_range.2 hi, ?_, h1⟩
  cases e : (I &&& ~~~A).getLsbD i
  · rfl
  · exact absurd h2 ((bit_minus i).1 e).2
theorem cntS_le (n : Nat) (I : BitVec 256) : cntS n I ≤ n := by
  unfold cntS
  have := List.countP_le_length (p := fun i => I.getLsbD i) (l := List.range n)
  rw [List.length_range] at this
  exact this
end P
end Go.Proofs.YtghdjkpndhcplaaDoor
end
