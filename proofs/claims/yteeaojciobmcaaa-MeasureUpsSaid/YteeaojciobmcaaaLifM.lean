/- What the lifter keeps in memory. -/
import Derived.Test.YteeaojciobmcaaaLifP
import Derived.Test.YteeaojciobmcaaaEvenP
namespace Go.Proofs.Yteeaojciobmcaaa
open Go.RowKit
namespace W

theorem Box.ne {w : World} {b b' : Nat} {t t' : TypeId} {cs cs' : Array Value} (h : Box w b t cs) (k : Box w b' t' cs') (hne : t ≠ t') : b ≠ b' := by
  rintro rfl
  unfold Box at h k
  rw [h] at k
  injection k with k
  injection k with _ k
  exact hne k
section
variable {w : World} {q j : Nat} (t : P.Tup)
theorem far5 {b : Nat} {ty : TypeId} {cs : Array Value} (h : Box w b ty cs) (hne : b ≠ q) : Box (((((w.setCell ⟨q, j * 5, none⟩ (.bool t.top)).setCell ⟨q, j * 5 + 1, none⟩ (.int .i64 t.a)).setCell ⟨q, j * 5 + 2, none⟩ (.int .i64 t.b)).setCell ⟨q, j * 5 + 3, none⟩ (.int .i64 t.c)).setCell ⟨q, j * 5 + 4, none⟩ (.int .i64 t.d)) b ty cs := ((((h.far hne _).far hne _).far hne _).far hne _).far hne _
theorem grown5 : w.grownBy (((((w.setCell ⟨q, j * 5, none⟩ (.bool t.top)).setCell ⟨q, j * 5 + 1, none⟩ (.int .i64 t.a)).setCell ⟨q, j * 5 + 2, none⟩ (.int .i64 t.b)).setCell ⟨q, j * 5 + 3, none⟩ (.int .i64 t.c)).setCell ⟨q, j * 5 + 4, none⟩ (.int .i64 t.d)) (some q) := ((((grown_set w ⟨q, j * 5, none⟩ (.bool t.top)).trans (grown_set _ ⟨q, j * 5 + 1, none⟩ (.int .i64 t.a))).trans (grown_set _ ⟨q, j * 5 + 2, none⟩ (.int .i64 t.b))).trans (grown_set _ ⟨q, j * 5 + 3, none⟩ (.int .i64 t.c))).trans (grown_set _ ⟨q, j * 5 + 4, none⟩ (.int .i64 t.d))
end
/-- A row grows by one: it lies where it lay, or in a new block. -/
theorem GrowR.push2 {w w' : World} {lo k : Nat} {L : List Value} {ls : List (List Int)} {v v' : Value} {l l' : List Int} (h : GrowR w lo L ls) (hv : L[k]? = some v) (hl : ls[k]? = some l) (hg : w.grownBy w' v.ownBlock)
    (ho : OwnI w' lo v' l') (hn : v'.ownBlock = v.ownBlock ∨ ∃ b, v'.ownBlock = some b ∧ w.heap.size ≤ b) (hp : l' ≠ []) : GrowR w' lo (L.set k v') (ls.set k l') := by
  obtain ⟨v0, hv0, hov⟩ := h.rows k l hl
  rw [hv] at hv0
  injection hv0 with hv0
  subst hv0
  have hk : k < L.length := (List.getElem?_eq_some_iff.1 hv).1
  have other : ∀ (j : Nat) (u : Value), L[j]? = some u → j ≠ k → u.ownBlock = none ∨ u.ownBlock ≠ v.ownBlock := by
    intro j u hu hjk
    by_cases e : l = []
    · subst e
      rw [h.nil k hl] at hv
      injection hv with hv
      subst hv
      by_cases e2 : u.ownBlock = none
      · exact .inl e2
      · exact .inr e2
    · have hj : j < ls.length := by rw [← h.len]; exact (List.getElem?_eq_some_iff.1 hu).1
      obtain ⟨u0, hu0, hou⟩ := h.rows j _ (List.getElem?_eq_getElem hj)
      rw [hu] at hu0
      injection hu0 with hu0
      subst hu0
      exact own_apart hov hou (List.length_pos_iff.2 e) (h.apart k j v u hv hu (fun e => hjk e.symm))
  refine ⟨fun j m hm => ?_, ?_, by simp [h.len], fun j hj => ?_⟩
  · rw [List.getElem?_set] at hm
    rw [List.getElem?_set]
    by_cases e : k = j
    · subst e
      rw [if_pos rfl] at hm ⊢
      rw [if_pos (by rw [← h.len]; exact hk)] at hm
      injection hm with hm
      subst hm
      exact ⟨v', by rw [if_pos hk], ho⟩
    · rw [if_neg e] at hm ⊢
      obtain ⟨x, h1, h2⟩ := h.rows j m hm
      exact ⟨x, h1, own_kept h2 hg (other j x h1 (fun e2 => e e2.symm))⟩
  · intro i j u x hi hj hne
    have key : ∀ (i : Nat) (u : Value), L[i]? = some u → i ≠ k → hold u = none ∨ hold u ≠ hold v' := by
      intro i u hu hik
      cases e : hold u with
      | none => exact .inl rfl
      | some q =>
        refine .inr fun e2 => ?_
        have h1 := hold_own e
        have h2 := hold_own e2.symm
        rcases hn with hn | ⟨b, hn, hb⟩
        · rcases other i u hu hik with h3 | h3
          · rw [h3] at h1; cases h1
          · exact h3 (by rw [h1, ← hn, h2])
        · have hi2 : i < ls.length := by rw [← h.len]; exact (List.getElem?_eq_some_iff.1 hu).1
          obtain ⟨u0, hu0, hou⟩ := h.rows i _ (List.getElem?_eq_getElem hi2)
          rw [hu] at hu0
          injection hu0 with hu0
          subst hu0
          have h4 := (own_lt hou q h1).2
          rw [hn] at h2
          injection h2 with h2
          omega
    rw [List.getElem?_set] at hi hj
    by_cases e1 : k = i
    · subst e1
      rw [if_pos rfl, if_pos hk] at hi
      injection hi with hi
      subst hi
      rw [if_neg hne] at hj
      rcases key j x hj (fun e => hne e.symm) with h1 | h1
      · cases e : hold v' with
        | none => exact .inl rfl
        | some q => exact .inr (by rw [h1]; simp)
      · exact .inr fun e => h1 e.symm
    · rw [if_neg e1] at hi
      by_cases e2 : k = j
      · subst e2
        rw [if_pos rfl, if_pos hk] at hj
        injection hj with hj
        subst hj
        exact key i u hi (fun e => e1 e.symm)
      · rw [if_neg e2] at hj
        exact h.apart i j u x hi hj hne
  · rw [List.getElem?_set] at hj ⊢
    by_cases e : k = j
    · subst e
      rw [if_pos rfl] at hj
      split at hj
      · injection hj with hj; exact absurd hj hp
      · cases hj
    · rw [if_neg e] at hj ⊢
      exact h.nil j hj
/-- A lifter's cells. -/
def lcs (s0 s1 s2 : Value) (bt : P.Tup) (vt vB vo vp vw : Value) : Array Value := #[s0, s1, s2, .int .i64 bt.a, .int .i64 bt.b, .int .i64 bt.c, .int .i64 bt.d, vt, vB, vo, vp, vw]
/-- A lifter in memory. -/
structure Lm (wb : World) (N n qL pt pB pp pw qo ko : Nat) (s0 s1 s2 : Value) (bt : P.Tup) (O : List Nat) (B : List (List Int)) (L : List Value) (l : List P.Tup) (m : Nat → Int) (Wt : Nat → Bool) (w : World) : Prop where
  lbox : Box w qL 73 (lcs s0 s1 s2 bt (.slice (some ⟨pt, 0, none⟩) n n) (.slice (some ⟨pB, 0, none⟩) n n) (.slice (some ⟨qo, 0, none⟩) n ko) (.slice (some ⟨pp, 0, none⟩) n n) (.slice (some ⟨pw, 0, none⟩) n n))
  tups : Box w pt 26 (flatT l)
  head : Box w pB 30 L.toArray
  rows : GrowR w N L B
  ord : w.ownsRow wb.heap.size 3 1 (.slice (some ⟨qo, 0, none⟩) n ko) n (nv O)
  plc : Box w pp 3 (im n m)
  wts : Box w pw 4 (bl n Wt)
  low : Below wb.heap.size wb w
  big : N ≤ w.heap.size
  los : wb.heap.size ≤ qL ∧ wb.heap.size ≤ pt ∧ wb.heap.size ≤ pB ∧ wb.heap.size ≤ pp ∧ wb.heap.size ≤ pw
  his : qL < N ∧ pt < N ∧ pB < N ∧ pp < N ∧ pw < N ∧ qo < N
  apart : qo = pp → n = 1
  llen : l.length = n
  blen : L.length = n
section
variable {wb : World} {N n qL pt pB pp pw qo ko : Nat} {s0 s1 s2 : Value} {bt : P.Tup} {O : List Nat} {B : List (List Int)} {L : List Value} {l : List P.Tup} {m : Nat → Int} {Wt : Nat → Bool} {w : World}
theorem Lm.on (h : Lm wb N n qL pt pB pp pw qo ko s0 s1 s2 bt O B L l m Wt w) {w' : World} (hb : Below w.heap.size w w') : Lm wb N n qL pt pB pp pw qo ko s0 s1 s2 bt O B L l m Wt w' :=
  have hg := grown_of_below hb none
  ⟨h.lbox.keep hg, h.tups.keep hg, h.head.keep hg, h.rows.grown hg, own_grown h.ord hg, h.plc.keep hg, h.wts.keep hg, h.low.trans (hb.mono h.low.size), Nat.le_trans h.big hb.size, h.los, h.his, h.apart, h.llen, h.blen⟩
theorem Lm.rowb (h : Lm wb N n qL pt pB pp pw qo ko s0 s1 s2 bt O B L l m Wt w) {j : Nat} {u : Value} (hu : L[j]? = some u) : ∀ b, u.ownBlock = some b → N ≤ b := fun b hb => (h.rows.low hu b hb).1
theorem Lm.rowx (h : Lm wb N n qL pt pB pp pw qo ko s0 s1 s2 bt O B L l m Wt w) {q : Nat} (hq : q < N) : ∀ (j : Nat) (u : Value), L[j]? = some u → u.ownBlock = none ∨ u.ownBlock ≠ some q := fun j u hu => .inr fun e => by have := h.rowb hu q e; omega
/-- A place waits, or does so no more. -/
theorem Lm.setW (h : Lm wb N n qL pt pB pp pw qo ko s0 s1 s2 bt O B L l m Wt w) (i : Nat) (b : Bool) : Lm wb N n qL pt pB pp pw qo ko s0 s1 s2 bt O B L l m (fun y => if y = i then b else Wt y) (w.setCell ⟨pw, i, none⟩ (.bool b)) where
  lbox := h.lbox.far (h.lbox.ne h.wts (by decide)) _
  tups := h.tups.far (h.tups.ne h.wts (by decide)) _
  head := h.head.far (h.head.ne h.wts (by decide)) _
  rows := h.rows.kept (grown_set w ⟨pw, i, none⟩ _) (h.rowx h.his.2.2.2.2.1)
  ord := own_set h.ord h.wts (by decide) i _
  plc := h.plc.far (h.plc.ne h.wts (by decide)) _
  wts := by
    have := h.wts.set i (.bool b)
    rw [bl_set] at this
    exact this
  low := h.low.setCell h.los.2.2.2.2 _
  big := by have := h.big; simp [World.setCell]; exact this
  los := h.los
  his := h.his
  apart := h.apart
  llen := h.llen
  blen := h.blen
/-- A tuple is written over. -/
theorem Lm.setT (h : Lm wb N n qL pt pB pp pw qo ko s0 s1 s2 bt O B L l m Wt w) (j : Nat) (hj : j < n) (t : P.Tup) : Lm wb N n qL pt pB pp pw qo ko s0 s1 s2 bt O B L (l.set j t) m Wt (((((w.setCell ⟨pt, j * 5, none⟩ (.bool t.top)).setCell ⟨pt, j * 5 + 1, none⟩ (.int .i64 t.a)).setCell ⟨pt, j * 5 + 2, none⟩ (.int .i64 t.b)).setCell ⟨pt, j * 5 + 3, none⟩ (.int .i64 t.c)).setCell ⟨pt, j * 5 + 4, none⟩ (.int .i64 t.d)) where
  lbox := far5 t h.lbox (h.lbox.ne h.tups (by decide))
  tups := h.tups.setAt j (by rw [h.llen]; exact hj) t
  head := far5 t h.head (h.head.ne h.tups (by decide))
  rows := h.rows.kept (grown5 t) (h.rowx h.his.2.1)
  ord := own_kept h.ord (grown5 t) (.inr (own_box h.ord h.tups (by decide)))
  plc := far5 t h.plc (h.plc.ne h.tups (by decide))
  wts := far5 t h.wts (h.wts.ne h.tups (by decide))
  low := ((((h.low.setCell (p := ⟨pt, _, none⟩) h.los.2.1 _).setCell (p := ⟨pt, _, none⟩) h.los.2.1 _).setCell (p := ⟨pt, _, none⟩) h.los.2.1 _).setCell (p := ⟨pt, _, none⟩) h.los.2.1 _).setCell (p := ⟨pt, _, none⟩) h.los.2.1 _
  big := Nat.le_trans h.big (grown5 (q := pt) (j := j) t).size
  los := h.los
  his := h.his
  apart := h.apart
  llen := by rw [List.length_set]; exact h.llen
  blen := h.blen
/-- The places are written over; nothing else. -/
theorem Lm.viaP (h : Lm wb N n qL pt pB pp pw qo ko s0 s1 s2 bt O B L l m Wt w) {w' : World} {m' : Nat → Int} (hk : Rk.Keeps (KX w.heap.size [pp]) w w') (hp : Box w' pp 3 (im n m')) (h1 : n = 1 → m' 0 = 0 ∧ O = [0]) : Lm wb N n qL pt pB pp pw qo ko s0 s1 s2 bt O B L l m' Wt w' := by
  have not : ∀ {q : Nat}, q ≠ pp → q ∉ [pp] := fun hq e => hq (by simpa using e)
  have hsz := hk.size
  refine ⟨kx_box hk h.lbox h.lbox.lt (not (h.lbox.ne h.plc (by decide))), kx_box hk h.tups h.tups.lt (not (h.tups.ne h.plc (by decide))), kx_box hk h.head h.head.lt (not (h.head.ne h.plc (by decide))),
    ⟨fun j z hz => ?_, h.rows.apart, h.rows.len, h.rows.nil⟩, ?_, hp, kx_box hk h.wts h.wts.lt (not (h.wts.ne h.plc (by decide))), ?_, Nat.le_trans h.big hsz, h.los, h.his, h.apart, h.llen, h.blen⟩
  · obtain ⟨x, hx, ho⟩ := h.rows.rows j z hz
    refine ⟨x, hx, kx_own ho hk fun b hb => ⟨(own_lt ho b hb).2, not ?_⟩⟩
    have := (own_lt ho b hb).1
    have := h.his.2.2.2.1
    omega
  · by_cases e : qo = pp
    · have hn := h.apart e
      obtain ⟨e0, eO⟩ := h1 hn
      have ho := h.ord
      rcases ho.2 with ⟨e2, _⟩ | ⟨g, cap, cur, e2, hg, hh, hnc, hcm, hcs, ht⟩
      · cases e2
      · injection e2 with e3 e4 e5
        injection e3 with e3
        injection e3 with e3
        subst e3 e5
        have hcur : cur = im n m := by
          have hx := h.plc
          rw [e] at hh
          unfold Box at hx
          rw [hx] at hh
          injection hh with hh
          injection hh with hh
          exact hh.symm
        have hz : (im n m').size = (im n m).size := by unfold im; simp
        refine ⟨ho.1, .inr ⟨qo, ko, im n m', rfl, hg, ?_, hnc, hcm, by rw [hz, ← hcur]; exact hcs, ?_⟩⟩
        · rw [e]; exact hp
        · rw [eO, hn]
          unfold im nv
          simp [e0]
    · exact kx_own h.ord hk fun b hb => ⟨(own_lt h.ord b hb).2, not (by have hb : some qo = some b := hb; injection hb with hb; omega)⟩
  · exact h.low.trans (kx_below hk (fun x hx => by simp only [List.mem_singleton] at hx; rw [hx]; exact h.los.2.2.2.1) h.low.size (Nat.le_refl _))
/-- A row has grown by one; now it is stored. -/
theorem Lm.push (h : Lm wb N n qL pt pB pp pw qo ko s0 s1 s2 bt O B L l m Wt w) {j : Nat} {u v' : Value} {row row' : List Int} (hu : L[j]? = some u) (hrow : B[j]? = some row) {w' : World} (hg : w.grownBy w' u.ownBlock)
    (ho : OwnI w' N v' row') (hat : v'.ownBlock = u.ownBlock ∨ ∃ b, v'.ownBlock = some b ∧ w.heap.size ≤ b) (hn : row' ≠ []) : Lm wb N n qL pt pB pp pw qo ko s0 s1 s2 bt O (B.set j row') (L.set j v') l m Wt (w'.setCell ⟨pB, j, none⟩ v') := by
  have far : ∀ q, q < N → some q ≠ u.ownBlock := fun q hq e => by have := h.rowb hu q e.symm; omega
  have hx := h.his
  have hs := grown_set w' ⟨pB, j, none⟩ v'
  have hB := h.head.grown hg (far _ hx.2.2.1)
  have hL := h.lbox.grown hg (far _ hx.1)
  have hT := h.tups.grown hg (far _ hx.2.1)
  have hP := h.plc.grown hg (far _ hx.2.2.2.1)
  have hW := h.wts.grown hg (far _ hx.2.2.2.2.1)
  have hO : w'.ownsRow wb.heap.size 3 1 (.slice (some ⟨qo, 0, none⟩) n ko) n (nv O) := own_kept h.ord hg (.inr (far _ hx.2.2.2.2.2))
  have hR := h.rows.push2 hu hrow hg ho hat hn
  have hlow : Below wb.heap.size wb w' := h.low.grown hg h.low.size fun k hk => Nat.le_trans (Nat.le_trans h.los.1 (Nat.le_of_lt hx.1)) (h.rowb hu k hk)
  refine ⟨hL.far (hL.ne hB (by decide)) _, hT.far (hT.ne hB (by decide)) _, ?_, hR.kept hs fun i y hy => .inr fun e => ?_, own_set hO hB (by decide) j v', hP.far (hP.ne hB (by decide)) _, hW.far (hW.ne hB (by decide)) _, hlow.setCell h.los.2.2.1 _, ?_, h.los, h.his, h.apart, h.llen, by rw [List.length_set]; exact h.blen⟩
  · have := hB.set j v'
    rw [List.setIfInBounds_toArray] at this
    exact this
  · have := (hR.low hy pB e).1
    omega
  · have := h.big
    have := hg.size
    simp [World.setCell]
    omega
end
end W
end Go.Proofs.Yteeaojciobmcaaa
