/- What the lifter keeps in memory. A lifter as it is begun. A lift at a place of the lifter. -/
import Derived.Test.YteeaojciobmcaaaMea
import Derived.Test.YteeaojciobmcaaaEvenP
import Derived.Deep.Cut
import Derived.Lib.Hide
import Derived.Deep.QuietTactic
import Derived.BigQuiet
import Derived.Test.YteeaojciobmcaaaUpA
section
namespace Go.Proofs.Yteeaojciobmcaaa
open Go.RowKit
namespace W

theorem Box.ne {w : World} {b b' : Nat} {t t' : TypeId} {cs cs' : Array Value} (h : Box w b t cs) (k : Box w b' t' cs') (hne : t ≠ t') : b ≠ b' := by
  rintro rfl
  unfold Box at h k
  rw [h] at k
  injection k with k
  injection k with _ k
  exact hne k
section
variable {w : World} {q j : Nat} (t : P.Tup)
theorem far5 {b : Nat} {ty : TypeId} {cs : Array Value} (h : Box w b ty cs) (hne : b ≠ q) : Box (((((w.setCell ⟨q, j * 5, none⟩ (.bool t.top)).setCell ⟨q, j * 5 + 1, none⟩ (.int .i64 t.a)).setCell ⟨q, j * 5 + 2, none⟩ (.int .i64 t.b)).setCell ⟨q, j * 5 + 3, none⟩ (.int .i64 t.c)).setCell ⟨q, j * 5 + 4, none⟩ (.int .i64 t.d)) b ty cs := ((((h.far hne _).far hne _).far hne _).far hne _).far hne _
theorem grown5 : w.grownBy (((((w.setCell ⟨q, j * 5, none⟩ (.bool t.top)).setCell ⟨q, j * 5 + 1, none⟩ (.int .i64 t.a)).setCell ⟨q, j * 5 + 2, none⟩ (.int .i64 t.b)).setCell ⟨q, j * 5 + 3, none⟩ (.int .i64 t.c)).setCell ⟨q, j * 5 + 4, none⟩ (.int .i64 t.d)) (some q) := ((((grown_set w ⟨q, j * 5, none⟩ (.bool t.top)).trans (grown_set _ ⟨q, j * 5 + 1, none⟩ (.int .i64 t.a))).trans (grown_set _ ⟨q, j * 5 + 2, none⟩ (.int .i64 t.b))).trans (grown_set _ ⟨q, j * 5 + 3, none⟩ (.int .i64 t.c))).trans (grown_set _ ⟨q, j * 5 + 4, none⟩ (.int .i64 t.d))
end
/-- A row grows by one: it lies where it lay, or in a new block. -/
theorem GrowR.push2 {w w' : World} {lo k : Nat} {L : List Value} {ls : List (List Int)} {v v' : Value} {l l' : List Int} (h : GrowR w lo L ls) (hv : L[k]? = some v) (hl : ls[k]? = some l) (hg : w.grownBy w' v.ownBlock)
    (ho : OwnI w' lo v' l') (hn : v'.ownBlock = v.ownBlock ∨ ∃ b, v'.ownBlock = some b ∧ w.heap.size ≤ b) (hp : l' ≠ []) : GrowR w' lo (L.set k v') (ls.set k l') := by
  obtain ⟨v0, hv0, hov⟩ := h.rows k l hl
  rw [hv] at hv0
  injection hv0 with hv0
  subst hv0
  have hk : k < L.length := (List.getElem?_eq_some_iff.1 hv).1
  have other : ∀ (j : Nat) (u : Value), L[j]? = some u → j ≠ k → u.ownBlock = none ∨ u.ownBlock ≠ v.ownBlock := by
    intro j u hu hjk
    by_cases e : l = []
    · subst e
      rw [h.nil k hl] at hv
      injection hv with hv
      subst hv
      by_cases e2 : u.ownBlock = none
      · exact .inl e2
      · exact .inr e2
    · have hj : j < ls.length := by rw [← h.len]; exact (List.getElem?_eq_some_iff.1 hu).1
      obtain ⟨u0, hu0, hou⟩ := h.rows j _ (List.getElem?_eq_getElem hj)
      rw [hu] at hu0
      injection hu0 with hu0
      subst hu0
      exact own_apart hov hou (List.length_pos_iff.2 e) (h.apart k j v u hv hu (fun e => hjk e.symm))
  refine ⟨fun j m hm => ?_, ?_, by simp [h.len], fun j hj => ?_⟩
  · rw [List.getElem?_set] at hm
    rw [List.getElem?_set]
    by_cases e : k = j
    · subst e
      rw [if_pos rfl] at hm ⊢
      rw [if_pos (by rw [← h.len]; exact hk)] at hm
      injection hm with hm
      subst hm
      exact ⟨v', by rw [if_pos hk], ho⟩
    · rw [if_neg e] at hm ⊢
      obtain ⟨x, h1, h2⟩ := h.rows j m hm
      exact ⟨x, h1, own_kept h2 hg (other j x h1 (fun e2 => e e2.symm))⟩
  · intro i j u x hi hj hne
    have key : ∀ (i : Nat) (u : Value), L[i]? = some u → i ≠ k → hold u = none ∨ hold u ≠ hold v' := by
      intro i u hu hik
      cases e : hold u with
      | none => exact .inl rfl
      | some q =>
        refine .inr fun e2 => ?_
        have h1 := hold_own e
        have h2 := hold_own e2.symm
        rcases hn with hn | ⟨b, hn, hb⟩
        · rcases other i u hu hik with h3 | h3
          · rw [h3] at h1; cases h1
          · exact h3 (by rw [h1, ← hn, h2])
        · have hi2 : i < ls.length := by rw [← h.len]; exact (List.getElem?_eq_some_iff.1 hu).1
          obtain ⟨u0, hu0, hou⟩ := h.rows i _ (List.getElem?_eq_getElem hi2)
          rw [hu] at hu0
          injection hu0 with hu0
          subst hu0
          have h4 := (own_lt hou q h1).2
          rw [hn] at h2
          injection h2 with h2
          omega
    rw [List.getElem?_set] at hi hj
    by_cases e1 : k = i
    · subst e1
      rw [if_pos rfl, if_pos hk] at hi
      injection hi with hi
      subst hi
      rw [if_neg hne] at hj
      rcases key j x hj (fun e => hne e.symm) with h1 | h1
      · cases e : hold v' with
        | none => exact .inl rfl
        | some q => exact .inr (by rw [h1]; simp)
      · exact .inr fun e => h1 e.symm
    · rw [if_neg e1] at hi
      by_cases e2 : k = j
      · subst e2
        rw [if_pos rfl, if_pos hk] at hj
        injection hj with hj
        subst hj
        exact key i u hi (fun e => e1 e.symm)
      · rw [if_neg e2] at hj
        exact h.apart i j u x hi hj hne
  · rw [List.getElem?_set] at hj ⊢
    by_cases e : k = j
    · subst e
      rw [if_pos rfl] at hj
      split at hj
      · injection hj with hj; exact absurd hj hp
      · cases hj
    · rw [if_neg e] at hj ⊢
      exact h.nil j hj
/-- A lifter's cells. -/
def lcs (s0 s1 s2 : Value) (bt : P.Tup) (vt vB vo vp vw : Value) : Array Value := #[s0, s1, s2, .int .i64 bt.a, .int .i64 bt.b, .int .i64 bt.c, .int .i64 bt.d, vt, vB, vo, vp, vw]
/-- A lifter in memory. -/
structure Lm (wb : World) (N n qL pt pB pp pw qo ko : Nat) (s0 s1 s2 : Value) (bt : P.Tup) (O : List Nat) (B : List (List Int)) (L : List Value) (l : List P.Tup) (m : Nat → Int) (Wt : Nat → Bool) (w : World) : Prop where
  lbox : Box w qL 73 (lcs s0 s1 s2 bt (.slice (some ⟨pt, 0, none⟩) n n) (.slice (some ⟨pB, 0, none⟩) n n) (.slice (some ⟨qo, 0, none⟩) n ko) (.slice (some ⟨pp, 0, none⟩) n n) (.slice (some ⟨pw, 0, none⟩) n n))
  tups : Box w pt 26 (flatT l)
  head : Box w pB 30 L.toArray
  rows : GrowR w N L B
  ord : w.ownsRow wb.heap.size 3 1 (.slice (some ⟨qo, 0, none⟩) n ko) n (nv O)
  plc : Box w pp 3 (im n m)
  wts : Box w pw 4 (bl n Wt)
  low : Below wb.heap.size wb w
  big : N ≤ w.heap.size
  los : wb.heap.size ≤ qL ∧ wb.heap.size ≤ pt ∧ wb.heap.size ≤ pB ∧ wb.heap.size ≤ pp ∧ wb.heap.size ≤ pw
  his : qL < N ∧ pt < N ∧ pB < N ∧ pp < N ∧ pw < N ∧ qo < N
  apart : qo = pp → n = 1
  llen : l.length = n
  blen : L.length = n
section
variable {wb : World} {N n qL pt pB pp pw qo ko : Nat} {s0 s1 s2 : Value} {bt : P.Tup} {O : List Nat} {B : List (List Int)} {L : List Value} {l : List P.Tup} {m : Nat → Int} {Wt : Nat → Bool} {w : World}
theorem Lm.on (h : Lm wb N n qL pt pB pp pw qo ko s0 s1 s2 bt O B L l m Wt w) {w' : World} (hb : Below w.heap.size w w') : Lm wb N n qL pt pB pp pw qo ko s0 s1 s2 bt O B L l m Wt w' :=
  have hg := grown_of_below hb none
  ⟨h.lbox.keep hg, h.tups.keep hg, h.head.keep hg, h.rows.grown hg, own_grown h.ord hg, h.plc.keep hg, h.wts.keep hg, h.low.trans (hb.mono h.low.size), Nat.le_trans h.big hb.size, h.los, h.his, h.apart, h.llen, h.blen⟩
theorem Lm.rowb (h : Lm wb N n qL pt pB pp pw qo ko s0 s1 s2 bt O B L l m Wt w) {j : Nat} {u : Value} (hu : L[j]? = some u) : ∀ b, u.ownBlock = some b → N ≤ b := fun b hb => (h.rows.low hu b hb).1
theorem Lm.rowx (h : Lm wb N n qL pt pB pp pw qo ko s0 s1 s2 bt O B L l m Wt w) {q : Nat} (hq : q < N) : ∀ (j : Nat) (u : Value), L[j]? = some u → u.ownBlock = none ∨ u.ownBlock ≠ some q := fun j u hu => .inr fun e => by have := h.rowb hu q e; omega
/-- A place waits, or does so no more. -/
theorem Lm.setW (h : Lm wb N n qL pt pB pp pw qo ko s0 s1 s2 bt O B L l m Wt w) (i : Nat) (b : Bool) : Lm wb N n qL pt pB pp pw qo ko s0 s1 s2 bt O B L l m (fun y => if y = i then b else Wt y) (w.setCell ⟨pw, i, none⟩ (.bool b)) where
  lbox := h.lbox.far (h.lbox.ne h.wts (by decide)) _
  tups := h.tups.far (h.tups.ne h.wts (by decide)) _
  head := h.head.far (h.head.ne h.wts (by decide)) _
  rows := h.rows.kept (grown_set w ⟨pw, i, none⟩ _) (h.rowx h.his.2.2.2.2.1)
  ord := own_set h.ord h.wts (by decide) i _
  plc := h.plc.far (h.plc.ne h.wts (by decide)) _
  wts := by
    have := h.wts.set i (.bool b)
    rw [bl_set] at this
    exact this
  low := h.low.setCell h.los.2.2.2.2 _
  big := by have := h.big; simp [World.setCell]; exact this
  los := h.los
  his := h.his
  apart := h.apart
  llen := h.llen
  blen := h.blen
/-- A tuple is written over. -/
theorem Lm.setT (h : Lm wb N n qL pt pB pp pw qo ko s0 s1 s2 bt O B L l m Wt w) (j : Nat) (hj : j < n) (t : P.Tup) : Lm wb N n qL pt pB pp pw qo ko s0 s1 s2 bt O B L (l.set j t) m Wt (((((w.setCell ⟨pt, j * 5, none⟩ (.bool t.top)).setCell ⟨pt, j * 5 + 1, none⟩ (.int .i64 t.a)).setCell ⟨pt, j * 5 + 2, none⟩ (.int .i64 t.b)).setCell ⟨pt, j * 5 + 3, none⟩ (.int .i64 t.c)).setCell ⟨pt, j * 5 + 4, none⟩ (.int .i64 t.d)) where
  lbox := far5 t h.lbox (h.lbox.ne h.tups (by decide))
  tups := h.tups.setAt j (by rw [h.llen]; exact hj) t
  head := far5 t h.head (h.head.ne h.tups (by decide))
  rows := h.rows.kept (grown5 t) (h.rowx h.his.2.1)
  ord := own_kept h.ord (grown5 t) (.inr (own_box h.ord h.tups (by decide)))
  plc := far5 t h.plc (h.plc.ne h.tups (by decide))
  wts := far5 t h.wts (h.wts.ne h.tups (by decide))
  low := ((((h.low.setCell (p := ⟨pt, _, none⟩) h.los.2.1 _).setCell (p := ⟨pt, _, none⟩) h.los.2.1 _).setCell (p := ⟨pt, _, none⟩) h.los.2.1 _).setCell (p := ⟨pt, _, none⟩) h.los.2.1 _).setCell (p := ⟨pt, _, none⟩) h.los.2.1 _
  big := Nat.le_trans h.big (grown5 (q := pt) (j := j) t).size
  los := h.los
  his := h.his
  apart := h.apart
  llen := by rw [List.length_set]; exact h.llen
  blen := h.blen
/-- The places are written over; nothing else. -/
theorem Lm.viaP (h : Lm wb N n qL pt pB pp pw qo ko s0 s1 s2 bt O B L l m Wt w) {w' : World} {m' : Nat → Int} (hk : Rk.Keeps (KX w.heap.size [pp]) w w') (hp : Box w' pp 3 (im n m')) (h1 : n = 1 → m' 0 = 0 ∧ O = [0]) : Lm wb N n qL pt pB pp pw qo ko s0 s1 s2 bt O B L l m' Wt w' := by
  have not : ∀ {q : Nat}, q ≠ pp → q ∉ [pp] := fun hq e => hq (by simpa using e)
  have hsz := hk.size
  refine ⟨kx_box hk h.lbox h.lbox.lt (not (h.lbox.ne h.plc (by decide))), kx_box hk h.tups h.tups.lt (not (h.tups.ne h.plc (by decide))), kx_box hk h.head h.head.lt (not (h.head.ne h.plc (by decide))),
    ⟨fun j z hz => ?_, h.rows.apart, h.rows.len, h.rows.nil⟩, ?_, hp, kx_box hk h.wts h.wts.lt (not (h.wts.ne h.plc (by decide))), ?_, Nat.le_trans h.big hsz, h.los, h.his, h.apart, h.llen, h.blen⟩
  · obtain ⟨x, hx, ho⟩ := h.rows.rows j z hz
    refine ⟨x, hx, kx_own ho hk fun b hb => ⟨(own_lt ho b hb).2, not ?_⟩⟩
    have := (own_lt ho b hb).1
    have := h.his.2.2.2.1
    omega
  · by_cases e : qo = pp
    · have hn := h.apart e
      obtain ⟨e0, eO⟩ := h1 hn
      have ho := h.ord
      rcases ho.2 with ⟨e2, _⟩ | ⟨g, cap, cur, e2, hg, hh, hnc, hcm, hcs, ht⟩
      · cases e2
      · injection e2 with e3 e4 e5
        injection e3 with e3
        injection e3 with e3
        subst e3 e5
        have hcur : cur = im n m := by
          have hx := h.plc
          rw [e] at hh
          unfold Box at hx
          rw [hx] at hh
          injection hh with hh
          injection hh with hh
          exact hh.symm
        have hz : (im n m').size = (im n m).size := by unfold im; simp
        refine ⟨ho.1, .inr ⟨qo, ko, im n m', rfl, hg, ?_, hnc, hcm, by rw [hz, ← hcur]; exact hcs, ?_⟩⟩
        · rw [e]; exact hp
        · rw [eO, hn]
          unfold im nv
          simp [e0]
    · exact kx_own h.ord hk fun b hb => ⟨(own_lt h.ord b hb).2, not (by have hb : some qo = some b := hb; injection hb with hb; omega)⟩
  · exact h.low.trans (kx_below hk (fun x hx => by simp only [List.mem_singleton] at hx; rw [hx]; exact h.los.2.2.2.1) h.low.size (Nat.le_refl _))
/-- A row has grown by one; now it is stored. -/
theorem Lm.push (h : Lm wb N n qL pt pB pp pw qo ko s0 s1 s2 bt O B L l m Wt w) {j : Nat} {u v' : Value} {row row' : List Int} (hu : L[j]? = some u) (hrow : B[j]? = some row) {w' : World} (hg : w.grownBy w' u.ownBlock)
    (ho : OwnI w' N v' row') (hat : v'.ownBlock = u.ownBlock ∨ ∃ b, v'.ownBlock = some b ∧ w.heap.size ≤ b) (hn : row' ≠ []) : Lm wb N n qL pt pB pp pw qo ko s0 s1 s2 bt O (B.set j row') (L.set j v') l m Wt (w'.setCell ⟨pB, j, none⟩ v') := by
  have far : ∀ q, q < N → some q ≠ u.ownBlock := fun q hq e => by have := h.rowb hu q e.symm; omega
  have hx := h.his
  have hs := grown_set w' ⟨pB, j, none⟩ v'
  have hB := h.head.grown hg (far _ hx.2.2.1)
  have hL := h.lbox.grown hg (far _ hx.1)
  have hT := h.tups.grown hg (far _ hx.2.1)
  have hP := h.plc.grown hg (far _ hx.2.2.2.1)
  have hW := h.wts.grown hg (far _ hx.2.2.2.2.1)
  have hO : w'.ownsRow wb.heap.size 3 1 (.slice (some ⟨qo, 0, none⟩) n ko) n (nv O) := own_kept h.ord hg (.inr (far _ hx.2.2.2.2.2))
  have hR := h.rows.push2 hu hrow hg ho hat hn
  have hlow : Below wb.heap.size wb w' := h.low.grown hg h.low.size fun k hk => Nat.le_trans (Nat.le_trans h.los.1 (Nat.le_of_lt hx.1)) (h.rowb hu k hk)
  refine ⟨hL.far (hL.ne hB (by decide)) _, hT.far (hT.ne hB (by decide)) _, ?_, hR.kept hs fun i y hy => .inr fun e => ?_, own_set hO hB (by decide) j v', hP.far (hP.ne hB (by decide)) _, hW.far (hW.ne hB (by decide)) _, hlow.setCell h.los.2.2.1 _, ?_, h.los, h.his, h.apart, h.llen, by rw [List.length_set]; exact h.blen⟩
  · have := hB.set j v'
    rw [List.setIfInBounds_toArray] at this
    exact this
  · have := (hR.low hy pB e).1
    omega
  · have := h.big
    have := hg.size
    simp [World.setCell]
    omega
end
end W
end Go.Proofs.Yteeaojciobmcaaa
end
section
namespace Go.Proofs.Yteeaojciobmcaaa
open Go.RowKit
namespace W

theorem info_tup : (Try.prog.info? 26).map (fun i => (i.zero, i.size, i.bytes)) = some (some (.agg (tc .zero)), 5, 40) := by kernel_rfl
theorem und_tups : Try.prog.underlying 40 = some (.slice 26) := by kernel_rfl
theorem made_tups (n : Nat) : madeCells (Value.agg (tc .zero)).cells (n * 5) = flatT (List.replicate n .zero) := by
  apply Array.ext_getElem?
  intro i
  unfold flatT
  show (madeCells (Value.agg (tc .zero)).cells (n * 5))[i]? = _
  simp only [List.getElem?_toArray]
  by_cases hi : i < n * 5
  · have hd : i / 5 < n := by omega
    have hm : i % 5 < 5 := Nat.mod_lt _ (by omega)
    have h := flatL_at (List.replicate n .zero) (i / 5) (i % 5) (by rw [List.length_replicate]; exact hd) hm
    rw [show i / 5 * 5 + i % 5 = i by omega] at h
    rw [h, List.getD_eq_getElem?_getD, List.getElem?_replicate, if_pos hd]
    unfold madeCells
    rw [Array.getElem?_map, Array.getElem?_range, if_pos hi]
    show some ((tc .zero)[i % 5]!) = (tl .zero)[i % 5]?
    generalize i % 5 = r at hm
    match r, hm with
    | 0, _ | 1, _ | 2, _ | 3, _ | 4, _ => rfl
  · rw [Array.getElem?_eq_none (by rw [size_madeCells]; omega), List.getElem?_eq_none (by rw [flatL_len, List.length_replicate]; omega)]
theorem op_make5 {o : Oper} {A : Act} {w : World} {K : Act → World → Prop} {Q : Exit → Act → World → Prop} {s x : Operand}
    (ho : o.op = .makeSlice 40 s x) (n : Nat) (hs : A.eval s = .int .i64 n) (hx : A.eval x = .int .i64 n) (hb : 40 * n ≤ 281474976710656) (_ : n ≤ 9223372036854775807)
    (hK : K (A.put o.dst (.slice (some ⟨w.heap.size, 0, none⟩) n n)) (w.alloc (.cells (flatT (List.replicate n .zero)) 26))) : o.wp Try.prog A w K Q := by
  obtain ⟨i, hi, hz, hsz, hby⟩ := info_parts info_tup
  have hb' : (i.bytes : Int) * (n : Int) ≤ 281474976710656 := by
    have h : ((i.bytes * n : Nat) : Int) ≤ 281474976710656 := by rw [hby]; omega
    rwa [Int.natCast_mul] at h
  have hr := run_make (P := Try.prog) w 40 26 i _ und_tups hi hz .i64 .i64 n n (by omega) (Int.le_refl _) hb' (by omega)
  rw [hsz] at hr
  simp only [Int.toNat_natCast, made_tups] at hr
  unfold Oper.wp execOp
  simp only [ho, hs, hx, Sem.run_bind, Sem.run_pure, hr, Result.andThen_ok]
  exact hK

/-- What newLifter hands back. -/
def Begun (w : World) (g : P.G) (n : Nat) (s0 s1 s2 : Value) (e : Ending) (w' : World) : Prop := ∃ N qL pt pB pp pw qo ko O L m Wt, e = .returned (.pointer (some ⟨qL, 0, none⟩)) ∧ P.Order n O ∧ Lm w N n qL pt pB pp pw qo ko s0 s1 s2 g.tups O (P.prv n (P.pairs g O)) L (List.replicate n .zero) m Wt w' ∧ (∀ (i x : Nat), O[i]? = some x → m x = i) ∧ (∀ i, i < n → Wt i = true)
set_option maxRecDepth 100000 in
set_option maxHeartbeats 4000000 in
theorem begun_any (g : P.G) (hr : g.Right) (n : Nat) (hn : g.owner.length = n) (ba oa ka bb ob kb bc_ oc kc : Nat) (w : World) (hv : GameV w (.agg #[.slice (some ⟨ba, oa, none⟩) n ka, .slice (some ⟨bb, ob, none⟩) n kb, .slice (some ⟨bc_, oc, none⟩) n kc]) g) (hrows : Rows g w n bc_ oc) :
    Calls Try.prog 44 #[.agg #[.slice (some ⟨ba, oa, none⟩) n ka, .slice (some ⟨bb, ob, none⟩) n kb, .slice (some ⟨bc_, oc, none⟩) n kc]] w (Begun w g n (.slice (some ⟨ba, oa, none⟩) n ka) (.slice (some ⟨bb, ob, none⟩) n kb) (.slice (some ⟨bc_, oc, none⟩) n kc)) := by
  have hmany := hr.many
  have h0 := hr.pos
  rw [hn] at hmany h0
  have HV := Lib.hid hv
  have HROW := Lib.hid hrows
  have HR := Lib.hid hr
  have HN := Lib.hid hn
  clear hr hn hv hrows
  go_enter Try.func44, Try.ntmps44
  go_wp2_with fail
  have bx0 : Box (w.alloc (.cells #[.slice (some ⟨ba, oa, none⟩) n ka, .slice (some ⟨bb, ob, none⟩) n kb, .slice (some ⟨bc_, oc, none⟩) n kc] 33)) (w.heap.size) 33 #[.slice (some ⟨ba, oa, none⟩) n ka, .slice (some ⟨bb, ob, none⟩) n kb, .slice (some ⟨bc_, oc, none⟩) n kc] := Box.new w 33 #[.slice (some ⟨ba, oa, none⟩) n ka, .slice (some ⟨bb, ob, none⟩) n kb, .slice (some ⟨bc_, oc, none⟩) n kc]
  have hbq : Below w.heap.size w (w.alloc (.cells #[.slice (some ⟨ba, oa, none⟩) n ka, .slice (some ⟨bb, ob, none⟩) n kb, .slice (some ⟨bc_, oc, none⟩) n kc] 33)) := (Below.refl _ w).alloc (Nat.le_refl _) _
  have hle0 : w.heap.size ≤ w.heap.size := Nat.le_refl _
  generalize (w.alloc (.cells #[.slice (some ⟨ba, oa, none⟩) n ka, .slice (some ⟨bb, ob, none⟩) n kb, .slice (some ⟨bc_, oc, none⟩) n kc] 33)) = w0 at bx0 hbq  ⊢
  have BQg := Lib.hid bx0
  have W := Lib.hid hbq
  have LEg := Lib.hid hle0
  clear hbq hle0 bx0 
  obtain ⟨qg, hqg⟩ : ∃ qg, w.heap.size = qg := ⟨_, rfl⟩
  rw [hqg] at BQg ⊢
  have LEg : Hid (w.heap.size ≤ qg) := Lib.hid (by omega)
  clear hqg
  have W0S := Lib.hid W.out.size
  have hbb := BQg.out
  have gc0 : w0.cell? ⟨qg, 0, none⟩ = some (.slice (some ⟨ba, oa, none⟩) n ka) := hbb.cell 0 _ rfl
  have gc1 : w0.cell? ⟨qg, 1, none⟩ = some (.slice (some ⟨bb, ob, none⟩) n kb) := hbb.cell 1 _ rfl
  have gc2 : w0.cell? ⟨qg, 2, none⟩ = some (.slice (some ⟨bc_, oc, none⟩) n kc) := hbb.cell 2 _ rfl
  clear hbb
  go_wp2_with fail
  clear gc0 gc1 gc2
  refine Rt.wp_region_tail 1 (fun idx => match idx with | 0 => (fun v _ _ => v = .agg #[.slice (some ⟨ba, oa, none⟩) n ka, .slice (some ⟨bb, ob, none⟩) n kb, .slice (some ⟨bc_, oc, none⟩) n kc]) | 1 => (fun v _ _ => v = .agg #[.slice (some ⟨ba, oa, none⟩) n ka, .slice (some ⟨bb, ob, none⟩) n kb, .slice (some ⟨bc_, oc, none⟩) n kc]) | 2 => (fun v _ _ => v = .agg #[.int .i64 g.tups.a, .int .i64 g.tups.b, .int .i64 g.tups.c, .int .i64 g.tups.d]) | 3 => (fun v _ _ => v = (.int .i64 (n : Int))) | 4 => (fun v _ w' => ∃ p, v = .slice (some ⟨p, 0, none⟩) n n ∧ w0.heap.size ≤ p ∧ Box w' p 26 (flatT (List.replicate n .zero))) | 5 => (fun v _ _ => v = (.int .i64 (n : Int))) | 6 => (fun v _ w' => ∃ p, v = .slice (some ⟨p, 0, none⟩) n n ∧ w0.heap.size ≤ p ∧ Box w' p 30 (madeCells #[Value.slice none 0 0] n)) | 7 => (fun v _ _ => v = .agg #[.slice (some ⟨ba, oa, none⟩) n ka, .slice (some ⟨bb, ob, none⟩) n kb, .slice (some ⟨bc_, oc, none⟩) n kc]) | 8 => (fun v _ w' => ∃ q k O, v = .slice (some ⟨q, 0, none⟩) n k ∧ P.Order n O ∧ w'.ownsRow w0.heap.size 3 1 (.slice (some ⟨q, 0, none⟩) n k) n (nv O)) | 9 => (fun v _ _ => v = (.int .i64 (n : Int))) | 10 => (fun v _ w' => ∃ p, v = .slice (some ⟨p, 0, none⟩) n n ∧ w0.heap.size ≤ p ∧ Box w' p 3 (madeCells #[Value.int .i64 0] n)) | 11 => (fun v _ _ => v = (.int .i64 (n : Int))) | 12 => (fun v _ w' => ∃ p, v = .slice (some ⟨p, 0, none⟩) n n ∧ w0.heap.size ≤ p ∧ Box w' p 4 (madeCells #[Value.bool false] n)) | 13 => (fun v ds _ => v = .agg (lcs (.slice (some ⟨ba, oa, none⟩) n ka) (.slice (some ⟨bb, ob, none⟩) n kb) (.slice (some ⟨bc_, oc, none⟩) n kc) g.tups (ds.getD 2 undef) (ds.getD 3 undef) (ds.getD 4 undef) (ds.getD 5 undef) (ds.getD 6 undef))) | 14 => (fun v ds w' => ∃ q vv, v = .pointer (some ⟨q, 0, none⟩) ∧ w0.heap.size ≤ q ∧ ds.getD 0 undef = .agg vv ∧ Box w' q 73 vv) | _ => fun _ _ _ => True) (fun _ _ _ _ => True) (Rk.allK) 99 (by kernel_rfl) (by rfl) (by kernel_rfl) (by rfl) ?_ ?_ ?_ ?_
  · refine ⟨?_, ?_, ?_, ?_, ?_, ?_, ?_, ?_, ?_, ?_, ?_, ?_, ?_, ?_, ?_, trivial⟩
    · intro A w' K vals h hn hT hgk hK0
      have r0 : A.tmps[1]?.getD undef = .pointer (some ⟨qg, 0, none⟩) := Rg.slot h.1
      have hg := Rk.grown_of hgk
      have b := BQg.out.keep hg
      have cc0 : w'.cell? ⟨qg, 0, none⟩ = some (.slice (some ⟨ba, oa, none⟩) n ka) := b.cell 0 _ rfl
      have cc1 : w'.cell? ⟨qg, 1, none⟩ = some (.slice (some ⟨bb, ob, none⟩) n kb) := b.cell 1 _ rfl
      have cc2 : w'.cell? ⟨qg, 2, none⟩ = some (.slice (some ⟨bc_, oc, none⟩) n kc) := b.cell 2 _ rfl
      clear h hn hg b hT hgk
      simp [Oper.wp, execOp, go_sem, r0, cc0, cc1, cc2]
      exact hK0 _ _ (Rk.Keeps.refl _ _) rfl trivial
    · intro A w' K vals h hn hT hgk hK0
      have r0 : A.tmps[1]?.getD undef = .pointer (some ⟨qg, 0, none⟩) := Rg.slot h.1
      have hg := Rk.grown_of hgk
      have b := BQg.out.keep hg
      have cc0 : w'.cell? ⟨qg, 0, none⟩ = some (.slice (some ⟨ba, oa, none⟩) n ka) := b.cell 0 _ rfl
      have cc1 : w'.cell? ⟨qg, 1, none⟩ = some (.slice (some ⟨bb, ob, none⟩) n kb) := b.cell 1 _ rfl
      have cc2 : w'.cell? ⟨qg, 2, none⟩ = some (.slice (some ⟨bc_, oc, none⟩) n kc) := b.cell 2 _ rfl
      clear h hn hg b hT hgk
      simp [Oper.wp, execOp, go_sem, r0, cc0, cc1, cc2]
      exact hK0 _ _ (Rk.Keeps.refl _ _) rfl trivial
    · intro A w' K vals h hn hT hgk hK0
      have r0 : A.tmps[13]?.getD undef = vals 1 := Rg.slot h.2.1
      have s0 : vals 1 = .agg #[.slice (some ⟨ba, oa, none⟩) n ka, .slice (some ⟨bb, ob, none⟩) n kb, .slice (some ⟨bc_, oc, none⟩) n kc] := hn.1
      have hg := Rk.grown_of hgk
      clear h hn hT hgk
      simp [Oper.wp, go_sem, r0, s0]
      refine (bounds_any g _ w' (HV.out.on (W.out.trans ((below_of_grown hg).mono W.out.size)))).mono ?_
      rintro e w'' ⟨rfl, hb⟩
      exact hK0 _ _ (Rk.keep_of (grown_of_below hb _)) rfl trivial
    · intro A w' K vals h hn hT hgk hK0
      have r0 : A.tmps[3]?.getD undef = .int .i64 (n : Int) := Rg.slot h.1
      clear h hn hT hgk
      simp [Oper.wp, execOp, go_sem, r0]
      exact hK0 _ _ (Rk.Keeps.refl _ _) rfl trivial
    · intro A w' K vals h hn hT hgk hK0
      have r0 : A.tmps[15]?.getD undef = vals 3 := Rg.slot h.1
      have s0 : vals 3 = (.int .i64 (n : Int)) := hn.1
      have hsz := hgk.size
      clear h hn hT hgk
      refine op_make5 rfl n (by simp [Act.eval, r0, s0]) (by simp [Act.eval, r0, s0]) (by omega) (by omega) (hK0 _ _ (Rk.keep_of (World.grownBy_alloc _ _ _)) ⟨_, rfl, hsz, Box.new _ _ _⟩ trivial)
    · intro A w' K vals h hn hT hgk hK0
      have r0 : A.tmps[3]?.getD undef = .int .i64 (n : Int) := Rg.slot h.1
      clear h hn hT hgk
      simp [Oper.wp, execOp, go_sem, r0]
      exact hK0 _ _ (Rk.Keeps.refl _ _) rfl trivial
    · intro A w' K vals h hn hT hgk hK0
      have r0 : A.tmps[17]?.getD undef = vals 5 := Rg.slot h.1
      have s0 : vals 5 = (.int .i64 (n : Int)) := hn.1
      have hsz := hgk.size
      clear h hn hT hgk
      refine op_make elInts rfl n (by simp [Act.eval, r0, s0]) (by simp [Act.eval, r0, s0]) (by omega) (by omega) (hK0 _ _ (Rk.keep_of (World.grownBy_alloc _ _ _)) ⟨_, rfl, hsz, Box.new _ _ _⟩ trivial)
    · intro A w' K vals h hn hT hgk hK0
      have r0 : A.tmps[1]?.getD undef = .pointer (some ⟨qg, 0, none⟩) := Rg.slot h.1
      have hg := Rk.grown_of hgk
      have b := BQg.out.keep hg
      have cc0 : w'.cell? ⟨qg, 0, none⟩ = some (.slice (some ⟨ba, oa, none⟩) n ka) := b.cell 0 _ rfl
      have cc1 : w'.cell? ⟨qg, 1, none⟩ = some (.slice (some ⟨bb, ob, none⟩) n kb) := b.cell 1 _ rfl
      have cc2 : w'.cell? ⟨qg, 2, none⟩ = some (.slice (some ⟨bc_, oc, none⟩) n kc) := b.cell 2 _ rfl
      clear h hn hg b hT hgk
      simp [Oper.wp, execOp, go_sem, r0, cc0, cc1, cc2]
      exact hK0 _ _ (Rk.Keeps.refl _ _) rfl trivial
    · intro A w' K vals h hn hT hgk hK0
      have r0 : A.tmps[19]?.getD undef = vals 7 := Rg.slot h.2.1
      have s0 : vals 7 = .agg #[.slice (some ⟨ba, oa, none⟩) n ka, .slice (some ⟨bb, ob, none⟩) n kb, .slice (some ⟨bc_, oc, none⟩) n kc] := hn.1
      have hg := Rk.grown_of hgk
      have hsz := hgk.size
      clear h hn hT hgk
      simp [Oper.wp, go_sem, r0, s0]
      refine (inward_any g HR.out _ w' (HV.out.on (W.out.trans ((below_of_grown hg).mono W.out.size)))).mono ?_
      rintro e w'' ⟨v', O, rfl, hO, how, hb⟩
      rw [HN.out] at hO
      have hO : P.Order n O := hO
      rw [hO.len] at how
      obtain ⟨q, k, rfl, -⟩ := own_form how h0
      exact hK0 _ _ (Rk.keep_of (grown_of_below hb _)) ⟨q, k, O, rfl, hO, own_more how hsz⟩ trivial
    · intro A w' K vals h hn hT hgk hK0
      have r0 : A.tmps[3]?.getD undef = .int .i64 (n : Int) := Rg.slot h.1
      clear h hn hT hgk
      simp [Oper.wp, execOp, go_sem, r0]
      exact hK0 _ _ (Rk.Keeps.refl _ _) rfl trivial
    · intro A w' K vals h hn hT hgk hK0
      have r0 : A.tmps[21]?.getD undef = vals 9 := Rg.slot h.1
      have s0 : vals 9 = (.int .i64 (n : Int)) := hn.1
      have hsz := hgk.size
      clear h hn hT hgk
      refine op_make elInt rfl n (by simp [Act.eval, r0, s0]) (by simp [Act.eval, r0, s0]) (by omega) (by omega) (hK0 _ _ (Rk.keep_of (World.grownBy_alloc _ _ _)) ⟨_, rfl, hsz, Box.new _ _ _⟩ trivial)
    · intro A w' K vals h hn hT hgk hK0
      have r0 : A.tmps[3]?.getD undef = .int .i64 (n : Int) := Rg.slot h.1
      clear h hn hT hgk
      simp [Oper.wp, execOp, go_sem, r0]
      exact hK0 _ _ (Rk.Keeps.refl _ _) rfl trivial
    · intro A w' K vals h hn hT hgk hK0
      have r0 : A.tmps[23]?.getD undef = vals 11 := Rg.slot h.1
      have s0 : vals 11 = (.int .i64 (n : Int)) := hn.1
      have hsz := hgk.size
      clear h hn hT hgk
      refine op_make elBool rfl n (by simp [Act.eval, r0, s0]) (by simp [Act.eval, r0, s0]) (by omega) (by omega) (hK0 _ _ (Rk.keep_of (World.grownBy_alloc _ _ _)) ⟨_, rfl, hsz, Box.new _ _ _⟩ trivial)
    · intro A w' K vals h hn hT hgk hK0
      have r0 : A.tmps[12]?.getD undef = vals 0 := Rg.slot h.1
      have r1 : A.tmps[14]?.getD undef = vals 2 := Rg.slot h.2.1
      have r2 : A.tmps[16]?.getD undef = vals 4 := Rg.slot h.2.2.1
      have r3 : A.tmps[18]?.getD undef = vals 6 := Rg.slot h.2.2.2.1
      have r4 : A.tmps[20]?.getD undef = vals 8 := Rg.slot h.2.2.2.2.1
      have r5 : A.tmps[22]?.getD undef = vals 10 := Rg.slot h.2.2.2.2.2.1
      have r6 : A.tmps[24]?.getD undef = vals 12 := Rg.slot h.2.2.2.2.2.2.1
      have s0 : vals 0 = .agg #[.slice (some ⟨ba, oa, none⟩) n ka, .slice (some ⟨bb, ob, none⟩) n kb, .slice (some ⟨bc_, oc, none⟩) n kc] := hn.1
      have s1 : vals 2 = .agg #[.int .i64 g.tups.a, .int .i64 g.tups.b, .int .i64 g.tups.c, .int .i64 g.tups.d] := hn.2.1
      obtain ⟨p4, s2, -⟩ : ∃ p, vals 4 = .slice (some ⟨p, 0, none⟩) n n ∧ w0.heap.size ≤ p ∧ Box w' p 26 (flatT (List.replicate n .zero)) := hn.2.2.1
      obtain ⟨p6, s3, -⟩ : ∃ p, vals 6 = .slice (some ⟨p, 0, none⟩) n n ∧ w0.heap.size ≤ p ∧ Box w' p 30 (madeCells #[Value.slice none 0 0] n) := hn.2.2.2.1
      obtain ⟨p8, k8, O8, s4, -⟩ : ∃ q k O, vals 8 = .slice (some ⟨q, 0, none⟩) n k ∧ P.Order n O ∧ w'.ownsRow w0.heap.size 3 1 (.slice (some ⟨q, 0, none⟩) n k) n (nv O) := hn.2.2.2.2.1
      obtain ⟨p10, s5, -⟩ : ∃ p, vals 10 = .slice (some ⟨p, 0, none⟩) n n ∧ w0.heap.size ≤ p ∧ Box w' p 3 (madeCells #[Value.int .i64 0] n) := hn.2.2.2.2.2.1
      obtain ⟨p12, s6, -⟩ : ∃ p, vals 12 = .slice (some ⟨p, 0, none⟩) n n ∧ w0.heap.size ≤ p ∧ Box w' p 4 (madeCells #[Value.bool false] n) := hn.2.2.2.2.2.2.1
      clear h hn hT hgk
      have hK1 := fun v (hv : v = .agg (lcs (.slice (some ⟨ba, oa, none⟩) n ka) (.slice (some ⟨bb, ob, none⟩) n kb) (.slice (some ⟨bc_, oc, none⟩) n kc) g.tups (vals 4) (vals 6) (vals 8) (vals 10) (vals 12))) => hK0 v w' (Rk.Keeps.refl _ _) hv trivial
      rw [s2, s3, s4, s5, s6] at hK1
      clear hK0
      simp [Oper.wp, execOp, go_sem, r0, r1, r2, r3, r4, r5, r6, s0, s1, s2, s3, s4, s5, s6]
      exact hK1 _ rfl
    · intro A w' K vals h hn hT hgk hK0
      have r0 : A.tmps[25]?.getD undef = vals 13 := Rg.slot h.1
      have s0 : vals 13 = .agg (lcs (.slice (some ⟨ba, oa, none⟩) n ka) (.slice (some ⟨bb, ob, none⟩) n kb) (.slice (some ⟨bc_, oc, none⟩) n kc) g.tups (vals 4) (vals 6) (vals 8) (vals 10) (vals 12)) := hn.1
      have hsz := hgk.size
      clear h hn hT hgk
      have hK1 := fun q vv w2 (h1 : Rk.Keeps Rk.allK w' w2) (h2 : w0.heap.size ≤ q) (h3 : vals 13 = .agg vv) (h4 : Box w2 q 73 vv) => hK0 (.pointer (some ⟨q, 0, none⟩)) w2 h1 ⟨q, vv, rfl, h2, h3, h4⟩ trivial
      clear hK0
      unfold lcs at s0
      simp [Oper.wp, execOp, go_sem, r0, s0]
      exact hK1 _ _ _ (Rk.keep_of (World.grownBy_alloc _ _ _)) hsz s0 (Box.new _ _ _)
  · refine ⟨?_, ?_, ?_, ?_, ?_, ?_, ?_, ?_, ?_, ?_, ?_, ?_, ?_, ?_, ?_, trivial⟩
    · exact fun _ _ _ _ _ _ h => h
    · exact fun _ _ _ _ _ _ h => h
    · exact fun _ _ _ _ _ _ h => h
    · exact fun _ _ _ _ _ _ h => h
    · exact fun _ _ _ _ _ h ⟨p, hv, hp, hb⟩ => ⟨p, hv, hp, hb.keep (Rk.grown_of h)⟩
    · exact fun _ _ _ _ _ _ h => h
    · exact fun _ _ _ _ _ h ⟨p, hv, hp, hb⟩ => ⟨p, hv, hp, hb.keep (Rk.grown_of h)⟩
    · exact fun _ _ _ _ _ _ h => h
    · exact fun _ _ _ _ _ h ⟨q, k, O, hv, hO, ho⟩ => ⟨q, k, O, hv, hO, own_grown ho (Rk.grown_of h)⟩
    · exact fun _ _ _ _ _ _ h => h
    · exact fun _ _ _ _ _ h ⟨p, hv, hp, hb⟩ => ⟨p, hv, hp, hb.keep (Rk.grown_of h)⟩
    · exact fun _ _ _ _ _ _ h => h
    · exact fun _ _ _ _ _ h ⟨p, hv, hp, hb⟩ => ⟨p, hv, hp, hb.keep (Rk.grown_of h)⟩
    · exact fun _ _ _ _ _ _ h => h
    · exact fun _ _ _ _ _ h ⟨q, vv, h1, h2, h3, hb⟩ => ⟨q, vv, h1, h2, h3, hb.keep (Rk.grown_of h)⟩
  · exact fun _ _ _ _ _ _ h => h
  · intro vals w1 G hg hS hG
    obtain ⟨pt, s4, hpt, hbt⟩ : ∃ p, vals 4 = .slice (some ⟨p, 0, none⟩) n n ∧ w0.heap.size ≤ p ∧ Box w1 p 26 (flatT (List.replicate n .zero)) := hS.2.2.2.2.1
    obtain ⟨pB, s6, hpB, hbB⟩ : ∃ p, vals 6 = .slice (some ⟨p, 0, none⟩) n n ∧ w0.heap.size ≤ p ∧ Box w1 p 30 (madeCells #[Value.slice none 0 0] n) := hS.2.2.2.2.2.2.1
    obtain ⟨qo, ko, O, s8, hO, how⟩ : ∃ q k O, vals 8 = .slice (some ⟨q, 0, none⟩) n k ∧ P.Order n O ∧ w1.ownsRow w0.heap.size 3 1 (.slice (some ⟨q, 0, none⟩) n k) n (nv O) := hS.2.2.2.2.2.2.2.2.1
    obtain ⟨pp, s10, hpp, hbp⟩ : ∃ p, vals 10 = .slice (some ⟨p, 0, none⟩) n n ∧ w0.heap.size ≤ p ∧ Box w1 p 3 (madeCells #[Value.int .i64 0] n) := hS.2.2.2.2.2.2.2.2.2.2.1
    obtain ⟨pw, s12, hpw, hbw⟩ : ∃ p, vals 12 = .slice (some ⟨p, 0, none⟩) n n ∧ w0.heap.size ≤ p ∧ Box w1 p 4 (madeCells #[Value.bool false] n) := hS.2.2.2.2.2.2.2.2.2.2.2.2.1
    have s13 : vals 13 = .agg (lcs (.slice (some ⟨ba, oa, none⟩) n ka) (.slice (some ⟨bb, ob, none⟩) n kb) (.slice (some ⟨bc_, oc, none⟩) n kc) g.tups (vals 4) (vals 6) (vals 8) (vals 10) (vals 12)) := hS.2.2.2.2.2.2.2.2.2.2.2.2.2.1
    obtain ⟨qL, vv, s14, hqL, e14, hbL⟩ : ∃ q vv, vals 14 = .pointer (some ⟨q, 0, none⟩) ∧ w0.heap.size ≤ q ∧ vals 13 = .agg vv ∧ Box w1 q 73 vv := hS.2.2.2.2.2.2.2.2.2.2.2.2.2.2.1
    clear hS
    rw [s13, s4, s6, s8, s10, s12] at e14
    injection e14 with e14
    subst e14
    have hb := below_of_grown (Rk.grown_of hg)
    replace BQg := Lib.hid (BQg.out.keep (grown_of_below hb none))
    replace W := Lib.hid (W.out.trans (hb.mono W.out.size))
    have hw0 := LEg.out
    have hqg := BQg.out.lt
    have hws := W0S.out
    have HG1 := Lib.hid hb.size
    clear hb s13 hg s4 s6 s8 s10 s12
    have hap : qo = pp → n = 1 := by
      rintro rfl
      rcases Nat.lt_or_ge 1 n with h1 | h1
      · exfalso
        obtain ⟨i, hi⟩ := List.getElem?_of_mem ((hO.2 1).2 h1)
        have hin : i < n := by rw [← hO.len]; exact (List.getElem?_eq_some_iff.1 hi).1
        have c1 := how.cellAt i (by omega)
        have c2 := hbp.cell i (.int .i64 0) (by
          rw [made_im]
          exact im_at hin)
        have e := c1.symm.trans c2
        unfold nv at e
        rw [List.getElem?_map, hi] at e
        simp at e
      · omega
    have hqo := own_lt how qo rfl
    obtain ⟨N, hN⟩ : ∃ N, w1.heap.size = N := ⟨_, rfl⟩
    have HL0 := Lib.hid (show Lm w N n qL pt pB pp pw qo ko (.slice (some ⟨ba, oa, none⟩) n ka) (.slice (some ⟨bb, ob, none⟩) n kb) (.slice (some ⟨bc_, oc, none⟩) n kc) g.tups O (P.prv n (P.pairs g (O.take 0))) (List.replicate n (Value.slice none 0 0)) (List.replicate n .zero) (fun _ => 0) (fun _ => false) w1 from by
      refine ⟨hbL, hbt, ?_, ?_, own_more how (by omega), by rw [← made_im]; exact hbp, by rw [← made_bl]; exact hbw, W.out, by omega, ⟨by omega, by omega, by omega, by omega, by omega⟩, ⟨by have := hbL.lt; omega, by have := hbt.lt; omega, by have := hbB.lt; omega, by have := hbp.lt; omega, by have := hbw.lt; omega, by omega⟩, hap, by simp, by simp⟩
      · have e : madeCells #[Value.slice none 0 0] n = (List.replicate n (Value.slice none 0 0)).toArray := by
          apply Array.ext'
          rw [toList_madeCells_one]
        rw [← e]
        exact hbB
      · have := GrowR.start w1 N n
        rw [List.take_zero, P.pairs_nil, P.prv_start]
        exact this)
    have HO := Lib.hid hO
    have HQG := Lib.hid (show qg < N by omega)
    have HWQ := Lib.hid (show w.heap.size ≤ qg by omega)
    clear hap hqo hbL hbt hbB hbp hbw how hO hpt hpB hpp hpw hqL hqg hw0 hws hN
    refine hG ?_
    clear hG
    simp [Rg.putAll, s14]
    clear s14
    have hL := HL0.out.lbox
    have lc9 : w1.cell? ⟨qL, 9, none⟩ = some (.slice (some ⟨qo, 0, none⟩) n ko) := hL.cell 9 _ rfl
    clear hL
    go_wp2_with fail
    clear lc9
    go_loopw [32] (fun iv wr => ∃ (k : Nat) (L : List Value) (m : Nat → Int) (Wt : Nat → Bool), k ≤ n ∧ iv = .int .i64 (k : Int) ∧ Lm w N n qL pt pB pp pw qo ko (.slice (some ⟨ba, oa, none⟩) n ka) (.slice (some ⟨bb, ob, none⟩) n kb) (.slice (some ⟨bc_, oc, none⟩) n kc) g.tups O (P.prv n (P.pairs g (O.take k))) L (List.replicate n .zero) m Wt wr ∧ (∀ (i x : Nat), i < k → O[i]? = some x → m x = i) ∧ (∀ i, i < k → Wt i = true) ∧ Box wr qg 33 #[.slice (some ⟨ba, oa, none⟩) n ka, .slice (some ⟨bb, ob, none⟩) n kb, .slice (some ⟨bc_, oc, none⟩) n kc]) (fun iv _ => n - (intOf iv).toNat)
    case atStart => exact ⟨0, _, _, _, Nat.zero_le _, rfl, HL0.out, fun i x h => absurd h (Nat.not_lt_zero i), fun i h => absurd h (Nat.not_lt_zero i), BQg.out⟩
    case round =>
      obtain ⟨k, L, m, Wt, hk, rfl, hL, hm, hW, hbg⟩ := hrel
      have HL := Lib.hid hL
      have HM := Lib.hid hm
      have HWT := Lib.hid hW
      have HBG := Lib.hid hbg
      clear hL hm hW hbg
      have hk0 : (0 : Int) ≤ (k : Int) := Int.natCast_nonneg _
      by_cases hlt : k < n
      · have fk : decide ((k : Int) < (n : Int)) = true := decide_eq_true (by omega)
        have hki : (k : Int) < (n : Int) := by omega
        obtain ⟨x, hx⟩ : ∃ x, O[k]? = some x := ⟨_, List.getElem?_eq_getElem (by rw [HO.out.len]; exact hlt)⟩
        have hxn : x < n := (HO.out.2 x).1 (List.mem_of_getElem? hx)
        have HX := Lib.hid hx
        have co : wr.cell? ⟨qo, k, none⟩ = some (.int .i64 (x : Int)) := by
          rw [HL.out.ord.cellAt k (by omega)]
          unfold nv
          rw [List.getElem?_map, hx]
          rfl
        have HXN := Lib.hid hxn
        clear hx
        go_wp2_with fail
        clear co
        refine Rt.wp_region_tail 1 (fun idx => match idx with | 0 => (fun v _ _ => v = (.pointer (some ⟨qL, 0, none⟩))) | 1 => (fun v _ _ => v = (.pointer (some ⟨qL, 0, none⟩))) | 2 => (fun v _ _ => v = (.pointer (some ⟨qL, 10, none⟩))) | 3 => (fun v _ _ => v = (.slice (some ⟨pp, 0, none⟩) n n)) | 4 => (fun v _ _ => v = (.int .i64 (x : Int))) | 5 => (fun v _ _ => v = (.pointer (some ⟨qL, 0, none⟩))) | 6 => (fun v _ _ => v = (.pointer (some ⟨qL, 0, none⟩))) | 7 => (fun v _ _ => v = (.pointer (some ⟨qL, 11, none⟩))) | 8 => (fun v _ _ => v = (.slice (some ⟨pw, 0, none⟩) n n)) | 9 => (fun v _ _ => v = (.int .i64 (k : Int))) | 10 => (fun v _ _ => v = (.int .i64 (k : Int))) | 11 => (fun v _ _ => v = (.pointer (some ⟨pp, x, none⟩))) | 12 => (fun _ _ w' => Box w' pp 3 (im n (fun y => if y = x then (k : Int) else m y))) | 13 => (fun v _ _ => v = (.pointer (some ⟨pw, k, none⟩))) | _ => fun _ _ _ => True) (fun _ _ _ _ => True) (KX wr.heap.size [pp]) 12 (by kernel_rfl) (by rfl) (by kernel_rfl) (by rfl) ?_ ?_ ?_ ?_
        · refine ⟨?_, ?_, ?_, ?_, ?_, ?_, ?_, ?_, ?_, ?_, ?_, ?_, ?_, ?_, trivial⟩
          · intro A w' K vals h hn hT hgk hK0
            have r0 : A.tmps[4]?.getD undef = .pointer (some ⟨qL, 0, none⟩) := Rg.slot h.1
            clear h hn hT hgk
            simp [Oper.wp, execOp, go_sem, r0]
            exact hK0 _ _ (Rk.Keeps.refl _ _) rfl trivial
          · intro A w' K vals h hn hT hgk hK0
            have r0 : A.tmps[37]?.getD undef = vals 0 := Rg.slot h.1
            have s0 : vals 0 = .pointer (some ⟨qL, 0, none⟩) := hn.1
            clear h hn hT hgk
            simp [Oper.wp, execOp, go_sem, r0, s0]
            exact hK0 _ _ (Rk.Keeps.refl _ _) rfl trivial
          · intro A w' K vals h hn hT hgk hK0
            have r0 : A.tmps[38]?.getD undef = vals 1 := Rg.slot h.1
            have s0 : vals 1 = .pointer (some ⟨qL, 0, none⟩) := hn.1
            clear h hn hT hgk
            simp [Oper.wp, execOp, go_sem, r0, s0]
            exact hK0 _ _ (Rk.Keeps.refl _ _) rfl trivial
          · intro A w' K vals h hn hT hgk hK0
            have r0 : A.tmps[39]?.getD undef = vals 2 := Rg.slot (h.1)
            have r1 : vals 2 = (.pointer (some ⟨qL, 10, none⟩)) := hn.1
            have c : w'.cell? ⟨qL, 10, none⟩ = some (.slice (some ⟨pp, 0, none⟩) n n) := (kx_box hgk HL.out.lbox HL.out.lbox.lt (fun e => HL.out.lbox.ne HL.out.plc (by decide) (by simpa using e))).cell 10 _ rfl
            clear h hn hT hgk
            simp [Oper.wp, execOp, go_sem, r0, r1, c]
            exact hK0 _ _ (Rk.Keeps.refl _ _) rfl trivial
          · intro A w' K vals h hn hT hgk hK0
            have r0 : A.tmps[6]?.getD undef = .int .i64 (x : Int) := Rg.slot h.1
            clear h hn hT hgk
            simp [Oper.wp, execOp, go_sem, r0]
            exact hK0 _ _ (Rk.Keeps.refl _ _) rfl trivial
          · intro A w' K vals h hn hT hgk hK0
            have r0 : A.tmps[4]?.getD undef = .pointer (some ⟨qL, 0, none⟩) := Rg.slot h.1
            clear h hn hT hgk
            simp [Oper.wp, execOp, go_sem, r0]
            exact hK0 _ _ (Rk.Keeps.refl _ _) rfl trivial
          · intro A w' K vals h hn hT hgk hK0
            have r0 : A.tmps[42]?.getD undef = vals 5 := Rg.slot h.1
            have s0 : vals 5 = .pointer (some ⟨qL, 0, none⟩) := hn.1
            clear h hn hT hgk
            simp [Oper.wp, execOp, go_sem, r0, s0]
            exact hK0 _ _ (Rk.Keeps.refl _ _) rfl trivial
          · intro A w' K vals h hn hT hgk hK0
            have r0 : A.tmps[43]?.getD undef = vals 6 := Rg.slot h.1
            have s0 : vals 6 = .pointer (some ⟨qL, 0, none⟩) := hn.1
            clear h hn hT hgk
            simp [Oper.wp, execOp, go_sem, r0, s0]
            exact hK0 _ _ (Rk.Keeps.refl _ _) rfl trivial
          · intro A w' K vals h hn hT hgk hK0
            have r0 : A.tmps[44]?.getD undef = vals 7 := Rg.slot (h.1)
            have r1 : vals 7 = (.pointer (some ⟨qL, 11, none⟩)) := hn.1
            have c : w'.cell? ⟨qL, 11, none⟩ = some (.slice (some ⟨pw, 0, none⟩) n n) := (kx_box hgk HL.out.lbox HL.out.lbox.lt (fun e => HL.out.lbox.ne HL.out.plc (by decide) (by simpa using e))).cell 11 _ rfl
            clear h hn hT hgk
            simp [Oper.wp, execOp, go_sem, r0, r1, c]
            exact hK0 _ _ (Rk.Keeps.refl _ _) rfl trivial
          · intro A w' K vals h hn hT hgk hK0
            have r0 : A.tmps[5]?.getD undef = .int .i64 (k : Int) := Rg.slot h.1
            clear h hn hT hgk
            simp [Oper.wp, execOp, go_sem, r0]
            exact hK0 _ _ (Rk.Keeps.refl _ _) rfl trivial
          · intro A w' K vals h hn hT hgk hK0
            have r0 : A.tmps[5]?.getD undef = .int .i64 (k : Int) := Rg.slot h.1
            clear h hn hT hgk
            simp [Oper.wp, execOp, go_sem, r0]
            exact hK0 _ _ (Rk.Keeps.refl _ _) rfl trivial
          · intro A w' K vals h hn hT hgk hK0
            have r0 : A.tmps[40]?.getD undef = vals 3 := Rg.slot h.1
            have s0 : vals 3 = .slice (some ⟨pp, 0, none⟩) n n := hn.1
            have r1 : A.tmps[41]?.getD undef = vals 4 := Rg.slot h.2.1
            have s1 : vals 4 = .int .i64 (x : Int) := hn.2.1
            clear h hn hT hgk
            simp [Oper.wp, execOp, go_sem, r0, r1, s0, s1, HXN.out]
            exact hK0 _ _ (Rk.Keeps.refl _ _) rfl trivial
          · intro A w' K vals h hn hT hgk hK0
            have r0 : A.tmps[48]?.getD undef = vals 11 := Rg.slot h.1
            have r1 : A.tmps[47]?.getD undef = vals 10 := Rg.slot h.2.1
            have s0 : vals 11 = .pointer (some ⟨pp, x, none⟩) := hn.1
            have s1 : vals 10 = (.int .i64 (k : Int)) := hn.2.1
            have hbp : Box w' pp 3 (im n m) := HL.out.plc.keep (Rk.grown_of hgk)
            have c0 := hbp.cell x _ (im_at HXN.out)
            have f0 := hbp.frozen x
            clear h hn hT hgk
            have hK1 := hK0 undef (w'.setCell ⟨pp, x, none⟩ (.int .i64 (k : Int))) (kx_set w' (.inl (by simp)) x _) (by
              have := hbp.set x (.int .i64 (k : Int))
              rw [im_set] at this
              exact this) trivial
            clear hK0 hbp
            simp [Oper.wp, execOp, go_sem, r0, r1, s0, s1, c0, f0]
            exact hK1
          · intro A w' K vals h hn hT hgk hK0
            have r0 : A.tmps[45]?.getD undef = vals 8 := Rg.slot h.1
            have s0 : vals 8 = .slice (some ⟨pw, 0, none⟩) n n := hn.1
            have r1 : A.tmps[46]?.getD undef = vals 9 := Rg.slot h.2.1
            have s1 : vals 9 = .int .i64 (k : Int) := hn.2.1
            clear h hn hT hgk
            simp [Oper.wp, execOp, go_sem, r0, r1, s0, s1, hlt]
            exact hK0 _ _ (Rk.Keeps.refl _ _) rfl trivial
        · refine ⟨?_, ?_, ?_, ?_, ?_, ?_, ?_, ?_, ?_, ?_, ?_, ?_, ?_, ?_, trivial⟩
          · exact fun _ _ _ _ _ _ h => h
          · exact fun _ _ _ _ _ _ h => h
          · exact fun _ _ _ _ _ _ h => h
          · exact fun _ _ _ _ _ _ h => h
          · exact fun _ _ _ _ _ _ h => h
          · exact fun _ _ _ _ _ _ h => h
          · exact fun _ _ _ _ _ _ h => h
          · exact fun _ _ _ _ _ _ h => h
          · exact fun _ _ _ _ _ _ h => h
          · exact fun _ _ _ _ _ _ h => h
          · exact fun _ _ _ _ _ _ h => h
          · exact fun _ _ _ _ _ _ h => h
          · exact fun _ _ _ _ _ h hb => hb.keep (Rk.grown_of h)
          · exact fun _ _ _ _ _ _ h => h
        · exact fun _ _ _ _ _ _ h => h
        · intro vals w2 G hg hS hG
          have hbp : Box w2 pp 3 (im n (fun y => if y = x then (k : Int) else m y)) := hS.2.2.2.2.2.2.2.2.2.2.2.2.1
          have s13 : vals 13 = .pointer (some ⟨pw, k, none⟩) := hS.2.2.2.2.2.2.2.2.2.2.2.2.2.1
          clear hS
          have HL2 := Lib.hid (HL.out.viaP hg hbp (fun e => by
            have hx0 : x = 0 := by have := HXN.out; omega
            have hk0 : k = 0 := by omega
            refine ⟨by rw [if_pos hx0.symm, hk0]; rfl, ?_⟩
            have h1 := HO.out.len
            have h2 := HX.out
            rw [hk0, hx0] at h2
            rw [e] at h1
            match O, h1, h2 with
            | [y], _, h2 => simp at h2; rw [h2]))
          have HBG2 := Lib.hid (kx_box hg HBG.out HBG.out.lt (fun e => HBG.out.ne HL.out.plc (by decide) (by simpa using e)))
          clear hbp hg
          have c0 := HL2.out.wts.cell k _ (bl_at hlt)
          have f0 := HL2.out.wts.frozen k
          refine hG ?_
          clear hG
          simp [Rg.putAll, s13]
          clear s13
          have HL3 := Lib.hid (HL2.out.setW k true)
          have HBH := Lib.hid (HBG2.out.far (p := ⟨pw, k, none⟩) (HBG2.out.ne HL2.out.wts (by decide)) (.bool true))
          clear HL2 HBG2 HBG HL
          have HBG := HBH
          clear HBH
          obtain ⟨m3, hm3⟩ : ∃ f : Nat → Int, (fun y => if y = x then (k : Int) else m y) = f := ⟨_, rfl⟩
          obtain ⟨W3, hW3⟩ : ∃ f : Nat → Bool, (fun y => if y = k then true else Wt y) = f := ⟨_, rfl⟩
          rw [hm3, hW3] at HL3
          have HM3 := Lib.hid (show ∀ (i y : Nat), i < k + 1 → O[i]? = some y → m3 y = i from fun i y hi hy => by
            rw [← hm3]
            show (if y = x then (k : Int) else m y) = i
            by_cases e : y = x
            · rw [if_pos e]
              have := HO.out.inj hy (e ▸ HX.out)
              omega
            · rw [if_neg e]
              refine HM.out i y ?_ hy
              have : i ≠ k := fun e2 => e (by have := HX.out; rw [← e2, hy] at this; injection this)
              omega)
          have HW3 := Lib.hid (show ∀ i, i < k + 1 → W3 i = true from fun i hi => by
            rw [← hW3]
            show (if i = k then true else Wt i) = true
            by_cases e : i = k
            · rw [if_pos e]
            · rw [if_neg e]; exact HWT.out i (by omega))
          clear hm3 hW3 HM HWT
          obtain ⟨bm, om, km, hrow⟩ := HROW.out x HXN.out
          have hcr := (hrow _ HL3.out.low).1
          have hat := HR.out.at x (by rw [HN.out]; exact HXN.out)
          have hrise := hat.2.2.2.2
          rw [HN.out] at hrise
          obtain ⟨ms, hms⟩ : ∃ ms, g.moves.getD x [] = ms := ⟨_, rfl⟩
          rw [hms] at hrow hcr hrise
          have hmsl : ms.length ≤ 200 := P.rise_len hrise hmany
          have HRW := Lib.hid hrow
          have HMS := Lib.hid hms
          have HRISE := Lib.hid hrise
          have g2 := HBG.out.cell 2 _ rfl
          clear hrow hms hat hrise
          go_wp2_with fail
          clear g2 hcr c0 f0
          generalize (w2.setCell ⟨pw, k, none⟩ (.bool true)) = w3 at HL3 HBG ⊢
          obtain ⟨wo, rfl⟩ : ∃ wo : World, wo = wr := ⟨_, rfl⟩
          obtain ⟨ps, hps⟩ : ∃ ps, P.pairs g (O.take k) = ps := ⟨_, rfl⟩
          have hpl : ps.length ≤ 40000 := by
            rw [← hps]
            have h1 := P.pairs_len (g := g) (O := O.take k) fun y hy => by
              have hyn := (HO.out.2 y).1 (List.mem_of_mem_take hy)
              have h2 := (HR.out.at y (by rw [HN.out]; exact hyn)).2.2.2.2
              rw [HN.out] at h2
              exact P.rise_len h2 hmany
            rw [List.length_take] at h1
            omega
          have HPS := Lib.hid hps
          rw [hps] at HL3
          clear hps
          go_loopw [56] (fun iv wr => ∃ (j : Nat) (L : List Value), j ≤ ms.length ∧ iv = .int .i64 (j : Int) ∧ Lm w N n qL pt pB pp pw qo ko (.slice (some ⟨ba, oa, none⟩) n ka) (.slice (some ⟨bb, ob, none⟩) n kb) (.slice (some ⟨bc_, oc, none⟩) n kc) g.tups O (P.prv n (ps ++ (ms.take j).map fun m => (m.toNat, x))) L (List.replicate n .zero) m3 W3 wr ∧ Box wr qg 33 #[.slice (some ⟨ba, oa, none⟩) n ka, .slice (some ⟨bb, ob, none⟩) n kb, .slice (some ⟨bc_, oc, none⟩) n kc]) (fun iv _ => ms.length - (intOf iv).toNat)
          case atStart => exact ⟨0, L, Nat.zero_le _, rfl, by rw [List.take_zero, List.map_nil, List.append_nil]; exact HL3.out, HBG.out⟩
          case round =>
            obtain ⟨j, L, hj, rfl, hL, hbg⟩ := hrel
            have HL := Lib.hid hL
            have HBG := Lib.hid hbg
            clear hL hbg
            have hj0 : (0 : Int) ≤ (j : Int) := Int.natCast_nonneg _
            by_cases hlj : j < ms.length
            · have fj : decide ((j : Int) < (ms.length : Int)) = true := decide_eq_true (by omega)
              have hji : (j : Int) < (ms.length : Int) := by omega
              have hmb := P.rise_bounds HRISE.out (ms.getD j 0) (by rw [List.getD_eq_getElem?_getD, List.getElem?_eq_getElem hlj]; exact List.getElem_mem hlj)
              have htake : ms.take (j + 1) = ms.take j ++ [ms.getD j 0] := by
                rw [List.take_succ_eq_append_getElem hlj, List.getD_eq_getElem?_getD, List.getElem?_eq_getElem hlj]
                rfl
              have cj := (HRW.out wr HL.out.low).2 j hlj
              obtain ⟨mz, hmz⟩ : ∃ mz, ms.getD j 0 = mz := ⟨_, rfl⟩
              rw [hmz] at hmb htake cj
              obtain ⟨mn, rfl⟩ := Int.eq_ofNat_of_zero_le (show 0 ≤ mz by omega)
              have hmn : mn < n := by omega
              have HMN := Lib.hid hmn
              have hpl2 : (ps ++ (ms.take j).map fun m => (m.toNat, x)).length ≤ 40200 := by
                rw [List.length_append, List.length_map, List.length_take]
                omega
              have hnext : P.prv n (ps ++ (ms.take (j + 1)).map fun m => (m.toNat, x)) = (P.prv n (ps ++ (ms.take j).map fun m => (m.toNat, x))).set mn ((P.prv n (ps ++ (ms.take j).map fun m => (m.toNat, x))).getD mn [] ++ [(x : Int)]) := by
                rw [htake, List.map_append, ← List.append_assoc]
                exact P.prv_push n _ mn x hmn
              have hrl := P.prv_at (ps := ps ++ (ms.take j).map fun m => (m.toNat, x)) hmn
              have hrle := P.prv_row_len (ps := ps ++ (ms.take j).map fun m => (m.toNat, x)) hmn
              rw [← P.prv_getD hmn] at hrl
              obtain ⟨row, hrow⟩ : ∃ row, (P.prv n (ps ++ (ms.take j).map fun m => (m.toNat, x))).getD mn [] = row := ⟨_, rfl⟩
              rw [hrow] at hnext hrl hrle
              obtain ⟨u, hu, hou⟩ := HL.out.rows.rows mn row hrl
              obtain ⟨uo, uk, rfl, -⟩ := own_at hou
              have hrl4 : row.length ≤ 40200 := by omega
              have HRL := Lib.hid hrl
              have HPU := Lib.hid hnext
              have HU := Lib.hid hu
              have HOU := Lib.hid hou
              have HUX := Lib.hid (show ∀ q, q < N → q ∉ (Value.slice uo row.length uk).ownBlock.toList from fun q hq e => by
                cases hb : (Value.slice uo row.length uk).ownBlock with
                | none => rw [hb] at e; simp at e
                | some b =>
                  rw [hb] at e
                  simp at e
                  have := HL.out.rowb HU.out b hb
                  omega)
              clear hmb htake hmz hmn hpl2 hnext hrl hrle hrow hu hou
              go_wp2_with fail
              clear cj
              refine Rt.wp_region_tail 2 (fun idx => match idx with | 0 => (fun v _ _ => v = (.pointer (some ⟨qL, 0, none⟩))) | 1 => (fun v _ _ => v = (.pointer (some ⟨qL, 0, none⟩))) | 2 => (fun v _ _ => v = (.pointer (some ⟨qL, 8, none⟩))) | 3 => (fun v _ _ => v = (.slice (some ⟨pB, 0, none⟩) n n)) | 4 => (fun v _ _ => v = (.int .i64 (mn : Int))) | 5 => (fun v _ _ => v = (.pointer (some ⟨qL, 0, none⟩))) | 6 => (fun v _ _ => v = (.pointer (some ⟨qL, 0, none⟩))) | 7 => (fun v _ _ => v = (.pointer (some ⟨qL, 8, none⟩))) | 8 => (fun v _ _ => v = (.slice (some ⟨pB, 0, none⟩) n n)) | 9 => (fun v _ _ => v = (.int .i64 (mn : Int))) | 10 => (fun v _ _ => v = (.pointer (some ⟨pB, mn, none⟩))) | 11 => (fun v _ _ => v = (.slice uo row.length uk)) | 12 => (fun v _ _ => v = (.int .i64 (x : Int))) | 13 => (fun _ _ _ => True) | 14 => (fun v _ w' => OwnI w' N v (row ++ [(x : Int)]) ∧ (v.ownBlock = (Value.slice uo row.length uk).ownBlock ∨ ∃ b, v.ownBlock = some b ∧ wr.heap.size ≤ b)) | _ => fun _ _ _ => True) (fun idx => match idx with | 13 => (fun v _ w' => Row w' v [(.int .i64 (x : Int))]) | _ => fun _ _ _ => True) (KX wr.heap.size (Value.slice uo row.length uk).ownBlock.toList) 14 (by kernel_rfl) (by rfl) (by kernel_rfl) (by rfl) ?_ ?_ ?_ ?_
              · refine ⟨?_, ?_, ?_, ?_, ?_, ?_, ?_, ?_, ?_, ?_, ?_, ?_, ?_, ?_, ?_, trivial⟩
                · intro A w' K vals h hn hT hgk hK0
                  have r0 : A.tmps[4]?.getD undef = .pointer (some ⟨qL, 0, none⟩) := Rg.slot h.1
                  clear h hn hT hgk
                  simp [Oper.wp, execOp, go_sem, r0]
                  exact hK0 _ _ (Rk.Keeps.refl _ _) rfl trivial
                · intro A w' K vals h hn hT hgk hK0
                  have r0 : A.tmps[60]?.getD undef = vals 0 := Rg.slot h.1
                  have s0 : vals 0 = .pointer (some ⟨qL, 0, none⟩) := hn.1
                  clear h hn hT hgk
                  simp [Oper.wp, execOp, go_sem, r0, s0]
                  exact hK0 _ _ (Rk.Keeps.refl _ _) rfl trivial
                · intro A w' K vals h hn hT hgk hK0
                  have r0 : A.tmps[61]?.getD undef = vals 1 := Rg.slot h.1
                  have s0 : vals 1 = .pointer (some ⟨qL, 0, none⟩) := hn.1
                  clear h hn hT hgk
                  simp [Oper.wp, execOp, go_sem, r0, s0]
                  exact hK0 _ _ (Rk.Keeps.refl _ _) rfl trivial
                · intro A w' K vals h hn hT hgk hK0
                  have r0 : A.tmps[62]?.getD undef = vals 2 := Rg.slot (h.1)
                  have r1 : vals 2 = (.pointer (some ⟨qL, 8, none⟩)) := hn.1
                  have c : w'.cell? ⟨qL, 8, none⟩ = some (.slice (some ⟨pB, 0, none⟩) n n) := (kx_box hgk HL.out.lbox HL.out.lbox.lt (HUX.out qL HL.out.his.1)).cell 8 _ rfl
                  clear h hn hT hgk
                  simp [Oper.wp, execOp, go_sem, r0, r1, c]
                  exact hK0 _ _ (Rk.Keeps.refl _ _) rfl trivial
                · intro A w' K vals h hn hT hgk hK0
                  have r0 : A.tmps[8]?.getD undef = .int .i64 (mn : Int) := Rg.slot h.1
                  clear h hn hT hgk
                  simp [Oper.wp, execOp, go_sem, r0]
                  exact hK0 _ _ (Rk.Keeps.refl _ _) rfl trivial
                · intro A w' K vals h hn hT hgk hK0
                  have r0 : A.tmps[4]?.getD undef = .pointer (some ⟨qL, 0, none⟩) := Rg.slot h.1
                  clear h hn hT hgk
                  simp [Oper.wp, execOp, go_sem, r0]
                  exact hK0 _ _ (Rk.Keeps.refl _ _) rfl trivial
                · intro A w' K vals h hn hT hgk hK0
                  have r0 : A.tmps[65]?.getD undef = vals 5 := Rg.slot h.1
                  have s0 : vals 5 = .pointer (some ⟨qL, 0, none⟩) := hn.1
                  clear h hn hT hgk
                  simp [Oper.wp, execOp, go_sem, r0, s0]
                  exact hK0 _ _ (Rk.Keeps.refl _ _) rfl trivial
                · intro A w' K vals h hn hT hgk hK0
                  have r0 : A.tmps[66]?.getD undef = vals 6 := Rg.slot h.1
                  have s0 : vals 6 = .pointer (some ⟨qL, 0, none⟩) := hn.1
                  clear h hn hT hgk
                  simp [Oper.wp, execOp, go_sem, r0, s0]
                  exact hK0 _ _ (Rk.Keeps.refl _ _) rfl trivial
                · intro A w' K vals h hn hT hgk hK0
                  have r0 : A.tmps[67]?.getD undef = vals 7 := Rg.slot (h.1)
                  have r1 : vals 7 = (.pointer (some ⟨qL, 8, none⟩)) := hn.1
                  have c : w'.cell? ⟨qL, 8, none⟩ = some (.slice (some ⟨pB, 0, none⟩) n n) := (kx_box hgk HL.out.lbox HL.out.lbox.lt (HUX.out qL HL.out.his.1)).cell 8 _ rfl
                  clear h hn hT hgk
                  simp [Oper.wp, execOp, go_sem, r0, r1, c]
                  exact hK0 _ _ (Rk.Keeps.refl _ _) rfl trivial
                · intro A w' K vals h hn hT hgk hK0
                  have r0 : A.tmps[8]?.getD undef = .int .i64 (mn : Int) := Rg.slot h.1
                  clear h hn hT hgk
                  simp [Oper.wp, execOp, go_sem, r0]
                  exact hK0 _ _ (Rk.Keeps.refl _ _) rfl trivial
                · intro A w' K vals h hn hT hgk hK0
                  have r0 : A.tmps[68]?.getD undef = vals 8 := Rg.slot h.1
                  have s0 : vals 8 = .slice (some ⟨pB, 0, none⟩) n n := hn.1
                  have r1 : A.tmps[69]?.getD undef = vals 9 := Rg.slot h.2.1
                  have s1 : vals 9 = .int .i64 (mn : Int) := hn.2.1
                  clear h hn hT hgk
                  simp [Oper.wp, execOp, go_sem, r0, r1, s0, s1, HMN.out]
                  exact hK0 _ _ (Rk.Keeps.refl _ _) rfl trivial
                · intro A w' K vals h hn hT hgk hK0
                  have r0 : A.tmps[70]?.getD undef = vals 10 := Rg.slot (h.1)
                  have r1 : vals 10 = (.pointer (some ⟨pB, mn, none⟩)) := hn.1
                  have c : w'.cell? ⟨pB, mn, none⟩ = some (.slice uo row.length uk) := (kx_box hgk HL.out.head HL.out.head.lt (HUX.out pB HL.out.his.2.2.1)).cell mn _ (by rw [List.getElem?_toArray]; exact HU.out)
                  clear h hn hT hgk
                  simp [Oper.wp, execOp, go_sem, r0, r1, c]
                  exact hK0 _ _ (Rk.Keeps.refl _ _) rfl trivial
                · intro A w' K vals h hn hT hgk hK0
                  have r0 : A.tmps[6]?.getD undef = .int .i64 (x : Int) := Rg.slot h.1
                  clear h hn hT hgk
                  simp [Oper.wp, execOp, go_sem, r0]
                  exact hK0 _ _ (Rk.Keeps.refl _ _) rfl trivial
                · intro A w' K vals h hn hT hgk hK0
                  have r0 : A.tmps[72]?.getD undef = vals 12 := Rg.slot h.1
                  have s0 : vals 12 = (.int .i64 (x : Int)) := hn.1
                  clear h hn hT hgk
                  simp [Oper.wp, execOp, go_sem, r0, s0]
                  exact hK0 _ _ (Rk.keep_of (World.grownBy_alloc _ _ _)) trivial (row_one _ _ _)
                · intro A w' K vals h hn hT hgk hK0
                  have r0 : A.tmps[71]?.getD undef = vals 11 := Rg.slot h.1
                  have r1 : A.tmps[73]?.getD undef = vals 13 := Rg.slot h.2.1
                  have s0 : vals 11 = (.slice uo row.length uk) := hn.1
                  have hrow : Row w' (vals 13) [(.int .i64 (x : Int))] := (hT rfl).2.1
                  have hg := Rk.grown_of hgk
                  have hsz := hgk.size
                  have hbig := HL.out.big
                  have own : w'.ownsRow N 3 1 (.slice uo row.length uk) row.length (row.map (Value.int .i64)) := own_grown HOU.out hg
                  obtain ⟨v', w'', hrun, hown, hgr, hat⟩ := run_append elInt 30 own hrow (by intro u hu; simp at hu; subst hu; rfl) (by simp; omega) (by simp; omega) (by omega)
                  clear h hn hT hgk
                  refine op_append rfl (by simp [Act.eval, r0, s0]) (by simp [Act.eval, r1]) hrun (hK0 _ _ (kx_grown hgr (fun k e => .inl (by rw [e]; simp))) ⟨?_, ?_⟩ trivial)
                  · unfold OwnI
                    simpa using hown
                  · rcases hat with h | h
                    · exact .inl h
                    · exact .inr ⟨_, h, hsz⟩
              · refine ⟨?_, ?_, ?_, ?_, ?_, ?_, ?_, ?_, ?_, ?_, ?_, ?_, ?_, ?_, ?_, trivial⟩
                · exact fun _ _ _ _ _ _ h => h
                · exact fun _ _ _ _ _ _ h => h
                · exact fun _ _ _ _ _ _ h => h
                · exact fun _ _ _ _ _ _ h => h
                · exact fun _ _ _ _ _ _ h => h
                · exact fun _ _ _ _ _ _ h => h
                · exact fun _ _ _ _ _ _ h => h
                · exact fun _ _ _ _ _ _ h => h
                · exact fun _ _ _ _ _ _ h => h
                · exact fun _ _ _ _ _ _ h => h
                · exact fun _ _ _ _ _ _ h => h
                · exact fun _ _ _ _ _ _ h => h
                · exact fun _ _ _ _ _ _ h => h
                · exact fun _ _ _ _ _ _ h => h
                · exact fun _ _ _ _ _ h ⟨ho, hb⟩ => ⟨own_grown ho (Rk.grown_of h), hb⟩
              · intro k v ds w w' hk h
                match k, h with
                | 13, h => exact Row.grown h (Rk.grown_of hk)
                | 0, _ | 1, _ | 2, _ | 3, _ | 4, _ | 5, _ | 6, _ | 7, _ | 8, _ | 9, _ | 10, _ | 11, _ | 12, _ | _ + 14, _ => trivial
              · intro vals w2 G hg hS hG
                obtain ⟨hown, hat⟩ : OwnI w2 N (vals 14) (row ++ [(x : Int)]) ∧ ((vals 14).ownBlock = (Value.slice uo row.length uk).ownBlock ∨ ∃ b, (vals 14).ownBlock = some b ∧ wr.heap.size ≤ b) := hS.2.2.2.2.2.2.2.2.2.2.2.2.2.2.1
                have s3 : vals 3 = (.slice (some ⟨pB, 0, none⟩) n n) := hS.2.2.2.1
                have s4 : vals 4 = (.int .i64 (mn : Int)) := hS.2.2.2.2.1
                clear hS
                obtain ⟨vo, vk, s14, -⟩ := own_at hown
                rw [s14] at hown hat
                have hgr : wr.grownBy w2 (Value.slice uo row.length uk).ownBlock := ⟨hg.os, hg.tape, hg.output, hg.size, fun k hk hne => by
                  have := hg.block k _ (Array.getElem?_eq_getElem hk) ⟨hk, fun e => hne (by
                    cases hb : (Value.slice uo row.length uk).ownBlock with
                    | none => rw [hb] at e; simp at e
                    | some b => rw [hb] at e; simp at e; rw [e])⟩
                  rw [this]
                  exact (Array.getElem?_eq_getElem hk).symm⟩
                have HL4 := HL.out.push HU.out HRL.out hgr hown hat (by simp)
                have hB := kx_box hg HL.out.head HL.out.head.lt (HUX.out pB HL.out.his.2.2.1)
                have c0 : w2.cell? ⟨pB, mn, none⟩ = some (.slice uo row.length uk) := hB.cell mn _ (by rw [List.getElem?_toArray]; exact HU.out)
                have f0 := hB.frozen mn
                rw [← HPU.out] at HL4
                have HL4 := Lib.hid HL4
                have hbg := kx_box hg HBG.out HBG.out.lt (HUX.out qg HQG.out)
                have HBG := Lib.hid (hbg.far (p := ⟨pB, mn, none⟩) (hbg.ne hB (by decide)) (.slice vo (row ++ [(x : Int)]).length vk))
                clear hB hbg hg hgr hown hat
                refine hG ?_
                clear hG
                simp [Rg.putAll, s14, s3, s4]
                clear s14 s3 s4
                simp only [List.length_append, List.length_cons, List.length_nil, Nat.zero_add] at HL4 HBG
                have hmi : (mn : Int) < (n : Int) := by have := HMN.out; omega
                have hm0 : (0 : Int) ≤ (mn : Int) := Int.natCast_nonneg _
                go_wp2_with fail
                clear c0 f0
                go_roundw
                case rel => exact ⟨j + 1, _, by omega, by first | rfl | go_num, HL4.out, HBG.out⟩
                case measure => simp [intOf]; omega
            · have fj : decide ((j : Int) < (ms.length : Int)) = false := decide_eq_false (by omega)
              have htj : ms.take j = ms := List.take_of_length_le (by omega)
              have HREL := Lib.hid (show Lm w N n qL pt pB pp pw qo ko (.slice (some ⟨ba, oa, none⟩) n ka) (.slice (some ⟨bb, ob, none⟩) n kb) (.slice (some ⟨bc_, oc, none⟩) n kc) g.tups O (P.prv n (P.pairs g (O.take (k + 1)))) L (List.replicate n .zero) m3 W3 wr from by
                have ht : O.take (k + 1) = O.take k ++ [x] := by
                  have hkl : k < O.length := by rw [HO.out.len]; exact hlt
                  rw [List.take_succ_eq_append_getElem hkl]
                  have h1 := HX.out
                  rw [List.getElem?_eq_getElem hkl] at h1
                  injection h1 with h1
                  rw [h1]
                have h := HL.out
                rw [htj] at h
                rw [ht, P.pairs_snoc, HMS.out, HPS.out]
                exact h)
              clear htj
              go_wp2_with fail
              go_roundw
              case rel => exact ⟨k + 1, L, m3, W3, by omega, by first | rfl | go_num, HREL.out, HM3.out, HW3.out, HBG.out⟩
              case measure => simp [intOf]; omega
      · have fk : decide ((k : Int) < (n : Int)) = false := decide_eq_false (by omega)
        have hkn : k = n := by omega
        have HREL := Lib.hid (show Begun w g n (.slice (some ⟨ba, oa, none⟩) n ka) (.slice (some ⟨bb, ob, none⟩) n kb) (.slice (some ⟨bc_, oc, none⟩) n kc) (.returned (.pointer (some ⟨qL, 0, none⟩))) wr from by
          have h := HL.out
          have ho := HO.out.len
          rw [List.take_of_length_le (by omega)] at h
          exact ⟨N, qL, pt, pB, pp, pw, qo, ko, O, L, m, Wt, rfl, HO.out, h, fun i x hx => HM.out i x (by have := (List.getElem?_eq_some_iff.1 hx).1; omega) hx, fun i hi => HWT.out i (by omega)⟩)
        go_wp2_with fail
        go_ret
        exact HREL.out
end W
end Go.Proofs.Yteeaojciobmcaaa
end
section
namespace Go.Proofs.Yteeaojciobmcaaa
open Go.RowKit
namespace W

section
variable {wb : World} {N n qL pt pB pp pw qo ko : Nat} {s0 s1 s2 : Value} {bt : P.Tup} {O : List Nat} {B : List (List Int)} {L : List Value} {l : List P.Tup} {m : Nat → Int} {Wt : Nat → Bool} {w : World}
theorem Lm.tcell (h : Lm wb N n qL pt pB pp pw qo ko s0 s1 s2 bt O B L l m Wt w) {x : Nat} (hx : x < n) {t : P.Tup} (ht : l.getD x .zero = t) (j : Nat) (u : Value) (hu : (tl t)[j]? = some u) : w.cell? ⟨pt, x * 5 + j, none⟩ = some u := by
  refine h.tups.cell _ u ?_
  have hj : j < 5 := (List.getElem?_eq_some_iff.1 hu).1
  unfold flatT
  rw [List.getElem?_toArray, flatL_at l x j (by rw [h.llen]; exact hx) hj, ht]
  exact hu
/-- A tuple is stored beside. -/
theorem Lm.fresh (h : Lm wb N n qL pt pB pp pw qo ko s0 s1 s2 bt O B L l m Wt w) {q : Nat} (hq : N ≤ q) (t : P.Tup) (hr : ∀ (j : Nat) (v : Value), L[j]? = some v → v.ownBlock ≠ some q) : Lm wb N n qL pt pB pp pw qo ko s0 s1 s2 bt O B L l m Wt (((((w.setCell ⟨q, 0, none⟩ (.bool t.top)).setCell ⟨q, 1, none⟩ (.int .i64 t.a)).setCell ⟨q, 2, none⟩ (.int .i64 t.b)).setCell ⟨q, 3, none⟩ (.int .i64 t.c)).setCell ⟨q, 4, none⟩ (.int .i64 t.d)) := by
  have far : ∀ b, b < N → b ≠ q := fun b hb => by omega
  have hx := h.his
  have hs : w.grownBy (((((w.setCell ⟨q, 0, none⟩ (.bool t.top)).setCell ⟨q, 1, none⟩ (.int .i64 t.a)).setCell ⟨q, 2, none⟩ (.int .i64 t.b)).setCell ⟨q, 3, none⟩ (.int .i64 t.c)).setCell ⟨q, 4, none⟩ (.int .i64 t.d)) (some q) := ((((grown_set w ⟨q, 0, none⟩ (.bool t.top)).trans (grown_set _ ⟨q, 1, none⟩ (.int .i64 t.a))).trans (grown_set _ ⟨q, 2, none⟩ (.int .i64 t.b))).trans (grown_set _ ⟨q, 3, none⟩ (.int .i64 t.c))).trans (grown_set _ ⟨q, 4, none⟩ (.int .i64 t.d))
  have bx : ∀ {b : Nat} {ty : TypeId} {cs : Array Value}, Box w b ty cs → b < N → Box (((((w.setCell ⟨q, 0, none⟩ (.bool t.top)).setCell ⟨q, 1, none⟩ (.int .i64 t.a)).setCell ⟨q, 2, none⟩ (.int .i64 t.b)).setCell ⟨q, 3, none⟩ (.int .i64 t.c)).setCell ⟨q, 4, none⟩ (.int .i64 t.d)) b ty cs := fun hb hl => hb.grown hs (fun e => by injection e with e; omega)
  refine ⟨bx h.lbox hx.1, bx h.tups hx.2.1, bx h.head hx.2.2.1, h.rows.kept hs (fun j v hv => .inr (hr j v hv)), own_kept h.ord hs (.inr fun e => by have e : some qo = some q := e; injection e with e; omega), bx h.plc hx.2.2.2.1, bx h.wts hx.2.2.2.2.1, h.low.trans (below_mono_grown hs h.low.size fun k e => ?_), Nat.le_trans h.big hs.size, h.los, h.his, h.apart, h.llen, h.blen⟩
  injection e with e
  have := h.los.1
  omega
end
/-- What a lift at place k, where position x stands, makes of the lifter. -/
def LiftedTo (g : P.G) (_O : List Nat) (B : List (List Int)) (m : Nat → Int) (l : List P.Tup) (Wt : Nat → Bool) (k x : Nat) (l' : List P.Tup) (Wt' : Nat → Bool) (first : Nat) : Prop :=
  (P.Rest g l x ∧ l' = l ∧ first = k ∧ ∀ y, Wt' y = if y = k then false else Wt y) ∨
  (¬ P.Rest g l x ∧ l' = l.set x (g.choose l x).2 ∧ first ≤ k ∧ (∀ y, y < first → Wt' y = true → Wt y = true) ∧ ∀ y, Wt' y = false → (y = k ∨ Wt y = false) ∧ ∀ z ∈ B.getD x [], m z.toNat ≠ (y : Int))
set_option maxRecDepth 100000 in
set_option maxHeartbeats 4000000 in
theorem liftAt_any (g : P.G) (hr : g.Right) (n : Nat) (hn : g.owner.length = n) (wb : World) (N qL pt pB pp pw qo ko ba oa ka bb ob kb bc_ oc kc : Nat) (O : List Nat) (L : List Value) (l : List P.Tup) (m : Nat → Int) (Wt : Nat → Bool) (B : List (List Int)) (hB : B = P.prv n (P.pairs g O))
    (hv : GameV wb (.agg #[.slice (some ⟨ba, oa, none⟩) n ka, .slice (some ⟨bb, ob, none⟩) n kb, .slice (some ⟨bc_, oc, none⟩) n kc]) g) (hO : P.Order n O) (hm : ∀ (i x : Nat), O[i]? = some x → m x = i) (hlow : ∀ j k, k < 4 → -9223372036854775808 ≤ ct (l.getD j .zero) k) (k x : Nat) (hx : O[k]? = some x) (w : World) (h : Lm wb N n qL pt pB pp pw qo ko (.slice (some ⟨ba, oa, none⟩) n ka) (.slice (some ⟨bb, ob, none⟩) n kb) (.slice (some ⟨bc_, oc, none⟩) n kc) g.tups O B L l m Wt w) :
    Calls Try.prog 45 #[.pointer (some ⟨qL, 0, none⟩), .int .i64 (k : Int)] w fun e w' => ∃ first l' Wt', e = .returned (.int .i64 (first : Nat)) ∧ Lm wb N n qL pt pB pp pw qo ko (.slice (some ⟨ba, oa, none⟩) n ka) (.slice (some ⟨bb, ob, none⟩) n kb) (.slice (some ⟨bc_, oc, none⟩) n kc) g.tups O B L l' m Wt' w' ∧ LiftedTo g O B m l Wt k x l' Wt' first := by
  have hmany := hr.many
  have h0 := hr.pos
  rw [hn] at hmany h0
  have hxn : x < n := (hO.2 x).1 (List.mem_of_getElem? hx)
  have hkn : k < n := by
    have := (List.getElem?_eq_some_iff.1 hx).1
    rw [hO.len] at this
    exact this
  have hki : (k : Int) < (n : Int) := by omega
  have hk0 : (0 : Int) ≤ (k : Int) := Int.natCast_nonneg _
  have co : w.cell? ⟨qo, k, none⟩ = some (.int .i64 (x : Int)) := by
    rw [h.ord.cellAt k (by omega)]
    unfold nv
    rw [List.getElem?_map, hx]
    rfl
  have HLL := Lib.hid (show l.length = g.owner.length by rw [h.llen, hn])
  have HV := Lib.hid hv
  have HR := Lib.hid hr
  have HN := Lib.hid hn
  have HO := Lib.hid hO
  have HM := Lib.hid hm
  have HX := Lib.hid hx
  have HXN := Lib.hid hxn
  have HKN := Lib.hid hkn
  have HB := Lib.hid hB
  have HLOW := Lib.hid hlow
  have lc9 : w.cell? ⟨qL, 9, none⟩ = some (.slice (some ⟨qo, 0, none⟩) n ko) := h.lbox.cell 9 _ rfl
  have lc11 : w.cell? ⟨qL, 11, none⟩ = some (.slice (some ⟨pw, 0, none⟩) n n) := h.lbox.cell 11 _ rfl
  have wc := h.wts.cell k _ (bl_at hkn)
  have wf := h.wts.frozen k
  have HL0 := Lib.hid h
  clear hr hn hO hm hx hxn hB hlow h hv hkn
  go_enter Try.func45, Try.ntmps45
  go_wp2_with fail
  have HL := Lib.hid (HL0.out.setW k false)
  clear lc9 lc11 wc wf co HL0
  generalize (w.setCell ⟨pw, k, none⟩ (.bool false)) = w1 at HL ⊢
  have BIG := Lib.hid HL.out.big
  refine Rt.wp_region_tail 1 (fun idx => match idx with | 0 => (fun v _ _ => v = (.pointer (some ⟨qL, 0, none⟩))) | 1 => (fun v _ _ => v = (.pointer (some ⟨qL, 0, none⟩))) | 2 => (fun v _ _ => v = (.pointer (some ⟨qL, 0, none⟩))) | 3 => (fun v _ _ => v = .agg #[.slice (some ⟨ba, oa, none⟩) n ka, .slice (some ⟨bb, ob, none⟩) n kb, .slice (some ⟨bc_, oc, none⟩) n kc]) | 4 => (fun v _ _ => v = (.pointer (some ⟨qL, 0, none⟩))) | 5 => (fun v _ _ => v = (.pointer (some ⟨qL, 0, none⟩))) | 6 => (fun v _ _ => v = (.pointer (some ⟨qL, 3, none⟩))) | 7 => (fun v _ _ => v = .agg #[.int .i64 g.tups.a, .int .i64 g.tups.b, .int .i64 g.tups.c, .int .i64 g.tups.d]) | 8 => (fun v _ _ => v = (.pointer (some ⟨qL, 0, none⟩))) | 9 => (fun v _ _ => v = (.pointer (some ⟨qL, 0, none⟩))) | 10 => (fun v _ _ => v = (.pointer (some ⟨qL, 7, none⟩))) | 11 => (fun v _ _ => v = (.slice (some ⟨pt, 0, none⟩) n n)) | 12 => (fun v _ _ => v = (.int .i64 (x : Int))) | 13 => (fun v _ _ => v = .agg (tc (g.lift l x))) | 14 => (fun v _ w' => ∃ q, v = .pointer (some ⟨q, 0, none⟩) ∧ w1.heap.size ≤ q ∧ Box w' q 26 (tc .zero)) | _ => fun _ _ _ => True) (fun _ _ _ _ => True) (Rk.allK) 99 (by kernel_rfl) (by rfl) (by kernel_rfl) (by rfl) ?_ ?_ ?_ ?_
  · refine ⟨?_, ?_, ?_, ?_, ?_, ?_, ?_, ?_, ?_, ?_, ?_, ?_, ?_, ?_, ?_, trivial⟩
    · intro A w' K vals h hn hT hgk hK0
      have r0 : A.tmps[0]?.getD undef = .pointer (some ⟨qL, 0, none⟩) := Rg.slot h.1
      clear h hn hT hgk
      simp [Oper.wp, execOp, go_sem, r0]
      exact hK0 _ _ (Rk.Keeps.refl _ _) rfl trivial
    · intro A w' K vals h hn hT hgk hK0
      have r0 : A.tmps[23]?.getD undef = vals 0 := Rg.slot h.1
      have s0 : vals 0 = .pointer (some ⟨qL, 0, none⟩) := hn.1
      clear h hn hT hgk
      simp [Oper.wp, execOp, go_sem, r0, s0]
      exact hK0 _ _ (Rk.Keeps.refl _ _) rfl trivial
    · intro A w' K vals h hn hT hgk hK0
      have r0 : A.tmps[24]?.getD undef = vals 1 := Rg.slot h.1
      have s0 : vals 1 = .pointer (some ⟨qL, 0, none⟩) := hn.1
      clear h hn hT hgk
      simp [Oper.wp, execOp, go_sem, r0, s0]
      exact hK0 _ _ (Rk.Keeps.refl _ _) rfl trivial
    · intro A w' K vals h hn hT hgk hK0
      have r0 : A.tmps[25]?.getD undef = vals 2 := Rg.slot (h.1)
      have r1 : vals 2 = (.pointer (some ⟨qL, 0, none⟩)) := hn.1
      have hbx := (HL.out.on (below_of_grown (Rk.grown_of hgk))).lbox
      have c0 : w'.cell? ⟨qL, 0, none⟩ = some (.slice (some ⟨ba, oa, none⟩) n ka) := hbx.cell 0 _ rfl
      have c1 : w'.cell? ⟨qL, 1, none⟩ = some (.slice (some ⟨bb, ob, none⟩) n kb) := hbx.cell 1 _ rfl
      have c2 : w'.cell? ⟨qL, 2, none⟩ = some (.slice (some ⟨bc_, oc, none⟩) n kc) := hbx.cell 2 _ rfl
      clear h hn hT hgk hbx
      simp [Oper.wp, execOp, go_sem, r0, r1, c0, c1, c2]
      exact hK0 _ _ (Rk.Keeps.refl _ _) rfl trivial
    · intro A w' K vals h hn hT hgk hK0
      have r0 : A.tmps[0]?.getD undef = .pointer (some ⟨qL, 0, none⟩) := Rg.slot h.1
      clear h hn hT hgk
      simp [Oper.wp, execOp, go_sem, r0]
      exact hK0 _ _ (Rk.Keeps.refl _ _) rfl trivial
    · intro A w' K vals h hn hT hgk hK0
      have r0 : A.tmps[27]?.getD undef = vals 4 := Rg.slot h.1
      have s0 : vals 4 = .pointer (some ⟨qL, 0, none⟩) := hn.1
      clear h hn hT hgk
      simp [Oper.wp, execOp, go_sem, r0, s0]
      exact hK0 _ _ (Rk.Keeps.refl _ _) rfl trivial
    · intro A w' K vals h hn hT hgk hK0
      have r0 : A.tmps[28]?.getD undef = vals 5 := Rg.slot h.1
      have s0 : vals 5 = .pointer (some ⟨qL, 0, none⟩) := hn.1
      clear h hn hT hgk
      simp [Oper.wp, execOp, go_sem, r0, s0]
      exact hK0 _ _ (Rk.Keeps.refl _ _) rfl trivial
    · intro A w' K vals h hn hT hgk hK0
      have r0 : A.tmps[29]?.getD undef = vals 6 := Rg.slot (h.1)
      have r1 : vals 6 = (.pointer (some ⟨qL, 3, none⟩)) := hn.1
      have hbx := (HL.out.on (below_of_grown (Rk.grown_of hgk))).lbox
      have c0 : w'.cell? ⟨qL, 3, none⟩ = some (.int .i64 g.tups.a) := hbx.cell 3 _ rfl
      have c1 : w'.cell? ⟨qL, 4, none⟩ = some (.int .i64 g.tups.b) := hbx.cell 4 _ rfl
      have c2 : w'.cell? ⟨qL, 5, none⟩ = some (.int .i64 g.tups.c) := hbx.cell 5 _ rfl
      have c3 : w'.cell? ⟨qL, 6, none⟩ = some (.int .i64 g.tups.d) := hbx.cell 6 _ rfl
      clear h hn hT hgk hbx
      simp [Oper.wp, execOp, go_sem, r0, r1, c0, c1, c2, c3]
      exact hK0 _ _ (Rk.Keeps.refl _ _) rfl trivial
    · intro A w' K vals h hn hT hgk hK0
      have r0 : A.tmps[0]?.getD undef = .pointer (some ⟨qL, 0, none⟩) := Rg.slot h.1
      clear h hn hT hgk
      simp [Oper.wp, execOp, go_sem, r0]
      exact hK0 _ _ (Rk.Keeps.refl _ _) rfl trivial
    · intro A w' K vals h hn hT hgk hK0
      have r0 : A.tmps[31]?.getD undef = vals 8 := Rg.slot h.1
      have s0 : vals 8 = .pointer (some ⟨qL, 0, none⟩) := hn.1
      clear h hn hT hgk
      simp [Oper.wp, execOp, go_sem, r0, s0]
      exact hK0 _ _ (Rk.Keeps.refl _ _) rfl trivial
    · intro A w' K vals h hn hT hgk hK0
      have r0 : A.tmps[32]?.getD undef = vals 9 := Rg.slot h.1
      have s0 : vals 9 = .pointer (some ⟨qL, 0, none⟩) := hn.1
      clear h hn hT hgk
      simp [Oper.wp, execOp, go_sem, r0, s0]
      exact hK0 _ _ (Rk.Keeps.refl _ _) rfl trivial
    · intro A w' K vals h hn hT hgk hK0
      have r0 : A.tmps[33]?.getD undef = vals 10 := Rg.slot (h.1)
      have r1 : vals 10 = (.pointer (some ⟨qL, 7, none⟩)) := hn.1
      have hbx := (HL.out.on (below_of_grown (Rk.grown_of hgk))).lbox
      have c0 : w'.cell? ⟨qL, 7, none⟩ = some (.slice (some ⟨pt, 0, none⟩) n n) := hbx.cell 7 _ rfl
      clear h hn hT hgk hbx
      simp [Oper.wp, execOp, go_sem, r0, r1, c0]
      exact hK0 _ _ (Rk.Keeps.refl _ _) rfl trivial
    · intro A w' K vals h hn hT hgk hK0
      have r0 : A.tmps[5]?.getD undef = .int .i64 (x : Int) := Rg.slot h.1
      clear h hn hT hgk
      simp [Oper.wp, execOp, go_sem, r0]
      exact hK0 _ _ (Rk.Keeps.refl _ _) rfl trivial
    · intro A w' K vals h hn hT hgk hK0
      have r0 : A.tmps[26]?.getD undef = vals 3 := Rg.slot h.2.1
      have r1 : A.tmps[30]?.getD undef = vals 7 := Rg.slot h.2.2.1
      have r2 : A.tmps[34]?.getD undef = vals 11 := Rg.slot h.2.2.2.1
      have r3 : A.tmps[35]?.getD undef = vals 12 := Rg.slot h.2.2.2.2.1
      have s0 : vals 3 = .agg #[.slice (some ⟨ba, oa, none⟩) n ka, .slice (some ⟨bb, ob, none⟩) n kb, .slice (some ⟨bc_, oc, none⟩) n kc] := hn.1
      have s1 : vals 7 = .agg #[.int .i64 g.tups.a, .int .i64 g.tups.b, .int .i64 g.tups.c, .int .i64 g.tups.d] := hn.2.1
      have s2 : vals 11 = (.slice (some ⟨pt, 0, none⟩) n n) := hn.2.2.1
      have s3 : vals 12 = (.int .i64 (x : Int)) := hn.2.2.2.1
      have HL' := Lib.hid (HL.out.on (below_of_grown (Rk.grown_of hgk)))
      clear h hn hT hgk
      simp [Oper.wp, go_sem, r0, r1, r2, r3, s0, s1, s2, s3]
      have hV : TupsV w' (.slice (some ⟨pt, 0, none⟩) n n) l := by
        have := HL'.out.tups.tups (by rw [HL'.out.llen]; omega) n
        rw [HL'.out.llen] at this
        exact this
      refine (lift_any g HR.out l HLL.out HLOW.out x (by rw [HN.out]; exact HXN.out) _ _ w' (HV.out.on HL'.out.low) hV).mono ?_
      rintro e w'' ⟨rfl, hb⟩
      exact hK0 _ _ (Rk.keep_of (grown_of_below hb _)) rfl trivial
    · intro A w' K vals h hn hT hgk hK0
      have hsz := hgk.size
      clear h hn hT
      simp [Oper.wp, execOp, go_sem]
      exact hK0 _ _ (Rk.keep_of (World.grownBy_alloc _ _ _)) ⟨_, rfl, hsz, Box.new _ _ _⟩ trivial
  · refine ⟨?_, ?_, ?_, ?_, ?_, ?_, ?_, ?_, ?_, ?_, ?_, ?_, ?_, ?_, ?_, trivial⟩
    · exact fun _ _ _ _ _ _ h => h
    · exact fun _ _ _ _ _ _ h => h
    · exact fun _ _ _ _ _ _ h => h
    · exact fun _ _ _ _ _ _ h => h
    · exact fun _ _ _ _ _ _ h => h
    · exact fun _ _ _ _ _ _ h => h
    · exact fun _ _ _ _ _ _ h => h
    · exact fun _ _ _ _ _ _ h => h
    · exact fun _ _ _ _ _ _ h => h
    · exact fun _ _ _ _ _ _ h => h
    · exact fun _ _ _ _ _ _ h => h
    · exact fun _ _ _ _ _ _ h => h
    · exact fun _ _ _ _ _ _ h => h
    · exact fun _ _ _ _ _ _ h => h
    · exact fun _ _ _ _ _ h ⟨q, h1, h2, hb⟩ => ⟨q, h1, h2, hb.keep (Rk.grown_of h)⟩
  · exact fun _ _ _ _ _ _ h => h
  · intro vals w2 G hg hS hG
    have s13 : vals 13 = .agg (tc (g.lift l x)) := hS.2.2.2.2.2.2.2.2.2.2.2.2.2.1
    obtain ⟨qm, s14, hqm, hbm⟩ : ∃ q, vals 14 = .pointer (some ⟨q, 0, none⟩) ∧ w1.heap.size ≤ q ∧ Box w2 q 26 (tc .zero) := hS.2.2.2.2.2.2.2.2.2.2.2.2.2.2.1
    clear hS
    have hb := below_of_grown (Rk.grown_of hg)
    have HL2 := Lib.hid (HL.out.on hb)
    have hrq : ∀ (j : Nat) (v : Value), L[j]? = some v → v.ownBlock ≠ some qm := fun j v hv e => by
      have := (HL.out.rows.low hv qm e).2
      omega
    clear hb hg HL
    obtain ⟨u, hu⟩ : ∃ u, g.lift l x = u := ⟨_, rfl⟩
    rw [hu] at s13
    have HUE := Lib.hid hu
    clear hu
    unfold tc at s13
    have qc0 : w2.cell? ⟨qm, 0, none⟩ = some (.bool false) := hbm.cell 0 _ rfl
    have qc1 : w2.cell? ⟨qm, 1, none⟩ = some (.int .i64 0) := hbm.cell 1 _ rfl
    have qc2 : w2.cell? ⟨qm, 2, none⟩ = some (.int .i64 0) := hbm.cell 2 _ rfl
    have qc3 : w2.cell? ⟨qm, 3, none⟩ = some (.int .i64 0) := hbm.cell 3 _ rfl
    have qc4 : w2.cell? ⟨qm, 4, none⟩ = some (.int .i64 0) := hbm.cell 4 _ rfl
    have qf0 : w2.frozen? ⟨qm, 0, none⟩ = false := hbm.frozen 0
    have qf1 : w2.frozen? ⟨qm, 1, none⟩ = false := hbm.frozen 1
    have qf2 : w2.frozen? ⟨qm, 2, none⟩ = false := hbm.frozen 2
    have qf3 : w2.frozen? ⟨qm, 3, none⟩ = false := hbm.frozen 3
    have qf4 : w2.frozen? ⟨qm, 4, none⟩ = false := hbm.frozen 4
    have hlq : N ≤ qm := Nat.le_trans BIG.out hqm
    refine hG ?_
    clear hG
    simp [Rg.putAll, s13, s14]
    clear s13 s14
    go_wp2_with fail
    clear qc0 qc1 qc2 qc3 qc4 qf0 qf1 qf2 qf3 qf4
    have BQm := Lib.hid (hbm.stT u)
    have hbo : Below w2.heap.size w2 w2 := Below.refl _ _
    have HL3 := Lib.hid (HL2.out.fresh (q := qm) (by omega) u hrq)
    clear HL2 hbm hqm hbo hrq
    generalize (((((w2.setCell ⟨qm, 0, none⟩ (.bool u.top)).setCell ⟨qm, 1, none⟩ (.int .i64 u.a)).setCell ⟨qm, 2, none⟩ (.int .i64 u.b)).setCell ⟨qm, 3, none⟩ (.int .i64 u.c)).setCell ⟨qm, 4, none⟩ (.int .i64 u.d)) = w3 at BQm HL3 ⊢
    have HL := HL3
    clear HL3
    have HLQ := Lib.hid hlq
    clear hlq
    obtain ⟨t, ht⟩ : ∃ t, l.getD x .zero = t := ⟨_, rfl⟩
    have HT := Lib.hid ht
    clear ht
    go_wp2_with fail
    refine Rt.wp_region_tail 1 (fun idx => match idx with | 0 => (fun v _ _ => v = .agg (tc u)) | 1 => (fun v _ _ => v = (.pointer (some ⟨qL, 0, none⟩))) | 2 => (fun v _ _ => v = (.pointer (some ⟨qL, 0, none⟩))) | 3 => (fun v _ _ => v = (.pointer (some ⟨qL, 7, none⟩))) | 4 => (fun v _ _ => v = (.slice (some ⟨pt, 0, none⟩) n n)) | 5 => (fun v _ _ => v = (.int .i64 (x : Int))) | 6 => (fun v _ _ => v = (.pointer (some ⟨pt, x * 5, none⟩))) | 7 => (fun v _ _ => v = .agg (tc t)) | _ => fun _ _ _ => True) (fun _ _ _ _ => True) (Rk.allK) 99 (by kernel_rfl) (by rfl) (by kernel_rfl) (by rfl) ?_ ?_ ?_ ?_
    · refine ⟨?_, ?_, ?_, ?_, ?_, ?_, ?_, ?_, trivial⟩
      · intro A w' K vals h hn hT hgk hK0
        have r0 : A.tmps[6]?.getD undef = .pointer (some ⟨qm, 0, none⟩) := Rg.slot (h.1)
        have hbx := BQm.out.keep (Rk.grown_of hgk)
        have c0 : w'.cell? ⟨qm, 0, none⟩ = some (.bool u.top) := hbx.cell 0 _ rfl
        have c1 : w'.cell? ⟨qm, 1, none⟩ = some (.int .i64 u.a) := hbx.cell 1 _ rfl
        have c2 : w'.cell? ⟨qm, 2, none⟩ = some (.int .i64 u.b) := hbx.cell 2 _ rfl
        have c3 : w'.cell? ⟨qm, 3, none⟩ = some (.int .i64 u.c) := hbx.cell 3 _ rfl
        have c4 : w'.cell? ⟨qm, 4, none⟩ = some (.int .i64 u.d) := hbx.cell 4 _ rfl
        clear hbx
        clear h hn hT hgk
        simp [Oper.wp, execOp, go_sem, r0, c0, c1, c2, c3, c4]
        exact hK0 _ _ (Rk.Keeps.refl _ _) rfl trivial
      · intro A w' K vals h hn hT hgk hK0
        have r0 : A.tmps[0]?.getD undef = .pointer (some ⟨qL, 0, none⟩) := Rg.slot h.1
        clear h hn hT hgk
        simp [Oper.wp, execOp, go_sem, r0]
        exact hK0 _ _ (Rk.Keeps.refl _ _) rfl trivial
      · intro A w' K vals h hn hT hgk hK0
        have r0 : A.tmps[38]?.getD undef = vals 1 := Rg.slot h.1
        have s0 : vals 1 = .pointer (some ⟨qL, 0, none⟩) := hn.1
        clear h hn hT hgk
        simp [Oper.wp, execOp, go_sem, r0, s0]
        exact hK0 _ _ (Rk.Keeps.refl _ _) rfl trivial
      · intro A w' K vals h hn hT hgk hK0
        have r0 : A.tmps[39]?.getD undef = vals 2 := Rg.slot h.1
        have s0 : vals 2 = .pointer (some ⟨qL, 0, none⟩) := hn.1
        clear h hn hT hgk
        simp [Oper.wp, execOp, go_sem, r0, s0]
        exact hK0 _ _ (Rk.Keeps.refl _ _) rfl trivial
      · intro A w' K vals h hn hT hgk hK0
        have r0 : A.tmps[40]?.getD undef = vals 3 := Rg.slot (h.1)
        have r1 : vals 3 = (.pointer (some ⟨qL, 7, none⟩)) := hn.1
        have hbx := (HL.out.on (below_of_grown (Rk.grown_of hgk))).lbox
        have c0 : w'.cell? ⟨qL, 7, none⟩ = some (.slice (some ⟨pt, 0, none⟩) n n) := hbx.cell 7 _ rfl
        clear h hn hT hgk hbx
        simp [Oper.wp, execOp, go_sem, r0, r1, c0]
        exact hK0 _ _ (Rk.Keeps.refl _ _) rfl trivial
      · intro A w' K vals h hn hT hgk hK0
        have r0 : A.tmps[5]?.getD undef = .int .i64 (x : Int) := Rg.slot h.1
        clear h hn hT hgk
        simp [Oper.wp, execOp, go_sem, r0]
        exact hK0 _ _ (Rk.Keeps.refl _ _) rfl trivial
      · intro A w' K vals h hn hT hgk hK0
        have r0 : A.tmps[41]?.getD undef = vals 4 := Rg.slot h.1
        have s0 : vals 4 = .slice (some ⟨pt, 0, none⟩) n n := hn.1
        have r1 : A.tmps[42]?.getD undef = vals 5 := Rg.slot h.2.1
        have s1 : vals 5 = .int .i64 (x : Int) := hn.2.1
        clear h hn hT hgk
        simp [Oper.wp, execOp, go_sem, r0, r1, s0, s1, HXN.out]
        exact hK0 _ _ (Rk.Keeps.refl _ _) rfl trivial
      · intro A w' K vals h hn hT hgk hK0
        have r0 : A.tmps[43]?.getD undef = vals 6 := Rg.slot (h.1)
        have r1 : vals 6 = (.pointer (some ⟨pt, x * 5, none⟩)) := hn.1
        have hL' := (HL.out.on (below_of_grown (Rk.grown_of hgk)))
        have c0 : w'.cell? ⟨pt, x * 5, none⟩ = some (.bool t.top) := hL'.tcell HXN.out HT.out 0 _ rfl
        have c1 : w'.cell? ⟨pt, x * 5 + 1, none⟩ = some (.int .i64 t.a) := hL'.tcell HXN.out HT.out 1 _ rfl
        have c2 : w'.cell? ⟨pt, x * 5 + 2, none⟩ = some (.int .i64 t.b) := hL'.tcell HXN.out HT.out 2 _ rfl
        have c3 : w'.cell? ⟨pt, x * 5 + 3, none⟩ = some (.int .i64 t.c) := hL'.tcell HXN.out HT.out 3 _ rfl
        have c4 : w'.cell? ⟨pt, x * 5 + 4, none⟩ = some (.int .i64 t.d) := hL'.tcell HXN.out HT.out 4 _ rfl
        clear hL'
        clear h hn hT hgk
        simp [Oper.wp, execOp, go_sem, r0, r1, c0, c1, c2, c3, c4]
        exact hK0 _ _ (Rk.Keeps.refl _ _) rfl trivial
    · refine ⟨?_, ?_, ?_, ?_, ?_, ?_, ?_, ?_, trivial⟩
      · exact fun _ _ _ _ _ _ h => h
      · exact fun _ _ _ _ _ _ h => h
      · exact fun _ _ _ _ _ _ h => h
      · exact fun _ _ _ _ _ _ h => h
      · exact fun _ _ _ _ _ _ h => h
      · exact fun _ _ _ _ _ _ h => h
      · exact fun _ _ _ _ _ _ h => h
      · exact fun _ _ _ _ _ _ h => h
    · exact fun _ _ _ _ _ _ h => h
    · intro vals w4 G hg hS hG
      have s0 : vals 0 = .agg #[.bool u.top, .int .i64 u.a, .int .i64 u.b, .int .i64 u.c, .int .i64 u.d] := hS.1
      have s7 : vals 7 = .agg #[.bool t.top, .int .i64 t.a, .int .i64 t.b, .int .i64 t.c, .int .i64 t.d] := hS.2.2.2.2.2.2.2.1
      clear hS
      have hb := below_of_grown (Rk.grown_of hg)
      have HL4 := Lib.hid (HL.out.on hb)
      have BQ4 := Lib.hid (BQm.out.keep (Rk.grown_of hg))
      clear hb hg HL BQm
      have HL := HL4
      have BQm := BQ4
      clear HL4 BQ4
      have he := fun w => tup_eql u t w
      unfold tc at he
      refine hG ?_
      clear hG
      simp [Rg.putAll, s0, s7]
      clear s0 s7
      by_cases hut : u = t
      · have fe : decide (u = t) = true := decide_eq_true hut
        have HD := Lib.hid (show LiftedTo g O B m l Wt k x l (fun y => if y = k then false else Wt y) k from .inl ⟨by
          refine P.lift_iff.1 ?_
          rw [HUE.out, HT.out, hut], rfl, rfl, fun y => rfl⟩)
        clear hut
        go_wp2_with fail
        go_ret
        exact ⟨_, _, _, rfl, HL.out, HD.out⟩
      · have fe : decide (u = t) = false := decide_eq_false hut
        have HNR := Lib.hid (show ¬ P.Rest g l x from fun h => hut (by
          have := P.lift_same h
          rw [HUE.out, HT.out] at this
          exact this))
        clear hut
        go_wp2_with fail
        clear he fe
        refine Rt.wp_region_tail 2 (fun idx => match idx with | 0 => (fun v _ _ => v = (.pointer (some ⟨qL, 0, none⟩))) | 1 => (fun v _ _ => v = (.pointer (some ⟨qL, 0, none⟩))) | 2 => (fun v _ _ => v = (.pointer (some ⟨qL, 7, none⟩))) | 3 => (fun v _ _ => v = (.slice (some ⟨pt, 0, none⟩) n n)) | 4 => (fun v _ _ => v = (.int .i64 (x : Int))) | 5 => (fun v _ _ => v = .agg (tc u)) | _ => fun _ _ _ => True) (fun _ _ _ _ => True) (Rk.allK) 99 (by kernel_rfl) (by rfl) (by kernel_rfl) (by rfl) ?_ ?_ ?_ ?_
        · refine ⟨?_, ?_, ?_, ?_, ?_, ?_, trivial⟩
          · intro A w' K vals h hn hT hgk hK0
            have r0 : A.tmps[0]?.getD undef = .pointer (some ⟨qL, 0, none⟩) := Rg.slot h.1
            clear h hn hT hgk
            simp [Oper.wp, execOp, go_sem, r0]
            exact hK0 _ _ (Rk.Keeps.refl _ _) rfl trivial
          · intro A w' K vals h hn hT hgk hK0
            have r0 : A.tmps[47]?.getD undef = vals 0 := Rg.slot h.1
            have s0 : vals 0 = .pointer (some ⟨qL, 0, none⟩) := hn.1
            clear h hn hT hgk
            simp [Oper.wp, execOp, go_sem, r0, s0]
            exact hK0 _ _ (Rk.Keeps.refl _ _) rfl trivial
          · intro A w' K vals h hn hT hgk hK0
            have r0 : A.tmps[48]?.getD undef = vals 1 := Rg.slot h.1
            have s0 : vals 1 = .pointer (some ⟨qL, 0, none⟩) := hn.1
            clear h hn hT hgk
            simp [Oper.wp, execOp, go_sem, r0, s0]
            exact hK0 _ _ (Rk.Keeps.refl _ _) rfl trivial
          · intro A w' K vals h hn hT hgk hK0
            have r0 : A.tmps[49]?.getD undef = vals 2 := Rg.slot (h.1)
            have r1 : vals 2 = (.pointer (some ⟨qL, 7, none⟩)) := hn.1
            have hbx := (HL.out.on (below_of_grown (Rk.grown_of hgk))).lbox
            have c0 : w'.cell? ⟨qL, 7, none⟩ = some (.slice (some ⟨pt, 0, none⟩) n n) := hbx.cell 7 _ rfl
            clear h hn hT hgk hbx
            simp [Oper.wp, execOp, go_sem, r0, r1, c0]
            exact hK0 _ _ (Rk.Keeps.refl _ _) rfl trivial
          · intro A w' K vals h hn hT hgk hK0
            have r0 : A.tmps[5]?.getD undef = .int .i64 (x : Int) := Rg.slot h.1
            clear h hn hT hgk
            simp [Oper.wp, execOp, go_sem, r0]
            exact hK0 _ _ (Rk.Keeps.refl _ _) rfl trivial
          · intro A w' K vals h hn hT hgk hK0
            have r0 : A.tmps[6]?.getD undef = .pointer (some ⟨qm, 0, none⟩) := Rg.slot (h.1)
            have hbx := BQm.out.keep (Rk.grown_of hgk)
            have c0 : w'.cell? ⟨qm, 0, none⟩ = some (.bool u.top) := hbx.cell 0 _ rfl
            have c1 : w'.cell? ⟨qm, 1, none⟩ = some (.int .i64 u.a) := hbx.cell 1 _ rfl
            have c2 : w'.cell? ⟨qm, 2, none⟩ = some (.int .i64 u.b) := hbx.cell 2 _ rfl
            have c3 : w'.cell? ⟨qm, 3, none⟩ = some (.int .i64 u.c) := hbx.cell 3 _ rfl
            have c4 : w'.cell? ⟨qm, 4, none⟩ = some (.int .i64 u.d) := hbx.cell 4 _ rfl
            clear hbx
            clear h hn hT hgk
            simp [Oper.wp, execOp, go_sem, r0, c0, c1, c2, c3, c4]
            exact hK0 _ _ (Rk.Keeps.refl _ _) rfl trivial
        · refine ⟨?_, ?_, ?_, ?_, ?_, ?_, trivial⟩
          · exact fun _ _ _ _ _ _ h => h
          · exact fun _ _ _ _ _ _ h => h
          · exact fun _ _ _ _ _ _ h => h
          · exact fun _ _ _ _ _ _ h => h
          · exact fun _ _ _ _ _ _ h => h
          · exact fun _ _ _ _ _ _ h => h
        · exact fun _ _ _ _ _ _ h => h
        · intro vals w5 G hg hS hG
          have s3 : vals 3 = (.slice (some ⟨pt, 0, none⟩) n n) := hS.2.2.2.1
          have s4 : vals 4 = (.int .i64 (x : Int)) := hS.2.2.2.2.1
          have s5 : vals 5 = .agg #[.bool u.top, .int .i64 u.a, .int .i64 u.b, .int .i64 u.c, .int .i64 u.d] := hS.2.2.2.2.2.1
          clear hS
          have hb := below_of_grown (Rk.grown_of hg)
          have HL5 := Lib.hid (HL.out.on hb)
          clear hb hg HL BQm
          have tc0 : w5.cell? ⟨pt, x * 5, none⟩ = some (.bool t.top) := HL5.out.tcell HXN.out HT.out 0 _ rfl
          have tf0 : w5.frozen? ⟨pt, x * 5, none⟩ = false := HL5.out.tups.frozen _
          have tc1 : w5.cell? ⟨pt, x * 5 + 1, none⟩ = some (.int .i64 t.a) := HL5.out.tcell HXN.out HT.out 1 _ rfl
          have tf1 : w5.frozen? ⟨pt, x * 5 + 1, none⟩ = false := HL5.out.tups.frozen _
          have tc2 : w5.cell? ⟨pt, x * 5 + 2, none⟩ = some (.int .i64 t.b) := HL5.out.tcell HXN.out HT.out 2 _ rfl
          have tf2 : w5.frozen? ⟨pt, x * 5 + 2, none⟩ = false := HL5.out.tups.frozen _
          have tc3 : w5.cell? ⟨pt, x * 5 + 3, none⟩ = some (.int .i64 t.c) := HL5.out.tcell HXN.out HT.out 3 _ rfl
          have tf3 : w5.frozen? ⟨pt, x * 5 + 3, none⟩ = false := HL5.out.tups.frozen _
          have tc4 : w5.cell? ⟨pt, x * 5 + 4, none⟩ = some (.int .i64 t.d) := HL5.out.tcell HXN.out HT.out 4 _ rfl
          have tf4 : w5.frozen? ⟨pt, x * 5 + 4, none⟩ = false := HL5.out.tups.frozen _
          refine hG ?_
          clear hG
          simp [Rg.putAll, s3, s4, s5]
          clear s3 s4 s5
          have hxi : (x : Int) < (n : Int) := by have := HXN.out; omega
          have hx0 : (0 : Int) ≤ (x : Int) := Int.natCast_nonneg _
          go_upto_region 7 with (fail)
          clear tc0 tf0 tc1 tf1 tc2 tf2 tc3 tf3 tc4 tf4
          have HL6 := Lib.hid (HL5.out.setT x HXN.out u)
          clear HL5
          obtain ⟨l6, hl6⟩ : ∃ l6, l.set x u = l6 := ⟨_, rfl⟩
          rw [hl6] at HL6
          have HUC : Hid (u = (g.choose l x).2) := Lib.hid (by rw [← HUE.out]; exact P.lift_eq HNR.out)
          have HL6E : Hid (l6 = l.set x (g.choose l x).2) := Lib.hid (by rw [← hl6, HUC.out])
          clear hl6
          generalize (((((w5.setCell ⟨pt, x * 5, none⟩ (.bool u.top)).setCell ⟨pt, x * 5 + 1, none⟩ (.int .i64 u.a)).setCell ⟨pt, x * 5 + 2, none⟩ (.int .i64 u.b)).setCell ⟨pt, x * 5 + 3, none⟩ (.int .i64 u.c)).setCell ⟨pt, x * 5 + 4, none⟩ (.int .i64 u.d)) = w6 at HL6 ⊢
          have hbx : B[x]? = some (B.getD x []) := by
            rw [List.getD_eq_getElem?_getD, List.getElem?_eq_getElem (by rw [HB.out, P.prv_len]; exact HXN.out)]
            rfl
          have hbm := fun z => P.prv_mem (g := g) (O := O) HXN.out z
          rw [← HB.out] at hbm
          have hbl : (B.getD x []).length ≤ 40000 := by
            rw [HB.out]
            refine Nat.le_trans (P.prv_row_len HXN.out) (Nat.le_trans (P.pairs_len fun y hy => ?_) (by rw [HO.out.len]; omega))
            have hyn := (HO.out.2 y).1 hy
            have h2 := (HR.out.at y (by rw [HN.out]; exact hyn)).2.2.2.2
            rw [HN.out] at h2
            exact P.rise_len h2 hmany
          obtain ⟨bs, hbs⟩ : ∃ bs, B.getD x [] = bs := ⟨_, rfl⟩
          rw [hbs] at hbx hbm hbl
          have HBS := Lib.hid hbs
          have HBX := Lib.hid hbx
          have HBM := Lib.hid hbm
          clear hbs hbm
          obtain ⟨v, hLx, hov⟩ := HL6.out.rows.rows x bs hbx
          obtain ⟨vo, vk, rfl, -⟩ := own_at hov
          have HLX := Lib.hid hLx
          clear hbx hLx hov
          have lc8 : w6.cell? ⟨qL, 8, none⟩ = some (.slice (some ⟨pB, 0, none⟩) n n) := HL6.out.lbox.cell 8 _ rfl
          have bc0 : w6.cell? ⟨pB, x, none⟩ = some (.slice vo bs.length vk) := HL6.out.head.cell x _ (by rw [List.getElem?_toArray]; exact HLX.out)
          go_wp2_with fail
          clear lc8 bc0
          go_loopw [7, 63] (fun fv iv wr => ∃ (j first : Nat) (Wj : Nat → Bool), j ≤ bs.length ∧ fv = .int .i64 (first : Int) ∧ iv = .int .i64 (j : Int) ∧ first ≤ k ∧ Lm wb N n qL pt pB pp pw qo ko (.slice (some ⟨ba, oa, none⟩) n ka) (.slice (some ⟨bb, ob, none⟩) n kb) (.slice (some ⟨bc_, oc, none⟩) n kc) g.tups O B L l6 m Wj wr ∧ (∀ y, y < first → Wj y = true → Wt y = true) ∧ (∀ y, Wj y = false → (y = k ∨ Wt y = false) ∧ ∀ z ∈ bs.take j, m z.toNat ≠ (y : Int))) (fun _ iv _ => bs.length - (intOf iv).toNat)
          case atStart =>
            refine ⟨0, k, _, Nat.zero_le _, rfl, rfl, Nat.le_refl _, HL6.out, fun y hy h => ?_, fun y h => ⟨?_, fun z hz => nomatch hz⟩⟩
            · have h : (if y = k then false else Wt y) = true := h
              rw [if_neg (by omega)] at h
              exact h
            · have h : (if y = k then false else Wt y) = false := h
              by_cases e : y = k
              · exact .inl e
              · rw [if_neg e] at h
                exact .inr h
          case round =>
            obtain ⟨j, first, Wj, hj, rfl, rfl, hfk, hL, h1, h2⟩ := hrel
            have HL := Lib.hid hL
            have H1 := Lib.hid h1
            have H2 := Lib.hid h2
            clear hL h1 h2
            have hj0 : (0 : Int) ≤ (j : Int) := Int.natCast_nonneg _
            by_cases hlt : j < bs.length
            · have fj : decide ((j : Int) < (bs.length : Int)) = true := decide_eq_true (by omega)
              have hji : (j : Int) < (bs.length : Int) := by omega
              obtain ⟨v2, hv2, hov⟩ := HL.out.rows.rows x bs HBX.out
              obtain rfl : Value.slice vo bs.length vk = v2 := by
                have h3 := HLX.out
                rw [h3] at hv2
                injection hv2
              obtain ⟨gb, gk, e9, -, -, hcl, -⟩ := own_form hov (by omega)
              obtain ⟨rfl, rfl⟩ : vo = some ⟨gb, 0, none⟩ ∧ vk = gk := by injection e9 with h3 h4 h5; exact ⟨h3, h5⟩
              obtain ⟨z, hz⟩ : ∃ z, bs[j] = z := ⟨_, rfl⟩
              have hzm : z ∈ bs := by rw [← hz]; exact List.getElem_mem hlt
              obtain ⟨a, haO, -, hza⟩ := (HBM.out z).1 hzm
              subst hza
              have han : a < n := (HO.out.2 a).1 haO
              obtain ⟨i, hi⟩ := List.getElem?_of_mem haO
              have hin : i < n := by
                have := (List.getElem?_eq_some_iff.1 hi).1
                rw [HO.out.len] at this
                exact this
              have hma : m a = (i : Int) := HM.out i a hi
              have htake : bs.take (j + 1) = bs.take j ++ [(a : Int)] := by
                rw [List.take_succ_eq_append_getElem hlt, hz]
              have HTK := Lib.hid htake
              have HMA := Lib.hid hma
              have HAN := Lib.hid han
              have HIN := Lib.hid hin
              have cz : wr.cell? ⟨gb, j, none⟩ = some (.int .i64 (a : Int)) := hcl j _ (by rw [List.getElem?_map, List.getElem?_eq_getElem hlt, hz]; rfl)
              clear hv2 hov hcl e9 hz hzm haO han hi hin hma htake
              go_wp2_with fail
              clear cz
              refine Rt.wp_region_tail 2 (fun idx => match idx with | 0 => (fun v _ _ => v = (.pointer (some ⟨qL, 0, none⟩))) | 1 => (fun v _ _ => v = (.pointer (some ⟨qL, 0, none⟩))) | 2 => (fun v _ _ => v = (.pointer (some ⟨qL, 11, none⟩))) | 3 => (fun v _ _ => v = (.slice (some ⟨pw, 0, none⟩) n n)) | 4 => (fun v _ _ => v = (.pointer (some ⟨qL, 0, none⟩))) | 5 => (fun v _ _ => v = (.pointer (some ⟨qL, 0, none⟩))) | 6 => (fun v _ _ => v = (.pointer (some ⟨qL, 10, none⟩))) | 7 => (fun v _ _ => v = (.slice (some ⟨pp, 0, none⟩) n n)) | 8 => (fun v _ _ => v = (.int .i64 (a : Int))) | 9 => (fun v _ _ => v = (.pointer (some ⟨pp, a, none⟩))) | 10 => (fun v _ _ => v = (.int .i64 (i : Int))) | _ => fun _ _ _ => True) (fun _ _ _ _ => True) (Rk.allK) 99 (by kernel_rfl) (by rfl) (by kernel_rfl) (by rfl) ?_ ?_ ?_ ?_
              · refine ⟨?_, ?_, ?_, ?_, ?_, ?_, ?_, ?_, ?_, ?_, ?_, trivial⟩
                · intro A w' K vals h hn hT hgk hK0
                  have r0 : A.tmps[0]?.getD undef = .pointer (some ⟨qL, 0, none⟩) := Rg.slot h.1
                  clear h hn hT hgk
                  simp [Oper.wp, execOp, go_sem, r0]
                  exact hK0 _ _ (Rk.Keeps.refl _ _) rfl trivial
                · intro A w' K vals h hn hT hgk hK0
                  have r0 : A.tmps[67]?.getD undef = vals 0 := Rg.slot h.1
                  have s0 : vals 0 = .pointer (some ⟨qL, 0, none⟩) := hn.1
                  clear h hn hT hgk
                  simp [Oper.wp, execOp, go_sem, r0, s0]
                  exact hK0 _ _ (Rk.Keeps.refl _ _) rfl trivial
                · intro A w' K vals h hn hT hgk hK0
                  have r0 : A.tmps[68]?.getD undef = vals 1 := Rg.slot h.1
                  have s0 : vals 1 = .pointer (some ⟨qL, 0, none⟩) := hn.1
                  clear h hn hT hgk
                  simp [Oper.wp, execOp, go_sem, r0, s0]
                  exact hK0 _ _ (Rk.Keeps.refl _ _) rfl trivial
                · intro A w' K vals h hn hT hgk hK0
                  have r0 : A.tmps[69]?.getD undef = vals 2 := Rg.slot (h.1)
                  have r1 : vals 2 = (.pointer (some ⟨qL, 11, none⟩)) := hn.1
                  have hbx := (HL.out.on (below_of_grown (Rk.grown_of hgk))).lbox
                  have c0 : w'.cell? ⟨qL, 11, none⟩ = some (.slice (some ⟨pw, 0, none⟩) n n) := hbx.cell 11 _ rfl
                  clear h hn hT hgk hbx
                  simp [Oper.wp, execOp, go_sem, r0, r1, c0]
                  exact hK0 _ _ (Rk.Keeps.refl _ _) rfl trivial
                · intro A w' K vals h hn hT hgk hK0
                  have r0 : A.tmps[0]?.getD undef = .pointer (some ⟨qL, 0, none⟩) := Rg.slot h.1
                  clear h hn hT hgk
                  simp [Oper.wp, execOp, go_sem, r0]
                  exact hK0 _ _ (Rk.Keeps.refl _ _) rfl trivial
                · intro A w' K vals h hn hT hgk hK0
                  have r0 : A.tmps[71]?.getD undef = vals 4 := Rg.slot h.1
                  have s0 : vals 4 = .pointer (some ⟨qL, 0, none⟩) := hn.1
                  clear h hn hT hgk
                  simp [Oper.wp, execOp, go_sem, r0, s0]
                  exact hK0 _ _ (Rk.Keeps.refl _ _) rfl trivial
                · intro A w' K vals h hn hT hgk hK0
                  have r0 : A.tmps[72]?.getD undef = vals 5 := Rg.slot h.1
                  have s0 : vals 5 = .pointer (some ⟨qL, 0, none⟩) := hn.1
                  clear h hn hT hgk
                  simp [Oper.wp, execOp, go_sem, r0, s0]
                  exact hK0 _ _ (Rk.Keeps.refl _ _) rfl trivial
                · intro A w' K vals h hn hT hgk hK0
                  have r0 : A.tmps[73]?.getD undef = vals 6 := Rg.slot (h.1)
                  have r1 : vals 6 = (.pointer (some ⟨qL, 10, none⟩)) := hn.1
                  have hbx := (HL.out.on (below_of_grown (Rk.grown_of hgk))).lbox
                  have c0 : w'.cell? ⟨qL, 10, none⟩ = some (.slice (some ⟨pp, 0, none⟩) n n) := hbx.cell 10 _ rfl
                  clear h hn hT hgk hbx
                  simp [Oper.wp, execOp, go_sem, r0, r1, c0]
                  exact hK0 _ _ (Rk.Keeps.refl _ _) rfl trivial
                · intro A w' K vals h hn hT hgk hK0
                  have r0 : A.tmps[9]?.getD undef = .int .i64 (a : Int) := Rg.slot h.1
                  clear h hn hT hgk
                  simp [Oper.wp, execOp, go_sem, r0]
                  exact hK0 _ _ (Rk.Keeps.refl _ _) rfl trivial
                · intro A w' K vals h hn hT hgk hK0
                  have r0 : A.tmps[74]?.getD undef = vals 7 := Rg.slot h.1
                  have s0 : vals 7 = .slice (some ⟨pp, 0, none⟩) n n := hn.1
                  have r1 : A.tmps[75]?.getD undef = vals 8 := Rg.slot h.2.1
                  have s1 : vals 8 = .int .i64 (a : Int) := hn.2.1
                  clear h hn hT hgk
                  simp [Oper.wp, execOp, go_sem, r0, r1, s0, s1, HAN.out]
                  exact hK0 _ _ (Rk.Keeps.refl _ _) rfl trivial
                · intro A w' K vals h hn hT hgk hK0
                  have r0 : A.tmps[76]?.getD undef = vals 9 := Rg.slot (h.1)
                  have r1 : vals 9 = (.pointer (some ⟨pp, a, none⟩)) := hn.1
                  have c : w'.cell? ⟨pp, a, none⟩ = some (.int .i64 (i : Int)) := by rw [← HMA.out]; exact (HL.out.on (below_of_grown (Rk.grown_of hgk))).plc.cell a _ (im_at HAN.out)
                  clear h hn hT hgk
                  simp [Oper.wp, execOp, go_sem, r0, r1, c]
                  exact hK0 _ _ (Rk.Keeps.refl _ _) rfl trivial
              · refine ⟨?_, ?_, ?_, ?_, ?_, ?_, ?_, ?_, ?_, ?_, ?_, trivial⟩
                · exact fun _ _ _ _ _ _ h => h
                · exact fun _ _ _ _ _ _ h => h
                · exact fun _ _ _ _ _ _ h => h
                · exact fun _ _ _ _ _ _ h => h
                · exact fun _ _ _ _ _ _ h => h
                · exact fun _ _ _ _ _ _ h => h
                · exact fun _ _ _ _ _ _ h => h
                · exact fun _ _ _ _ _ _ h => h
                · exact fun _ _ _ _ _ _ h => h
                · exact fun _ _ _ _ _ _ h => h
                · exact fun _ _ _ _ _ _ h => h
              · exact fun _ _ _ _ _ _ h => h
              · intro vals w7 G hg hS hG
                have s3 : vals 3 = (.slice (some ⟨pw, 0, none⟩) n n) := hS.2.2.2.1
                have s10 : vals 10 = (.int .i64 (i : Int)) := hS.2.2.2.2.2.2.2.2.2.2.1
                clear hS
                have hb := below_of_grown (Rk.grown_of hg)
                have HL7 := Lib.hid (HL.out.on hb)
                clear hb hg HL
                have c0 := HL7.out.wts.cell i _ (bl_at HIN.out)
                have f0 := HL7.out.wts.frozen i
                refine hG ?_
                clear hG
                simp [Rg.putAll, s3, s10]
                clear s3 s10
                have hi0 : (0 : Int) ≤ (i : Int) := Int.natCast_nonneg _
                have hii : (i : Int) < (n : Int) := by have := HIN.out; omega
                have ha0 : (0 : Int) ≤ (a : Int) := Int.natCast_nonneg _
                have hai : (a : Int) < (n : Int) := by have := HAN.out; omega
                have HL8 := Lib.hid (HL7.out.setW i true)
                have lc10 : (w7.setCell ⟨pw, i, none⟩ (.bool true)).cell? ⟨qL, 10, none⟩ = some (.slice (some ⟨pp, 0, none⟩) n n) := HL8.out.lbox.cell 10 _ rfl
                have pc0 : (w7.setCell ⟨pw, i, none⟩ (.bool true)).cell? ⟨pp, a, none⟩ = some (.int .i64 (i : Int)) := by rw [← HMA.out]; exact HL8.out.plc.cell a _ (im_at HAN.out)
                clear HL7
                go_wp2_with fail
                clear lc10 pc0 c0 f0
                go_roundw
                case rel =>
                  refine ⟨j + 1, (if i < first then i else first), _, by omega, by split <;> rfl, by first | rfl | go_num, by split <;> omega, HL8.out, fun y hy h => ?_, fun y h => ?_⟩
                  · have h : (if y = i then true else Wj y) = true := h
                    by_cases e : y = i
                    · exfalso
                      split at hy <;> omega
                    · rw [if_neg e] at h
                      exact H1.out y (by split at hy <;> omega) h
                  · have h : (if y = i then true else Wj y) = false := h
                    by_cases e : y = i
                    · rw [if_pos e] at h
                      cases h
                    · rw [if_neg e] at h
                      obtain ⟨h3, h4⟩ := H2.out y h
                      refine ⟨h3, fun z hz => ?_⟩
                      rw [HTK.out] at hz
                      rcases List.mem_append.1 hz with hz | hz
                      · exact h4 z hz
                      · rw [List.mem_singleton] at hz
                        rw [hz, Int.toNat_natCast, HMA.out]
                        omega
                case measure => simp [intOf]; omega
            · have fj : decide ((j : Int) < (bs.length : Int)) = false := decide_eq_false (by omega)
              have htj : bs.take j = bs := List.take_of_length_le (by omega)
              have HD := Lib.hid (show LiftedTo g O B m l Wt k x l6 Wj first from .inr ⟨HNR.out, HL6E.out, hfk, H1.out, fun y hy => by
                have h := H2.out y hy
                rw [htj] at h
                rw [HBS.out]
                exact h⟩)
              clear htj
              go_wp2_with fail
              go_ret
              exact ⟨_, _, _, rfl, HL.out, HD.out⟩
end W
end Go.Proofs.Yteeaojciobmcaaa
end
