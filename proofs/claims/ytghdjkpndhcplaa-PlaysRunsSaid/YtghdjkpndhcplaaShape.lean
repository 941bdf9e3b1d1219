/- A game that the call owns, of which only the shapes are said: what stays while its numbers are written over and its rows grow. -/
import Derived.Test.YtghdjkpndhcplaaKeep
import Derived.Deep.DeepAppendRoom
namespace Go.Proofs.Ytghdjkpndhcplaa
open Go.RowKit
namespace W
/-- Blocks below lo, those from hi up to N, and those that hold neither numbers nor rows, stay. -/
def K0 (lo hi N : Nat) : Nat → Obj → Prop := fun k o => k < lo ∨ (hi ≤ k ∧ k < N) ∨ ∀ cs fr, o ≠ .cells cs 3 fr ∧ o ≠ .cells cs 22 fr
/-- Blocks below lo, those from hi up to N, and all that hold no 't'. -/
def KF (lo hi N : Nat) (t : TypeId) : Nat → Obj → Prop := fun k o => (∀ cs fr, o ≠ .cells cs t fr) ∨ k < lo ∨ (hi ≤ k ∧ k < N)
theorem keeps_mono {w w' : World} {K K' : Nat → Obj → Prop} (h : Rk.Keeps K w w') (hk : ∀ k o, K' k o → K k o) : Rk.Keeps K' w w' := ⟨h.os, h.tape, h.output, h.size, fun k o ho hK => h.block k o ho (hk k o hK)⟩
theorem kf_k0 {w w' : World} {lo hi N : Nat} {t : TypeId} (h : Rk.Keeps (KF lo hi N t) w w') (ht : t = 3 ∨ t = 22 := by decide) : Rk.Keeps (K0 lo hi N) w w' := keeps_mono h fun k o hk => by
  rcases hk with hk | hk | hk
  · exact .inr (.inl hk)
  · exact .inr (.inr hk)
  · refine .inl fun cs fr => ?_
    rcases ht with rfl | rfl
    · exact (hk cs fr).1
    · exact (hk cs fr).2
theorem kf_kg {w w' : World} {lo hi N : Nat} {t : TypeId} (h : Rk.Keeps (KF lo hi N t) w w') : Rk.Keeps (KG 0 t) w w' := keeps_mono h fun k _ hk => hk.elim (fun h => absurd h (Nat.not_lt_zero k)) .inl
/-- Blocks of numbers stay blocks of numbers, as long as they were. -/
def Soft (w w' : World) : Prop := ∀ (k : Nat) (cs : Array Value), w.heap[k]? = some (.cells cs 3 (0, 0)) → ∃ cs' : Array Value, cs'.size = cs.size ∧ w'.heap[k]? = some (.cells cs' 3 (0, 0))
theorem Soft.trans {a b c : World} (h : Soft a b) (k : Soft b c) : Soft a c := fun i cs hi => by
  obtain ⟨cs', h1, h2⟩ := h i cs hi
  obtain ⟨cs'', h3, h4⟩ := k i cs' h2
  exact ⟨cs'', h3.trans h1, h4⟩
theorem soft_all {w w' : World} (h : Rk.Keeps Rk.allK w w') : Soft w w' := fun k cs hk => ⟨cs, rfl, h.block k _ hk trivial⟩
theorem soft_other {w w' : World} {t : TypeId} (h : Rk.Keeps (KG 0 t) w w') (hne : 3 ≠ t) : Soft w w' := fun k cs hk => ⟨cs, rfl, h.block k _ hk (.inr fun cs' fr he => by injection he with _ h2; exact hne h2)⟩
/-- A list of numbers that the call owns, whatever they are. -/
def Rw (lo hi N : Nat) (w : World) (v : Value) (n : Nat) : Prop := (∃ xs, w.ownsRow lo 3 1 v n xs) ∧ ∀ k, v.ownBlock = some k → k < hi ∨ N ≤ k
theorem Rw.soft {lo hi N : Nat} {w w' : World} {v : Value} {n : Nat} (h : Rw lo hi N w v n) (hs : Soft w w') : Rw lo hi N w' v n := by
  obtain ⟨⟨xs, hl, h2⟩, hk⟩ := h
  refine ⟨?_, hk⟩
  rcases h2 with ⟨rfl, rfl⟩ | ⟨g, cap, cur, rfl, hg, hh, h3, h4, h5, h6⟩
  · exact ⟨[], by simp, .inl ⟨rfl, rfl⟩⟩
  · obtain ⟨cur', h7, h8⟩ := hs g cur hh
    refine ⟨cur'.toList.take (n * 1), ?_, .inr ⟨g, cap, cur', rfl, hg, h8, h3, h4, by rw [h7, h5], rfl⟩⟩
    rw [List.length_take, Array.length_toList, h7, h5]
    omega
theorem Rw.form {lo hi N : Nat} {w : World} {v : Value} {n : Nat} (h : Rw lo hi N w v n) : ∃ ao k, v = .slice ao n k := by
  obtain ⟨⟨xs, ho⟩, -⟩ := h
  obtain ⟨ao, k, e, -⟩ := own_at ho
  exact ⟨ao, k, e⟩
/-- One of its places, for a store. -/
theorem Rw.at {lo hi N : Nat} {w : World} {ao : Option Addr} {n k : Nat} (h : Rw lo hi N w (.slice ao n k) n) (j : Nat) (hj : j < n) : ∃ g u, ao = some ⟨g, 0, none⟩ ∧ w.cell? ⟨g, j, none⟩ = some u ∧ w.frozen? ⟨g, j, none⟩ = false ∧
    ∀ u', Soft w (w.setCell ⟨g, j, none⟩ u') ∧ Rk.Keeps (KF lo hi N 3) w (w.setCell ⟨g, j, none⟩ u') := by
  obtain ⟨⟨xs, hl, h2⟩, hk⟩ := h
  rcases h2 with ⟨h0, rfl⟩ | ⟨g, cap, cur, hv, hg, hh, h3, h4, h5, h6⟩
  · omega
  · injection hv with h7 h8 h9
    subst h7
    refine ⟨g, cur[j]'(by omega), rfl, ?_, frozen_of_row w g j cur _ hh, fun u' => ⟨?_, rfl, rfl, rfl, by simp [World.setCell], ?_⟩⟩
    · rw [cell_of_row w g j cur _ (0, 0) hh]
      exact Array.getElem?_eq_getElem (by omega)
    · intro i cs hi
      by_cases hne : i = g
      · subst hne
        rw [hh] at hi
        injection hi with hi
        injection hi with hi
        subst hi
        exact ⟨cur.setIfInBounds j u', by simp, heap_setCell_same w i j cur _ u' hh⟩
      · exact ⟨cs, rfl, (Below.heap_setCell _ _ _ _ hne).trans hi⟩
    · intro i o ho hK
      have hne : i ≠ g := by
        rintro rfl
        rw [hh] at ho
        injection ho with ho
        rcases hK with hK | hK
        · exact hK _ _ ho.symm
        · have := hk i rfl
          omega
      exact (Below.heap_setCell _ _ _ _ hne).trans ho
structure Sh (lo hi N : Nat) (w : World) (a b c : Value) (n m r d : Nat) : Prop where
  ra : Rw lo hi N w a n
  rb : Rw lo hi N w b m
  head : ∃ L, w.ownsRow lo 22 1 c r L ∧ (∀ k, c.ownBlock = some k → k < hi ∨ N ≤ k) ∧ ∀ (j : Nat) (x : Value), L[j]? = some x → ∃ l, (d ≤ j → l ≤ 17592186043904) ∧ Rw lo hi N w x l
theorem Sh.soft {lo hi N : Nat} {w w' : World} {a b c : Value} {n m r d : Nat} (h : Sh lo hi N w a b c n m r d) (hs : Soft w w') (hk : Rk.Keeps (KG 0 3) w w') : Sh lo hi N w' a b c n m r d := by
  refine ⟨h.ra.soft hs, h.rb.soft hs, ?_⟩
  obtain ⟨L, h1, h2, h3⟩ := h.head
  refine ⟨L, own_other h1 hk (by decide), h2, fun j x hx => ?_⟩
  obtain ⟨l, hl, hr⟩ := h3 j x hx
  exact ⟨l, hl, hr.soft hs⟩
theorem Sh.all {lo hi N : Nat} {w w' : World} {a b c : Value} {n m r d : Nat} (h : Sh lo hi N w a b c n m r d) (hs : Rk.Keeps Rk.allK w w') : Sh lo hi N w' a b c n m r d := h.soft (soft_all hs) (Rk.keep_weak hs)
/-- The row that comes next is there. -/
theorem Sh.at {lo hi N : Nat} {w : World} {a b : Value} {co : Option Addr} {n m r d k : Nat} (h : Sh lo hi N w a b (.slice co r k) n m r d) (hj : d < r) : ∃ g cur xo l xk, co = some ⟨g, 0, none⟩ ∧ Box w g 22 cur ∧ cur[d]? = some (.slice xo l xk) ∧ l ≤ 17592186043904 ∧ Rw lo hi N w (.slice xo l xk) l := by
  obtain ⟨L, ⟨hL, ho⟩, h2, h3⟩ := h.head
  rcases ho with ⟨h0, rfl⟩ | ⟨g, cap, cur, hv', hg, hh, h4, h5, h6, h7⟩
  · omega
  · injection hv' with e1 e2 e3
    subst e1
    have hdl : d < L.length := by omega
    obtain ⟨l, hl, hr⟩ := h3 d L[d] (List.getElem?_eq_getElem hdl)
    obtain ⟨xo, xk, e⟩ := hr.form
    rw [e] at hr
    refine ⟨g, cur, xo, l, xk, rfl, hh, ?_, hl (Nat.le_refl _), hr⟩
    rw [← e]
    have : (cur.toList.take (r * 1))[d]? = L[d]? := by rw [h7]
    rw [List.getElem?_take, if_pos (by omega)] at this
    rw [← Array.getElem?_toList, this]
    exact List.getElem?_eq_getElem hdl
theorem Sh.put {lo hi N : Nat} {w : World} {a b : Value} {g n m r d k : Nat} (h : Sh lo hi N w a b (.slice (some ⟨g, 0, none⟩) r k) n m r d) (hj : d < r) {v : Value} {l : Nat} (hv : Rw lo hi N w v l) :
    Sh lo hi N (w.setCell ⟨g, d, none⟩ v) a b (.slice (some ⟨g, 0, none⟩) r k) n m r (d + 1) ∧ Rk.Keeps (KF lo hi N 22) w (w.setCell ⟨g, d, none⟩ v) := by
  obtain ⟨L, ⟨hL, ho⟩, h2, h3⟩ := h.head
  rcases ho with ⟨h0, rfl⟩ | ⟨g', cap, cur, hv', hg, hh, h4, h5, h6, h7⟩
  · omega
  · injection hv' with e1 e2 e3
    injection e1 with e1
    injection e1 with e1
    subst e1
    have hk : Rk.Keeps (KF lo hi N 22) w (w.setCell ⟨g, d, none⟩ v) := ⟨rfl, rfl, rfl, by simp [World.setCell], fun i o ho hK => by
      have hne : i ≠ g := by
        rintro rfl
        rw [hh] at ho
        injection ho with ho
        rcases hK with hK | hK
        · exact hK _ _ ho.symm
        · have := h2 i rfl
          omega
      exact (Below.heap_setCell _ _ _ _ hne).trans ho⟩
    have hs := soft_other (kf_kg hk) (by decide)
    refine ⟨⟨h.ra.soft hs, h.rb.soft hs, L.set d v, ⟨by simpa using hL, .inr ⟨g, cap, cur.setIfInBounds d v, by rw [e3], hg, heap_setCell_same w g d cur _ v hh, h4, h5, by simpa using h6, ?_⟩⟩, h2, fun i x hx => ?_⟩, hk⟩
    · rw [Array.toList_setIfInBounds, List.take_set, h7]
    · rw [List.getElem?_set] at hx
      by_cases e : d = i
      · subst e
        rw [if_pos rfl] at hx
        split at hx
        · injection hx with hx
          subst hx
          exact ⟨l, fun h => by omega, hv.soft hs⟩
        · cases hx
      · rw [if_neg e] at hx
        obtain ⟨l', hl', hr⟩ := h3 i x hx
        exact ⟨l', fun h => hl' (by omega), hr.soft hs⟩
/-- Two numbers are appended. -/
theorem Rw.add {lo hi N : Nat} {w : World} {v : Value} {n q : Nat} (h : Rw lo hi N w v n) (hn : n ≤ 17592186043904) (hN : N ≤ w.heap.size) (hlo : lo ≤ w.heap.size) (hb : Box w q 3 #[.int .i64 80, .int .i64 81]) :
    ∃ v' w', (Builtin.append_ #[22, 22] 22 #[v, .slice (some ⟨q, 0, none⟩) 2 2]).run Try.prog w = .ok v' w' ∧ Rw lo hi N w' v' (n + 2) ∧ Soft w w' ∧ Rk.Keeps (KF lo hi N 3) w w' := by
  obtain ⟨⟨xs, ho⟩, hk⟩ := h
  obtain ⟨i, hi', hz, hs, hby⟩ := elInt.info
  have hnews : ∀ j u, [Value.int .i64 80, Value.int .i64 81][j]? = some u → w.cell? ((⟨q, 0, none⟩ : Addr).add j) = some u := fun j u hu => by
    rw [addr_add, Nat.zero_add]
    exact hb.cell j u (by simpa using hu)
  have h1 : ∀ u ∈ [Value.int .i64 80, Value.int .i64 81], u.oneCell' = true := by
    intro u hu
    simp at hu
    rcases hu with rfl | rfl <;> rfl
  have fresh : ∀ v' w', w'.ownsRow w.heap.size 3 1 v' (n + 2) (xs ++ [Value.int .i64 80, Value.int .i64 81]) → w.grownBy w' none → Rw lo hi N w' v' (n + 2) ∧ Soft w w' ∧ Rk.Keeps (KF lo hi N 3) w w' := fun v' w' h2 h3 =>
    ⟨⟨⟨_, own_more h2 hlo⟩, fun k hk => .inr (Nat.le_trans hN (own_lt h2 k hk).1)⟩, soft_all (Rk.keep_of h3), Rk.keep_weak (Rk.keep_of h3)⟩
  have ho' := ho
  rcases ho.2 with ⟨rfl, rfl⟩ | ⟨g, cap, cur, rfl, hg, hh, h3, h4, h5, h6⟩
  · obtain ⟨v', w', hr, h2, h3, h4, h5⟩ := run_append_own_at (P := Try.prog) w w.heap.size 22 22 3 i (.int .i64 0) 1 8 elInt.und hi' hz hs hby rfl (by decide) (.slice none 0 0) 0 [] (World.ownsRow_nil _ _ _ _) ⟨q, 0, none⟩ 2 2 [.int .i64 80, .int .i64 81] rfl hnews h1 (by decide) (by decide) (Nat.le_refl _)
    have hx : xs = [] := List.eq_nil_of_length_eq_zero (by simpa using ho.1)
    subst hx
    exact ⟨v', w', hr, fresh v' w' (by simpa using h2) h3⟩
  · by_cases hroom : n + 2 ≤ cap
    · obtain ⟨w', hr, h7, h8⟩ := run_append_own_spare (P := Try.prog) w lo 22 22 3 i 1 elInt.und hi' hs g n cap xs ho ⟨q, 0, none⟩ 2 2 [.int .i64 80, .int .i64 81] rfl hnews h1 hroom
      refine ⟨_, w', hr, ⟨⟨_, h7⟩, hk⟩, ?_, h8.os, h8.tape, h8.output, h8.size, ?_⟩
      · intro k cs hkk
        by_cases e : k = g
        · subst e
          rcases h7.2 with ⟨h9, _⟩ | ⟨g', cap', cur', hv, _, hh', _, _, hs', _⟩
          · cases h9
          · injection hv with e1 e2 e3
            injection e1 with e1
            injection e1 with e1
            subst e1
            rw [hh] at hkk
            injection hkk with hkk
            injection hkk with hkk
            subst hkk
            exact ⟨cur', by omega, hh'⟩
        · exact ⟨cs, rfl, (h8.block k (Array.getElem?_eq_some_iff.1 hkk).1 (by simpa using e)).trans hkk⟩
      · intro k o hko hK
        have hne : k ≠ g := by
          rintro rfl
          rw [hh] at hko
          injection hko with hko
          rcases hK with hK | hK
          · exact hK _ _ hko.symm
          · have := hk k rfl
            omega
        exact (h8.block k (Array.getElem?_eq_some_iff.1 hko).1 (by simpa using hne)).trans hko
    · have holds : ∀ j u, xs[j]? = some u → w.cell? ((⟨g, 0, none⟩ : Addr).add j) = some u := fun j u hu => by
        obtain ⟨ao, c', e, hc⟩ := own_at ho
        injection e with e1 e2 e3
        subst e1
        rcases hc with rfl | ⟨b', e4, _, _, hc⟩
        · simp at hu
        · injection e4 with e4
          injection e4 with e4
          subst e4
          rw [addr_add]
          exact hc j u hu
      obtain ⟨v', w', hr, h2, h3'⟩ := run_append_arg_grows (P := Try.prog) w 22 22 3 i (.int .i64 0) 1 8 elInt.und hi' hz hs hby rfl (by decide) ⟨g, 0, none⟩ n cap xs (by simpa using ho.1) holds ⟨q, 0, none⟩ 2 2 [.int .i64 80, .int .i64 81] rfl hnews (by omega) (by unfold maxLen; omega) (by omega)
      exact ⟨v', w', hr, fresh v' w' h2 h3'⟩
/-- A game that the call owns, seen by its shapes. -/
theorem OwnG.sh {w1 w : World} {lo hi N : Nat} {a b c : Value} {L : List Value} {g : P.G} (h1 : OwnG w1 lo a b c L g) (h : OwnG w lo a b c L g) (hh : w1.heap.size = hi) (hf : Fits g) : Sh lo hi N w a b c g.owner.length g.prio.length g.moves.length 0 := by
  subst hh
  have key : ∀ {e : TypeId} {v : Value} {n : Nat} {xs : List Value}, w1.ownsRow lo e 1 v n xs → ∀ k, v.ownBlock = some k → k < w1.heap.size ∨ N ≤ k := fun ho k hk => .inl (own_lt ho k hk).2
  refine ⟨⟨⟨_, h.owner⟩, key h1.owner⟩, ⟨⟨_, h.prio⟩, key h1.prio⟩, L, h.head, key h1.head, fun j x hx => ?_⟩
  have hj : j < g.moves.length := by
    have := (List.getElem?_eq_some_iff.1 hx).1
    have := h.head.1
    omega
  obtain ⟨x', e1, o1⟩ := h.rows j g.moves[j] (List.getElem?_eq_getElem hj)
  obtain ⟨x'', e2, o2⟩ := h1.rows j g.moves[j] (List.getElem?_eq_getElem hj)
  rw [hx] at e1 e2
  injection e1 with e1
  injection e2 with e2
  subst e1
  subst e2
  exact ⟨_, fun _ => hf.2.2.2 j _ (List.getElem?_eq_getElem hj), ⟨_, o1⟩, key o2⟩
theorem k0_below {w w' : World} {lo hi N : Nat} (h : Rk.Keeps (K0 lo hi N) w w') (hl : lo ≤ w.heap.size) : Below lo w w' := ⟨h.os, h.tape, h.output, h.size, fun k hk => by
  have := h.block k _ (Array.getElem?_eq_getElem (by omega)) (.inl hk)
  rw [this]
  exact (Array.getElem?_eq_getElem (by omega)).symm⟩
theorem Box.k0 {w w' : World} {b lo hi N : Nat} {t : TypeId} {cs : Array Value} (hb : Box w b t cs) (h : Rk.Keeps (K0 lo hi N) w w') (h1 : t ≠ 3) (h2 : t ≠ 22) : Box w' b t cs :=
  h.block b _ hb (.inr (.inr fun cs' fr => ⟨fun he => by injection he with _ h3; exact h1 h3, fun he => by injection he with _ h3; exact h2 h3⟩))
theorem own_past0 {w w' : World} {lo lo2 hi N : Nat} {e : TypeId} {v : Value} {n : Nat} {xs : List Value} (ho : w.ownsRow lo2 e 1 v n xs) (h : Rk.Keeps (K0 lo hi N) w w') (h1 : hi ≤ lo2) (hN : w.heap.size = N) : w'.ownsRow lo2 e 1 v n xs := by
  refine ⟨ho.1, ?_⟩
  rcases ho.2 with h2 | ⟨g, cap, cur, hv, hg, hh, r⟩
  · exact .inl h2
  · have := (Array.getElem?_eq_some_iff.1 hh).1
    exact .inr ⟨g, cap, cur, hv, hg, h.block g _ hh (.inr (.inl ⟨by omega, by omega⟩)), r⟩
/-- .. and one that was made behind it stays. -/
theorem OwnG.past0 {w w' : World} {lo lo2 hi N : Nat} {a b c : Value} {L : List Value} {g : P.G} (h : OwnG w lo2 a b c L g) (hk : Rk.Keeps (K0 lo hi N) w w') (h1 : hi ≤ lo2) (hN : w.heap.size = N) : OwnG w' lo2 a b c L g :=
  ⟨own_past0 h.owner hk h1 hN, own_past0 h.prio hk h1 hN, own_past0 h.head hk h1 hN, fun j l hl => by obtain ⟨x, hx, ho⟩ := h.rows j l hl; exact ⟨x, hx, own_past0 ho hk h1 hN⟩, h.apart⟩
end W
end Go.Proofs.Ytghdjkpndhcplaa
