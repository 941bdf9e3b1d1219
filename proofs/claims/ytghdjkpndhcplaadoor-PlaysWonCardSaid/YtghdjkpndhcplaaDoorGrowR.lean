/- Rows of numbers that the call owns, each of which may grow: none is in another's way. -/
import Derived.Test.YtghdjkpndhcplaaDoorHep
import Derived.Test.YtghdjkpndhcplaaDoorReg
namespace Go.Proofs.YtghdjkpndhcplaaDoor
open Go.RowKit
namespace W
structure GrowR (w : World) (lo : Nat) (L : List Value) (ls : List (List Int)) : Prop where
  rows : OwnRows w lo L ls
  apart : Apart L
  len : L.length = ls.length
  nil : ∀ (j : Nat), ls[j]? = some [] → L[j]? = some (Value.slice none 0 0)
theorem GrowR.start (w : World) (lo n : Nat) : GrowR w lo (List.replicate n (Value.slice none 0 0)) (List.replicate n []) where
  rows j l hl := by
    rw [List.getElem?_replicate] at hl
    split at hl
    · rename_i hj
      injection hl with hl
      subst hl
      exact ⟨_, by rw [List.getElem?_replicate, if_pos hj], OwnI.nil w lo⟩
    · cases hl
  apart := Apart.nils n
  len := by simp
  nil j hj := by
    rw [List.getElem?_replicate] at hj ⊢
    split at hj
    · rename_i h; rw [if_pos h]
    · cases hj
theorem GrowR.grown {w w' : World} {lo : Nat} {L : List Value} {ls : List (List Int)} (h : GrowR w lo L ls) (hg : w.grownBy w' none) : GrowR w' lo L ls := ⟨h.rows.grown hg, h.apart, h.len, h.nil⟩
theorem GrowR.kept {w w' : World} {lo : Nat} {L : List Value} {ls : List (List Int)} {row : Option Nat} (h : GrowR w lo L ls) (hg : w.grownBy w' row) (hne : ∀ (j : Nat) (u : Value), L[j]? = some u → u.ownBlock = none ∨ u.ownBlock ≠ row) : GrowR w' lo L ls := ⟨h.rows.kept hg hne, h.apart, h.len, h.nil⟩
/-- What lies before, and what the rows don't hold, stays; a row grows by one. -/
theorem GrowR.push {w w' : World} {lo k : Nat} {L : List Value} {ls : List (List Int)} {v v' : Value} {l l' : List Int} (h : GrowR w lo L ls) (hv : L[k]? = some v) (hl : ls[k]? = some l) (hg : w.grownBy w' v.ownBlock)
    (ho : OwnI w' lo v' l') (hn : v'.ownBlock = v.ownBlock ∨ v'.ownBlock = some w.heap.size) (hp : l' ≠ []) : GrowR w' lo (L.set k v') (ls.set k l') := by
  obtain ⟨v0, hv0, hov⟩ := h.rows k l hl
  rw [hv] at hv0
  injection hv0 with hv0
  subst hv0
  have hk : k < L.length := (List.getElem?_eq_some_iff.1 hv).1
  have other : ∀ (j : Nat) (u : Value), L[j]? = some u → j ≠ k → u.ownBlock = none ∨ u.ownBlock ≠ v.ownBlock := by
    intro j u hu hjk
    by_cases e : l = []
    · subst e
      rw [h.nil k hl] at hv
      injection hv with hv
      subst hv
      by_cases e2 : u.ownBlock = none
      · exact .inl e2
      · exact .inr e2
    · have hj : j < ls.length := by rw [← h.len]; exact (List.getElem?_eq_some_iff.1 hu).1
      obtain ⟨u0, hu0, hou⟩ := h.rows j _ (List.getElem?_eq_getElem hj)
      rw [hu] at hu0
      injection hu0 with hu0
      subst hu0
      exact own_apart hov hou (List.length_pos_iff.2 e) (h.apart k j v u hv hu (fun e => hjk e.symm))
  refine ⟨fun j m hm => ?_, ?_, by simp [h.len], fun j hj => ?_⟩
  · rw [List.getElem?_set] at hm
    rw [List.getElem?_set]
    by_cases e : k = j
    · subst e
      rw [if_pos rfl] at hm ⊢
      rw [if_pos (by rw [← h.len]; exact hk)] at hm
      injection hm with hm
      subst hm
      exact ⟨v', by rw [if_pos hk], ho⟩
    · rw [if_neg e] at hm ⊢
      obtain ⟨x, h1, h2⟩ := h.rows j m hm
      exact ⟨x, h1, own_kept h2 hg (other j x h1 (fun e2 => e e2.symm))⟩
  · intro i j u x hi hj hne
    have key : ∀ (i : Nat) (u : Value), L[i]? = some u → i ≠ k → hold u = none ∨ hold u ≠ hold v' := by
      intro i u hu hik
      cases e : hold u with
      | none => exact .inl rfl
      | some q =>
        refine .inr fun e2 => ?_
        have h1 := hold_own e
        have h2 := hold_own e2.symm
        rcases hn with hn | hn
        · rcases other i u hu hik with h3 | h3
          · rw [h3] at h1; cases h1
          · exact h3 (by rw [h1, ← hn, h2])
        · have hi2 : i < ls.length := by rw [← h.len]; exact (List.getElem?_eq_some_iff.1 hu).1
          obtain ⟨u0, hu0, hou⟩ := h.rows i _ (List.getElem?_eq_getElem hi2)
          rw [hu] at hu0
          injection hu0 with hu0
          subst hu0
          have h4 := (own_lt hou q h1).2
          rw [hn] at h2
          injection h2 with h2
          omega
    rw [List.getElem?_set] at hi hj
    by_cases e1 : k = i
    · subst e1
      rw [if_pos rfl, if_pos hk] at hi
      injection hi with hi
      subst hi
      rw [if_neg hne] at hj
      rcases key j x hj (fun e => hne e.symm) with h1 | h1
      · cases e : hold v' with
        | none => exact .inl rfl
        | some q => exact .inr (by rw [h1]; simp)
      · exact .inr fun e => h1 e.symm
    · rw [if_neg e1] at hi
      by_cases e2 : k = j
      · subst e2
        rw [if_pos rfl, if_pos hk] at hj
        injection hj with hj
        subst hj
        exact key i u hi (fun e => e1 e.symm)
      · rw [if_neg e2] at hj
        exact h.apart i j u x hi hj hne
  · rw [List.getElem?_set] at hj ⊢
    by_cases e : k = j
    · subst e
      rw [if_pos rfl] at hj
      split at hj
      · injection hj with hj; exact absurd hj hp
      · cases hj
    · rw [if_neg e] at hj ⊢
      exact h.nil j hj
theorem GrowR.low {w : World} {lo : Nat} {L : List Value} {ls : List (List Int)} (h : GrowR w lo L ls) {j : Nat} {u : Value} (hu : L[j]? = some u) : ∀ b, u.ownBlock = some b → lo ≤ b ∧ b < w.heap.size := by
  have hj : j < ls.length := by rw [← h.len]; exact (List.getElem?_eq_some_iff.1 hu).1
  obtain ⟨y, hy, ho⟩ := h.rows j _ (List.getElem?_eq_getElem hj)
  rw [hu] at hy
  injection hy with hy
  subst hy
  exact fun b hb => own_lt ho b hb
end W
end Go.Proofs.YtghdjkpndhcplaaDoor
namespace Go.Proofs.YtghdjkpndhcplaaDoor
open Go.RowKit
namespace W
/-- Blocks below N but for these. -/
def KX (N : Nat) (X : List Nat) : Nat → Obj → Prop := fun k _ => k < N ∧ k ∉ X
theorem kx_box {w w' : World} {N b : Nat} {X : List Nat} {t : TypeId} {cs : Array Value} (h : Rk.Keeps (KX N X) w w') (hb : Box w b t cs) (h1 : b < N) (h2 : b ∉ X) : Box w' b t cs := h.block b _ hb ⟨h1, h2⟩
theorem kx_below {w w' : World} {N B : Nat} {X : List Nat} (h : Rk.Keeps (KX N X) w w') (hX : ∀ x ∈ X, B ≤ x) (hB : B ≤ N) (hN : N ≤ w.heap.size) : Below B w w' := ⟨h.os, h.tape, h.output, h.size, fun k hk => by
  have hlt : k < w.heap.size := by omega
  rw [h.block k _ (Array.getElem?_eq_getElem hlt) ⟨by omega, fun e => by have := hX k e; omega⟩]
  exact (Array.getElem?_eq_getElem hlt).symm⟩
theorem kx_set {N x : Nat} {X : List Nat} (w : World) (hx : x ∈ X ∨ N ≤ x) (j : Nat) (u : Value) : Rk.Keeps (KX N X) w (w.setCell ⟨x, j, none⟩ u) := ⟨rfl, rfl, rfl, by simp [World.setCell], fun k o ho hk => by
  rw [Below.heap_setCell _ _ _ _ (show k ≠ x from fun e => by rcases hx with hx | hx; · exact hk.2 (e ▸ hx)
                                                              · have := hk.1; omega)]
  exact ho⟩
theorem kx_grown {w w' : World} {N : Nat} {X : List Nat} {row : Option Nat} (h : w.grownBy w' row) (hr : ∀ k, row = some k → k ∈ X ∨ N ≤ k) : Rk.Keeps (KX N X) w w' := ⟨h.os, h.tape, h.output, h.size, fun k o ho hk => by
  have hlt := (Array.getElem?_eq_some_iff.1 ho).1
  rw [h.block k hlt (fun e => by rcases hr k e.symm with hx | hx; · exact hk.2 hx
                                 · have := hk.1; omega)]
  exact ho⟩
theorem kx_below_of {w w' : World} {N : Nat} {X : List Nat} (h : Below w.heap.size w w') : Rk.Keeps (KX N X) w w' := kx_grown (grown_of_below h none) (fun k e => by cases e)
theorem kx_own {w w' : World} {lo N : Nat} {X : List Nat} {e : TypeId} {v : Value} {n : Nat} {xs : List Value} (ho : w.ownsRow lo e 1 v n xs) (h : Rk.Keeps (KX N X) w w') (hv : ∀ b, v.ownBlock = some b → b < N ∧ b ∉ X) : w'.ownsRow lo e 1 v n xs := by
  refine ⟨ho.1, ?_⟩
  rcases ho.2 with h2 | ⟨g, cap, cur, rfl, hg, hh, r⟩
  · exact .inl h2
  · exact .inr ⟨g, cap, cur, rfl, hg, h.block g _ hh (hv g rfl), r⟩
theorem kx_cell {w w' : World} {N b j : Nat} {X : List Nat} {u : Value} (h : Rk.Keeps (KX N X) w w') (hc : w.cell? ⟨b, j, none⟩ = some u) (hb : b < w.heap.size) (h1 : b < N) (h2 : b ∉ X) : w'.cell? ⟨b, j, none⟩ = some u := by
  have := h.block b _ (Array.getElem?_eq_getElem hb) ⟨h1, h2⟩
  unfold World.cell? at hc ⊢
  rw [this]
  rw [Array.getElem?_eq_getElem hb] at hc
  exact hc
theorem kx_more {w w' : World} {N N' : Nat} {X X' : List Nat} (h : Rk.Keeps (KX N X) w w') (hN : N' ≤ N) (hX : ∀ x ∈ X, x ∈ X' ∨ N' ≤ x) : Rk.Keeps (KX N' X') w w' := ⟨h.os, h.tape, h.output, h.size, fun k o ho hk => h.block k o ho ⟨Nat.lt_of_lt_of_le hk.1 hN, fun e => by
  rcases hX k e with hx | hx
  · exact hk.2 hx
  · have := hk.1; omega⟩⟩
theorem cell_lt {w : World} {b j : Nat} {u : Value} (h : w.cell? ⟨b, j, none⟩ = some u) : b < w.heap.size := by
  rcases Nat.lt_or_ge b w.heap.size with h1 | h1
  · exact h1
  · unfold World.cell? at h
    rw [Array.getElem?_eq_none h1] at h
    cases h
section
variable {w : World} {q : Nat} (u0 u1 u2 u3 : Value)
theorem far4 {b : Nat} {t : TypeId} {cs : Array Value} (h : Box w b t cs) (hne : b ≠ q) : Box ((((w.setCell ⟨q, 0, none⟩ u0).setCell ⟨q, 1, none⟩ u1).setCell ⟨q, 2, none⟩ u2).setCell ⟨q, 3, none⟩ u3) b t cs := (((h.far hne u0).far hne u1).far hne u2).far hne u3
theorem grown4 : w.grownBy ((((w.setCell ⟨q, 0, none⟩ u0).setCell ⟨q, 1, none⟩ u1).setCell ⟨q, 2, none⟩ u2).setCell ⟨q, 3, none⟩ u3) (some q) := (((grown_set w ⟨q, 0, none⟩ u0).trans (grown_set _ ⟨q, 1, none⟩ u1)).trans (grown_set _ ⟨q, 2, none⟩ u2)).trans (grown_set _ ⟨q, 3, none⟩ u3)
theorem below4 {B : Nat} (h : B ≤ q) : Below B w ((((w.setCell ⟨q, 0, none⟩ u0).setCell ⟨q, 1, none⟩ u1).setCell ⟨q, 2, none⟩ u2).setCell ⟨q, 3, none⟩ u3) := ((((Below.refl B w).setCell (p := ⟨q, 0, none⟩) h u0).setCell (p := ⟨q, 1, none⟩) h u1).setCell (p := ⟨q, 2, none⟩) h u2).setCell (p := ⟨q, 3, none⟩) h u3
theorem kx4 {N : Nat} {X : List Nat} (hx : q ∈ X ∨ N ≤ q) : Rk.Keeps (KX N X) w ((((w.setCell ⟨q, 0, none⟩ u0).setCell ⟨q, 1, none⟩ u1).setCell ⟨q, 2, none⟩ u2).setCell ⟨q, 3, none⟩ u3) := (((kx_set w hx 0 u0).trans (kx_set _ hx 1 u1)).trans (kx_set _ hx 2 u2)).trans (kx_set _ hx 3 u3)
end
theorem grown_chain {a b c : World} {r : Option Nat} (h : a.grownBy b r) (k : b.grownBy c r) : a.grownBy c r := h.trans k
/-- make, as an operation. -/
theorem op_make {e sl : TypeId} {z : Value} {bytes : Nat} (E : El e sl z bytes) {o : Oper} {A : Act} {w : World} {K : Act → World → Prop} {Q : Exit → Act → World → Prop} {s x : Operand}
    (ho : o.op = .makeSlice sl s x) (n : Nat) (hs : A.eval s = .int .i64 n) (hx : A.eval x = .int .i64 n) (hb : bytes * n ≤ 281474976710656) (hn : n ≤ 9223372036854775807)
    (hK : K (A.put o.dst (.slice (some ⟨w.heap.size, 0, none⟩) n n)) (Made w e z n)) : o.wp Tryd.prog A w K Q := by
  have hrun := run_make1 E n hb hn w
  unfold Oper.wp execOp
  simp only [ho, hs, hx, Sem.run_bind, Sem.run_pure, hrun, Result.andThen_ok]
  exact hK
/-- A row of numbers made by the call, of which a place is written. -/
theorem own_put {w : World} {lo e q n k : Nat} {xs : List Value} (h : w.ownsRow lo e 1 (.slice (some ⟨q, 0, none⟩) n k) n xs) (j : Nat) (u : Value) : (w.setCell ⟨q, j, none⟩ u).ownsRow lo e 1 (.slice (some ⟨q, 0, none⟩) n k) n (xs.set j u) := (h.stored j u).1
theorem OwnI.put {w : World} {lo q n k : Nat} {xs : List Int} (h : OwnI w lo (.slice (some ⟨q, 0, none⟩) n k) xs) (j : Nat) (z : Int) : OwnI (w.setCell ⟨q, j, none⟩ (.int .i64 z)) lo (.slice (some ⟨q, 0, none⟩) n k) (xs.set j z) := by
  have hlen : n = xs.length := by
    obtain ⟨a1, k1, e, -⟩ := own_at h
    injection e
  unfold OwnI at h ⊢
  subst hlen
  have := (h.stored j (.int .i64 z)).1
  rw [map_set] at this
  simpa using this
end W
end Go.Proofs.YtghdjkpndhcplaaDoor
