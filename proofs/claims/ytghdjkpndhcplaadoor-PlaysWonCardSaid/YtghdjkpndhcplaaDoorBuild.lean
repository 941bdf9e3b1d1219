/- A game that is built, list by list: each list grows where it lies, or moves. -/
import Derived.Test.YtghdjkpndhcplaaDoorHep
namespace Go.Proofs.YtghdjkpndhcplaaDoor
open Go.RowKit
namespace W
/-- No two of these lie in one block. -/
def Far (L : List Value) : Prop := ∀ (i j : Nat) (u v : Value), L[i]? = some u → L[j]? = some v → i ≠ j → u.ownBlock = none ∨ u.ownBlock ≠ v.ownBlock
theorem Far.apart {L : List Value} (h : Far L) : Apart L := fun i j u v hi hj hne => by
  cases hu : hold u with
  | none => exact .inl rfl
  | some g =>
    rcases h i j u v hi hj hne with h | h
    · rw [hold_own hu] at h; cases h
    · refine .inr fun e => h ?_
      rw [hold_own hu, hold_own e.symm]
theorem Far.swap {u v : Value} (h : u.ownBlock = none ∨ u.ownBlock ≠ v.ownBlock) : v.ownBlock = none ∨ v.ownBlock ≠ u.ownBlock := by
  cases hv : v.ownBlock with
  | none => exact .inl rfl
  | some g =>
    rcases h with h | h
    · rw [h]; exact .inr (by simp)
    · exact .inr fun e => h (by rw [hv]; exact e.symm)
/-- One of them is another value now, in its old block or in a new one. -/
theorem Far.set {L : List Value} (h : Far L) (k : Nat) (x y : Value) (hy : L[k]? = some y) (N : Nat) (hold : ∀ (i : Nat) (u : Value) (g : Nat), L[i]? = some u → u.ownBlock = some g → g < N) (hx : x.ownBlock = y.ownBlock ∨ ∃ p, x.ownBlock = some p ∧ N ≤ p) : Far (L.set k x) := by
  have hk := (List.getElem?_eq_some_iff.1 hy).1
  have key : ∀ (i : Nat) (u : Value), L[i]? = some u → i ≠ k → x.ownBlock = none ∨ x.ownBlock ≠ u.ownBlock := fun i u hi hne => by
    rcases hx with hx | ⟨p, hx, hp⟩
    · rw [hx]; exact h k i y u hy hi (Ne.symm hne)
    · rw [hx]
      exact .inr fun e => by have := hold i u p hi e.symm; omega
  intro i j u v hi hj hne
  rw [List.getElem?_set] at hi hj
  by_cases hki : k = i
  · rw [if_pos hki, if_pos (by omega)] at hi
    injection hi with hi
    subst hi
    rw [if_neg (by omega)] at hj
    exact key j v hj (by omega)
  · rw [if_neg hki] at hi
    by_cases hkj : k = j
    · rw [if_pos hkj, if_pos (by omega)] at hj
      injection hj with hj
      subst hj
      exact Far.swap (key i u hi (by omega))
    · rw [if_neg hkj] at hj
      exact h i j u v hi hj hne
theorem Far.add {L : List Value} (h : Far L) (x : Value) (key : ∀ (i : Nat) (u : Value), L[i]? = some u → x.ownBlock = none ∨ x.ownBlock ≠ u.ownBlock) : Far (L ++ [x]) := by
  have one : ∀ (i : Nat) (u : Value), (L ++ [x])[i]? = some u → L[i]? = some u ∨ (i = L.length ∧ u = x) := by
    intro i u hi
    rw [List.getElem?_append] at hi
    split at hi
    · exact .inl hi
    · right
      have : i - L.length = 0 := by
        rcases Nat.eq_zero_or_pos (i - L.length) with h0 | h0
        · exact h0
        · rw [List.getElem?_eq_none (by simp; omega)] at hi; cases hi
      rw [this] at hi
      injection hi with hi
      exact ⟨by omega, hi.symm⟩
  intro i j u v hi hj hne
  rcases one i u hi with hi2 | ⟨hi2, rfl⟩
  · rcases one j v hj with hj2 | ⟨hj2, rfl⟩
    · exact h i j u v hi2 hj2 hne
    · exact Far.swap (key i u hi2)
  · rcases one j v hj with hj2 | ⟨hj2, rfl⟩
    · exact key j v hj2
    · omega
/-- A game that is being built: what is the call's own, and where it lies. -/
structure Built (w : World) (lo : Nat) (a b c : Value) (L : List Value) (g : P.G) : Prop where
  own : OwnG w lo a b c L g
  far : Far (a :: b :: L)
theorem Built.start (w : World) (lo : Nat) : Built w lo (.slice none 0 0) (.slice none 0 0) (.slice none 0 0) [] P.G.none := ⟨OwnG.none_ w lo, fun i j u v hi _ _ => by
  match i, hi with
  | 0, hi => simp at hi; subst hi; exact .inl rfl
  | 1, hi => simp at hi; subst hi; exact .inl rfl⟩
theorem Built.grown {w w' : World} {lo : Nat} {a b c : Value} {L : List Value} {g : P.G} (h : Built w lo a b c L g) (hg : w.grownBy w' none) : Built w' lo a b c L g := ⟨h.own.grown hg, h.far⟩
theorem Built.set {w : World} {lo : Nat} {a b c : Value} {L : List Value} {g : P.G} {q : Nat} {t : TypeId} {cs : Array Value} (h : Built w lo a b c L g) (hb : Box w q t cs) (h1 : 3 ≠ t) (h2 : 22 ≠ t) (j : Nat) (u : Value) : Built (w.setCell ⟨q, j, none⟩ u) lo a b c L g := ⟨h.own.set hb h1 h2 j u, h.far⟩
theorem OwnG.low_ {w : World} {lo : Nat} {a b c : Value} {L : List Value} {g : P.G} (h : OwnG w lo a b c L g) : ∀ (i : Nat) (u : Value) (q : Nat), (a :: b :: L)[i]? = some u → u.ownBlock = some q → q < w.heap.size := by
  intro i u q hi hq
  match i, hi with
  | 0, hi => simp at hi; subst hi; exact (own_lt h.owner q hq).2
  | 1, hi => simp at hi; subst hi; exact (own_lt h.prio q hq).2
  | i + 2, hi =>
    have hl : L.length = g.moves.length * 1 := h.head.1
    simp at hi
    have := (List.getElem?_eq_some_iff.1 hi).1
    obtain ⟨x, hx, ho⟩ := h.rows i _ (List.getElem?_eq_getElem (by omega))
    rw [hi] at hx
    injection hx with hx
    subst hx
    exact (own_lt ho q hq).2
/-- One more owner. -/
theorem Built.owner {w w' : World} {lo : Nat} {a a' b c : Value} {L : List Value} {g : P.G} {z : Int} (h : Built w lo a b c L g) (ha : w'.ownsRow lo 3 1 a' (g.owner.length + 1) (g.owner.map (Value.int .i64) ++ [.int .i64 z])) (hg : w.grownBy w' a.ownBlock) (hat : a'.ownBlock = a.ownBlock ∨ ∃ p, a'.ownBlock = some p ∧ w.heap.size ≤ p) :
    Built w' lo a' b c L { g with owner := g.owner ++ [z] } := by
  have hf : Far (a' :: b :: L) := by have := h.far.set 0 a' a rfl w.heap.size h.own.low_ hat; simpa using this
  refine ⟨⟨?_, own_kept h.own.prio hg (h.far 1 0 _ _ rfl rfl (by decide)), own_kept h.own.head hg (own_ne h.own.head h.own.owner (by decide)), fun j l hl => ?_, hf.apart⟩, hf⟩
  · unfold OwnI; simpa using ha
  · obtain ⟨x, hx, ho⟩ := h.own.rows j l hl
    exact ⟨x, hx, own_kept ho hg (h.far (j + 2) 0 _ _ (by simpa using hx) rfl (by omega))⟩
/-- One more priority. -/
theorem Built.prio {w w' : World} {lo : Nat} {a b b' c : Value} {L : List Value} {g : P.G} {z : Int} (h : Built w lo a b c L g) (hb : w'.ownsRow lo 3 1 b' (g.prio.length + 1) (g.prio.map (Value.int .i64) ++ [.int .i64 z])) (hg : w.grownBy w' b.ownBlock) (hat : b'.ownBlock = b.ownBlock ∨ ∃ p, b'.ownBlock = some p ∧ w.heap.size ≤ p) :
    Built w' lo a b' c L { g with prio := g.prio ++ [z] } := by
  have hf : Far (a :: b' :: L) := by have := h.far.set 1 b' b rfl w.heap.size h.own.low_ hat; simpa using this
  refine ⟨⟨own_kept h.own.owner hg (h.far 0 1 _ _ rfl rfl (by decide)), ?_, own_kept h.own.head hg (own_ne h.own.head h.own.prio (by decide)), fun j l hl => ?_, hf.apart⟩, hf⟩
  · unfold OwnI; simpa using hb
  · obtain ⟨x, hx, ho⟩ := h.own.rows j l hl
    exact ⟨x, hx, own_kept ho hg (h.far (j + 2) 1 _ _ (by simpa using hx) rfl (by omega))⟩
/-- One more row of moves: x lay in a block of its own. -/
theorem Built.row {w w' : World} {lo N : Nat} {a b c c' x : Value} {L : List Value} {g : P.G} {l : List Int} (h : Built w lo a b c L g) (hx : OwnI w N x l) (hN : ∀ (i : Nat) (u : Value), (a :: b :: L)[i]? = some u → x.ownBlock = none ∨ x.ownBlock ≠ u.ownBlock) (hlo : lo ≤ N)
    (hc : w'.ownsRow lo 22 1 c' (g.moves.length + 1) (L ++ [x])) (hg : w.grownBy w' c.ownBlock) : Built w' lo a b c' (L ++ [x]) { g with moves := g.moves ++ [l] } := by
  have ne : ∀ {v : Value} {q : Nat} {zs : List Int}, OwnI w q v zs → OwnI w' q v zs := fun ho => own_kept ho hg (own_ne ho h.own.head (by decide))
  have hlen : L.length = g.moves.length := by have h1 : L.length = g.moves.length * 1 := h.own.head.1; omega
  have hf : Far (a :: b :: (L ++ [x])) := by
    have := h.far.add x hN
    simpa using this
  refine ⟨⟨ne h.own.owner, ne h.own.prio, by simpa using hc, fun i l' hl => ?_, hf.apart⟩, hf⟩
  have hl : (g.moves ++ [l])[i]? = some l' := hl
  rw [List.getElem?_append] at hl
  split at hl
  · rename_i hi
    obtain ⟨y, hy, ho⟩ := h.own.rows i l' hl
    exact ⟨y, by rw [List.getElem?_append, if_pos (by omega)]; exact hy, ne ho⟩
  · rename_i hi
    have : i - g.moves.length = 0 := by
      rcases Nat.eq_zero_or_pos (i - g.moves.length) with h0 | h0
      · exact h0
      · rw [List.getElem?_eq_none (by simp; omega)] at hl; cases hl
    rw [this] at hl
    injection hl with hl
    subst hl
    exact ⟨x, by rw [List.getElem?_append, if_neg (by omega), hlen, this]; rfl, own_more (ne hx) hlo⟩
/-- A game that is being built, and a list of moves that will be its next row. -/
structure Mid (w : World) (lo N : Nat) (a b c : Value) (L : List Value) (g : P.G) (x : Value) (l : List Int) : Prop where
  built : Built w lo a b c L g
  mv : OwnI w N x l
  far : ∀ (i : Nat) (u : Value), (a :: b :: L)[i]? = some u → x.ownBlock = none ∨ x.ownBlock ≠ u.ownBlock
theorem Mid.start {w w' : World} {lo : Nat} {a b c x : Value} {L : List Value} {g : P.G} {l : List Int} (h : Built w lo a b c L g) (hg : w.grownBy w' none) (hx : OwnI w' w.heap.size x l) : Mid w' lo w.heap.size a b c L g x l :=
  ⟨h.grown hg, hx, fun i u hu => by
    cases hb : x.ownBlock with
    | none => exact .inl rfl
    | some q => exact .inr fun e => by have := (own_lt hx q hb).1; have := h.own.low_ i u q hu e.symm; omega⟩
theorem Mid.grown {w w' : World} {lo N : Nat} {a b c x : Value} {L : List Value} {g : P.G} {l : List Int} (h : Mid w lo N a b c L g x l) (hg : w.grownBy w' none) : Mid w' lo N a b c L g x l := ⟨h.built.grown hg, own_grown h.mv hg, h.far⟩
theorem Mid.set {w : World} {lo N : Nat} {a b c x : Value} {L : List Value} {g : P.G} {l : List Int} {q : Nat} {t : TypeId} {cs : Array Value} (h : Mid w lo N a b c L g x l) (hb : Box w q t cs) (h1 : 3 ≠ t) (h2 : 22 ≠ t) (j : Nat) (u : Value) : Mid (w.setCell ⟨q, j, none⟩ u) lo N a b c L g x l :=
  ⟨h.built.set hb h1 h2 j u, own_set h.mv hb h1 j u, h.far⟩
theorem Mid.owner {w w' : World} {lo N : Nat} {a a' b c x : Value} {L : List Value} {g : P.G} {l : List Int} {z : Int} (h : Mid w lo N a b c L g x l) (ha : w'.ownsRow lo 3 1 a' (g.owner.length + 1) (g.owner.map (Value.int .i64) ++ [.int .i64 z])) (hg : w.grownBy w' a.ownBlock) (hat : a'.ownBlock = a.ownBlock ∨ ∃ p, a'.ownBlock = some p ∧ w.heap.size ≤ p) :
    Mid w' lo N a' b c L { g with owner := g.owner ++ [z] } x l := by
  refine ⟨h.built.owner ha hg hat, own_kept h.mv hg (h.far 0 a rfl), fun i u hu => ?_⟩
  match i, hu with
  | 0, hu =>
    simp at hu
    subst hu
    rcases hat with hat | ⟨p, hat, hp⟩
    · rw [hat]; exact h.far 0 a rfl
    · rw [hat]
      cases hb : x.ownBlock with
      | none => exact .inl rfl
      | some q => exact .inr fun e => by have := (own_lt h.mv q hb).2; injection e with e; omega
  | i + 1, hu => exact h.far (i + 1) u (by simpa using hu)
theorem Mid.prio {w w' : World} {lo N : Nat} {a b b' c x : Value} {L : List Value} {g : P.G} {l : List Int} {z : Int} (h : Mid w lo N a b c L g x l) (ha : w'.ownsRow lo 3 1 b' (g.prio.length + 1) (g.prio.map (Value.int .i64) ++ [.int .i64 z])) (hg : w.grownBy w' b.ownBlock) (hat : b'.ownBlock = b.ownBlock ∨ ∃ p, b'.ownBlock = some p ∧ w.heap.size ≤ p) :
    Mid w' lo N a b' c L { g with prio := g.prio ++ [z] } x l := by
  refine ⟨h.built.prio ha hg hat, own_kept h.mv hg (h.far 1 b rfl), fun i u hu => ?_⟩
  match i, hu with
  | 0, hu => exact h.far 0 u (by simpa using hu)
  | 1, hu =>
    simp at hu
    subst hu
    rcases hat with hat | ⟨p, hat, hp⟩
    · rw [hat]; exact h.far 1 b rfl
    · rw [hat]
      cases hb : x.ownBlock with
      | none => exact .inl rfl
      | some q => exact .inr fun e => by have := (own_lt h.mv q hb).2; injection e with e; omega
  | i + 2, hu => exact h.far (i + 2) u (by simpa using hu)
theorem Mid.row {w w' : World} {lo N : Nat} {a b c c' x : Value} {L : List Value} {g : P.G} {l : List Int} (h : Mid w lo N a b c L g x l) (hlo : lo ≤ N)
    (hc : w'.ownsRow lo 22 1 c' (g.moves.length + 1) (L ++ [x])) (hg : w.grownBy w' c.ownBlock) : Built w' lo a b c' (L ++ [x]) { g with moves := g.moves ++ [l] } := h.built.row h.mv h.far hlo hc hg
end W
end Go.Proofs.YtghdjkpndhcplaaDoor
