/- What is the call's own: lists that share no memory; a game of such. -/
import Derived.Test.YtghdjkpndhcplaaHeap
namespace Go.Proofs.Ytghdjkpndhcplaa
open Go.RowKit
namespace W
/-- The block of a slice that has room for anything. -/
def hold : Value → Option Nat
  | .slice (some a) _ (_ + 1) => some a.block
  | _ => none
theorem hold_own {v : Value} {g : Nat} (h : hold v = some g) : v.ownBlock = some g := by
  unfold hold at h
  split at h
  · exact h
  · cases h
/-- No two of these share a block. -/
def Apart (L : List Value) : Prop := ∀ (i j : Nat) (u v : Value), L[i]? = some u → L[j]? = some v → i ≠ j → hold u = none ∨ hold u ≠ hold v
theorem Apart.nil : Apart [] := fun i _ _ _ h => by simp at h
theorem Apart.nils (n : Nat) : Apart (List.replicate n (.slice none 0 0)) := fun i _ u _ h _ _ => by
  left
  rw [List.getElem?_replicate] at h
  split at h
  · injection h with h; subst h; rfl
  · cases h
theorem Apart.set {L : List Value} (h : Apart L) (k : Nat) (x : Value) (hx : ∀ (i : Nat) (u : Value), L[i]? = some u → ∀ g, hold x = some g → hold u ≠ some g) : Apart (L.set k x) := by
  intro i j u v hi hj hne
  rw [List.getElem?_set] at hi hj
  by_cases hki : k = i
  · by_cases hkj : k = j
    · omega
    · rw [if_neg hkj] at hj
      rw [if_pos hki] at hi
      split at hi
      · injection hi with hi
        subst hi
        cases hb : hold x with
        | none => exact .inl rfl
        | some g => exact .inr fun e => hx j v hj g hb e.symm
      · cases hi
  · rw [if_neg hki] at hi
    by_cases hkj : k = j
    · rw [if_pos hkj] at hj
      split at hj
      · injection hj with hj
        subst hj
        cases hb : hold u with
        | none => exact .inl rfl
        | some g => exact .inr fun e => hx i u hi g e.symm hb
      · cases hj
    · rw [if_neg hkj] at hj
      exact h i j u v hi hj hne
theorem Apart.snoc {L : List Value} (h : Apart L) (x : Value) (hx : ∀ (i : Nat) (u : Value), L[i]? = some u → ∀ g, hold x = some g → hold u ≠ some g) : Apart (L ++ [x]) := by
  have one : ∀ (i : Nat) (u : Value), (L ++ [x])[i]? = some u → L[i]? = some u ∨ (i = L.length ∧ u = x) := by
    intro i u hi
    rw [List.getElem?_append] at hi
    split at hi
    · exact .inl hi
    · right
      have : i - L.length = 0 := by
        rcases Nat.eq_zero_or_pos (i - L.length) with h0 | h0
        · exact h0
        · rw [List.getElem?_eq_none (by simp; omega)] at hi; cases hi
      rw [this] at hi
      injection hi with hi
      exact ⟨by omega, hi.symm⟩
  intro i j u v hi hj hne
  rcases one i u hi with hi2 | ⟨hi, rfl⟩
  · rcases one j v hj with hj2 | ⟨hj, rfl⟩
    · exact h i j u v hi2 hj2 hne
    · cases hb : hold u with
      | none => exact .inl rfl
      | some g => exact .inr fun e => hx i u hi2 g e.symm hb
  · rcases one j v hj with hj2 | ⟨hj, rfl⟩
    · cases hb : hold u with
      | none => exact .inl rfl
      | some g => exact .inr fun e => hx j v hj2 g hb e.symm
    · omega
theorem Apart.cons {L : List Value} (h : Apart L) (x : Value) (hx : ∀ (i : Nat) (u : Value), L[i]? = some u → ∀ g, hold x = some g → hold u ≠ some g) : Apart (x :: L) := by
  intro i j u v hi hj hne
  match i, j, hi, hj with
  | 0, 0, _, _ => exact absurd rfl hne
  | 0, j + 1, hi, hj =>
    simp at hi
    subst hi
    cases hb : hold x with
    | none => exact .inl rfl
    | some g => exact .inr fun e => hx j v (by simpa using hj) g hb e.symm
  | i + 1, 0, hi, hj =>
    simp at hj
    subst hj
    cases hb : hold u with
    | none => exact .inl rfl
    | some g => exact .inr fun e => hx i u (by simpa using hi) g e.symm hb
  | i + 1, j + 1, hi, hj => exact h i j u v (by simpa using hi) (by simpa using hj) (by omega)
/-- Rows of unlike elements lie in unlike blocks. -/
theorem own_ne {w : World} {lo lo' : Nat} {e e' : TypeId} {v v' : Value} {n n' : Nat} {xs xs' : List Value} (h : w.ownsRow lo e 1 v n xs) (h' : w.ownsRow lo' e' 1 v' n' xs') (hne : e ≠ e') : v.ownBlock = none ∨ v.ownBlock ≠ v'.ownBlock := by
  rcases h.2 with ⟨rfl, _⟩ | ⟨g, cap, cur, rfl, _, hg, _⟩
  · exact .inl rfl
  · rcases h'.2 with ⟨rfl, _⟩ | ⟨g', cap', cur', rfl, _, hg', _⟩
    · exact .inr (by simp [Value.ownBlock])
    · refine .inr fun e0 => ?_
      have : g = g' := by simpa [Value.ownBlock] using e0
      subst this
      rw [hg] at hg'
      injection hg' with hg'
      injection hg' with _ ht
      exact hne ht
theorem own_box {w : World} {lo : Nat} {e t : TypeId} {v : Value} {n : Nat} {xs : List Value} {b : Nat} {cs : Array Value} (h : w.ownsRow lo e 1 v n xs) (hb : Box w b t cs) (hne : e ≠ t) : v.ownBlock ≠ some b := by
  rcases h.2 with ⟨rfl, _⟩ | ⟨g, cap, cur, rfl, _, hg, _⟩
  · simp [Value.ownBlock]
  · intro e0
    have : g = b := by simpa [Value.ownBlock] using e0
    subst this
    unfold Box at hb
    rw [hg] at hb
    injection hb with hb
    injection hb with _ ht
    exact hne ht
/-- An own row stays while another block turns. -/
theorem own_kept {w w' : World} {lo : Nat} {e : TypeId} {v : Value} {n : Nat} {xs : List Value} {row : Option Nat} (h : w.ownsRow lo e 1 v n xs) (hg : w.grownBy w' row) (hne : v.ownBlock = none ∨ v.ownBlock ≠ row) : w'.ownsRow lo e 1 v n xs := h.kept hg hne
/-- Rows of numbers, each the call's own. -/
def OwnRows (w : World) (lo : Nat) (L : List Value) (ls : List (List Int)) : Prop := ∀ (j : Nat) (l : List Int), ls[j]? = some l → ∃ x, L[j]? = some x ∧ OwnI w lo x l
theorem OwnRows.grown {w w' : World} {lo : Nat} {L : List Value} {ls : List (List Int)} (h : OwnRows w lo L ls) (hg : w.grownBy w' none) : OwnRows w' lo L ls := fun j l hl => by
  obtain ⟨x, h1, h2⟩ := h j l hl
  exact ⟨x, h1, own_grown h2 hg⟩
theorem OwnRows.kept {w w' : World} {lo : Nat} {L : List Value} {ls : List (List Int)} {row : Option Nat} (h : OwnRows w lo L ls) (hg : w.grownBy w' row) (hne : ∀ (j : Nat) (u : Value), L[j]? = some u → u.ownBlock = none ∨ u.ownBlock ≠ row) : OwnRows w' lo L ls := fun j l hl => by
  obtain ⟨x, h1, h2⟩ := h j l hl
  exact ⟨x, h1, own_kept h2 hg (hne j x h1)⟩
/-- A game that is the call's own. -/
structure OwnG (w : World) (lo : Nat) (a b c : Value) (L : List Value) (g : P.G) : Prop where
  owner : OwnI w lo a g.owner
  prio : OwnI w lo b g.prio
  head : w.ownsRow lo 22 1 c g.moves.length L
  rows : OwnRows w lo L g.moves
  apart : Apart (a :: b :: L)
theorem OwnG.grown {w w' : World} {lo : Nat} {a b c : Value} {L : List Value} {g : P.G} (h : OwnG w lo a b c L g) (hg : w.grownBy w' none) : OwnG w' lo a b c L g :=
  ⟨own_grown h.owner hg, own_grown h.prio hg, own_grown h.head hg, h.rows.grown hg, h.apart⟩
/-- No list is longer than what may come in. -/
def Fits (g : P.G) : Prop := g.owner.length ≤ 17592186043904 ∧ g.prio.length ≤ 17592186043904 ∧ g.moves.length ≤ 5864062014634 ∧ ∀ (j : Nat) (l : List Int), g.moves[j]? = some l → l.length ≤ 17592186043904
theorem GameV.fits {w : World} {v : Value} {g : P.G} (h : GameV w v g) : Fits g := by
  obtain ⟨a, b, c, rfl, ⟨_, _, _, h1, _⟩, ⟨_, _, _, h2, _⟩, ⟨_, _, _, h3, h4⟩⟩ := h
  refine ⟨h1, h2, h3, fun j l hl => ?_⟩
  have hj : j < g.moves.length := (List.getElem?_eq_some_iff.1 hl).1
  rcases h4 with h4 | ⟨_, _, _, _, h5⟩
  · rw [h4] at hj; exact absurd hj (Nat.not_lt_zero j)
  · obtain ⟨x, _, ⟨_, _, _, hz, _⟩⟩ := h5 j hj
    rw [List.getD_eq_getElem?_getD, hl] at hz
    exact hz
theorem OwnG.game {w : World} {lo : Nat} {a b c : Value} {L : List Value} {g : P.G} (h : OwnG w lo a b c L g) (hf : Fits g) : GameV w (.agg #[a, b, c]) g := by
  refine ⟨a, b, c, rfl, h.owner.ints hf.1, h.prio.ints hf.2.1, ?_⟩
  obtain ⟨ao, cap, rfl, h2⟩ := own_at h.head
  refine ⟨ao, cap, rfl, hf.2.2.1, ?_⟩
  have hl := h.head.1
  by_cases h0 : g.moves = []
  · exact .inl h0
  · rcases h2 with h2 | ⟨b', h3, _, h4, h5⟩
    · rw [h2] at hl
      have : 0 < g.moves.length := List.length_pos_iff.2 h0
      simp only [List.length_nil] at hl
      omega
    · refine .inr ⟨b', 0, h3, h4, fun j hj => ?_⟩
      obtain ⟨x, hx, ho⟩ := h.rows j _ (List.getElem?_eq_getElem hj)
      refine ⟨x, h5 j x hx, ?_⟩
      rw [List.getD_eq_getElem?_getD, List.getElem?_eq_getElem hj]
      exact ho.ints (hf.2.2.2 j _ (List.getElem?_eq_getElem hj))

theorem own_past {w0 w w' : World} {e : TypeId} {v : Value} {n : Nat} {xs : List Value} {row : Option Nat} (h : w.ownsRow w0.heap.size e 1 v n xs) (hg : w.grownBy w' row) (hr : ∀ g, row = some g → g < w0.heap.size) : w'.ownsRow w0.heap.size e 1 v n xs := own_kept h hg (by
  cases hv : v.ownBlock with
  | none => exact .inl rfl
  | some q => exact .inr fun e => by have := own_lt h q hv; have := hr q e.symm; omega)
theorem own_set {w : World} {lo : Nat} {e t : TypeId} {v : Value} {n : Nat} {xs : List Value} {b : Nat} {cs : Array Value} (h : w.ownsRow lo e 1 v n xs) (hb : Box w b t cs) (hne : e ≠ t) (j : Nat) (u : Value) : (w.setCell ⟨b, j, none⟩ u).ownsRow lo e 1 v n xs := own_kept h (grown_set w ⟨b, j, none⟩ u) (.inr (own_box h hb hne))
theorem OwnG.set {w : World} {lo : Nat} {a b c : Value} {L : List Value} {g : P.G} {q : Nat} {t : TypeId} {cs : Array Value} (h : OwnG w lo a b c L g) (hb : Box w q t cs) (h1 : 3 ≠ t) (h2 : 22 ≠ t) (j : Nat) (u : Value) : OwnG (w.setCell ⟨q, j, none⟩ u) lo a b c L g :=
  ⟨own_set h.owner hb h1 j u, own_set h.prio hb h1 j u, own_set h.head hb h2 j u, fun i l hl => by obtain ⟨x, hx, ho⟩ := h.rows i l hl; exact ⟨x, hx, own_set ho hb h1 j u⟩, h.apart⟩
/-- One more row behind the others. -/
theorem OwnG.push {w w' : World} {lo : Nat} {a b c c' x : Value} {L : List Value} {ow pr : List Int} {ms : List (List Int)} {l : List Int} {row : Option Nat} (h : OwnG w lo a b c L ⟨ow, pr, ms⟩) (hg : w.grownBy w' row) (hrow : c.ownBlock = row)
    (hlo : lo ≤ w.heap.size) (hx : OwnI w' w.heap.size x l) (hc : w'.ownsRow lo 22 1 c' (ms.length + 1) (L ++ [x])) : OwnG w' lo a b c' (L ++ [x]) ⟨ow, pr, ms ++ [l]⟩ := by
  subst hrow
  have ne : ∀ {v : Value} {zs : List Int}, OwnI w lo v zs → OwnI w' lo v zs := fun ho => own_kept ho hg (own_ne ho h.head (by decide))
  have hlen : L.length = ms.length := by have h1 : L.length = ms.length * 1 := h.head.1; omega
  have old : ∀ (i : Nat) (u : Value), (a :: b :: L)[i]? = some u → ∃ q zs, OwnI w q u zs := by
    intro i u hu
    match i, hu with
    | 0, hu => simp at hu; subst hu; exact ⟨_, _, h.owner⟩
    | 1, hu => simp at hu; subst hu; exact ⟨_, _, h.prio⟩
    | i + 2, hu =>
      simp at hu
      have hi : i < ms.length := by rw [← hlen]; exact (List.getElem?_eq_some_iff.1 hu).1
      obtain ⟨y, hy, ho⟩ := h.rows i _ (List.getElem?_eq_getElem hi)
      rw [hu] at hy
      injection hy with hy
      subst hy
      exact ⟨_, _, ho⟩
  refine ⟨ne h.owner, ne h.prio, by simpa using hc, fun i l' hl => ?_, ?_⟩
  · show ∃ y, (L ++ [x])[i]? = some y ∧ _
    have hl : (ms ++ [l])[i]? = some l' := hl
    rw [List.getElem?_append] at hl
    split at hl
    · rename_i hi
      obtain ⟨y, hy, ho⟩ := h.rows i l' hl
      exact ⟨y, by rw [List.getElem?_append, if_pos (by omega)]; exact hy, ne ho⟩
    · rename_i hi
      have : i - ms.length = 0 := by
        rcases Nat.eq_zero_or_pos (i - ms.length) with h0 | h0
        · exact h0
        · rw [List.getElem?_eq_none (by simp; omega)] at hl; cases hl
      rw [this] at hl
      injection hl with hl
      subst hl
      exact ⟨x, by rw [List.getElem?_append, if_neg (by omega), hlen, this]; rfl, own_more hx hlo⟩
  · have := h.apart.snoc x fun i u hu q hq e => by
      obtain ⟨p, zs, ho⟩ := old i u hu
      have h1 := own_lt ho q (hold_own e)
      have h2 := own_lt hx q (hold_own hq)
      omega
    simpa using this
theorem OwnG.none_ (w : World) (lo : Nat) : OwnG w lo (.slice none 0 0) (.slice none 0 0) (.slice none 0 0) [] P.G.none :=
  ⟨OwnI.nil _ _, OwnI.nil _ _, World.ownsRow_nil _ _ _ _, fun j l h => by simp [P.G.none] at h, Apart.nils 2⟩
theorem OwnG.low {w : World} {lo lo' : Nat} {a b c : Value} {L : List Value} {g : P.G} (h : OwnG w lo a b c L g) (hl : lo' ≤ lo) : OwnG w lo' a b c L g :=
  ⟨own_more h.owner hl, own_more h.prio hl, own_more h.head hl, fun j l hj => by obtain ⟨x, hx, ho⟩ := h.rows j l hj; exact ⟨x, hx, own_more ho hl⟩, h.apart⟩
theorem OwnG.forms {w : World} {lo : Nat} {a b c : Value} {L : List Value} {g : P.G} (h : OwnG w lo a b c L g) : ∃ a1 k1 b1 k2 c1 k3, a = .slice a1 g.owner.length k1 ∧ b = .slice b1 g.prio.length k2 ∧ c = .slice c1 g.moves.length k3 := by
  obtain ⟨a1, k1, h1, -⟩ := own_at h.owner
  obtain ⟨b1, k2, h2, -⟩ := own_at h.prio
  obtain ⟨c1, k3, h3, -⟩ := own_at h.head
  exact ⟨a1, k1, b1, k2, c1, k3, h1, h2, h3⟩
/-- A row that holds something, and another one apart from it, lie in unlike blocks. -/
theorem own_apart {w : World} {lo lo' : Nat} {e : TypeId} {A B : Value} {n m : Nat} {xs ys : List Value} (hA : w.ownsRow lo e 1 A n xs) (hB : w.ownsRow lo' e 1 B m ys) (hx : 0 < n) (h : hold A = none ∨ hold A ≠ hold B) : B.ownBlock = none ∨ B.ownBlock ≠ A.ownBlock := by
  rcases hA.2 with ⟨_, h0⟩ | ⟨g, cap, cur, rfl, _, hg, hnc, _, hcs, _⟩
  · omega
  · obtain ⟨c, rfl⟩ : ∃ c, cap = c + 1 := ⟨cap - 1, by omega⟩
    rcases hB.2 with ⟨rfl, _⟩ | ⟨g', cap', cur', rfl, _, hg', _, _, hcs', _⟩
    · exact .inl rfl
    · refine .inr fun e0 => ?_
      have : g' = g := by simpa [Value.ownBlock] using e0
      subst this
      rw [hg] at hg'
      injection hg' with hg'
      injection hg' with hcur _
      subst hcur
      obtain ⟨c', rfl⟩ : ∃ c', cap' = c' + 1 := ⟨cap' - 1, by omega⟩
      rcases h with h | h
      · simp [hold] at h
      · exact h (by simp [hold])
/-- A row that holds something lies in a block, from its beginning on. -/
theorem own_form {w : World} {lo : Nat} {e : TypeId} {A : Value} {n : Nat} {xs : List Value} (h : w.ownsRow lo e 1 A n xs) (hn : 0 < n) : ∃ g k, A = .slice (some ⟨g, 0, none⟩) n k ∧ lo ≤ g ∧ g < w.heap.size ∧ (∀ j u, xs[j]? = some u → w.cell? ⟨g, j, none⟩ = some u) ∧ ∀ j, w.frozen? ⟨g, j, none⟩ = false := by
  obtain ⟨g, k, hv, h1, h2⟩ := h.form hn
  subst hv
  refine ⟨g, k, rfl, h1, h2, fun j u hu => ?_, fun j => h.frozenAt j⟩
  have hl := h.1
  have hj := (List.getElem?_eq_some_iff.1 hu).1
  rw [h.cellAt j (by omega)]
  exact hu
theorem map_set (l : List Int) (j : Nat) (z : Int) : (l.map (Value.int .i64)).set j (.int .i64 z) = (l.set j z).map (Value.int .i64) := by
  rw [List.map_set]
/-- A number is stored into the owners. -/
theorem OwnG.setOwner {w : World} {lo q k n : Nat} {b c : Value} {L : List Value} {g : P.G} (h : OwnG w lo (.slice (some ⟨q, 0, none⟩) n k) b c L g) (hn : 0 < n) (j : Nat) (z : Int) : OwnG (w.setCell ⟨q, j, none⟩ (.int .i64 z)) lo (.slice (some ⟨q, 0, none⟩) n k) b c L { g with owner := g.owner.set j z } := by
  have hlen : n = g.owner.length := by
    obtain ⟨a1, k1, e, -⟩ := own_at h.owner
    injection e
  subst hlen
  have hs := h.owner.stored j (.int .i64 z)
  have ne : ∀ {v : Value} {zs : List Int}, OwnI w lo v zs → (hold (.slice (some ⟨q, 0, none⟩) g.owner.length k) = none ∨ hold (.slice (some ⟨q, 0, none⟩) g.owner.length k) ≠ hold v) → OwnI (w.setCell ⟨q, j, none⟩ (.int .i64 z)) lo v zs := fun ho ha => own_kept ho hs.2 (own_apart h.owner ho hn ha)
  refine ⟨?_, ne h.prio (h.apart 0 1 _ _ rfl rfl (by decide)), own_kept h.head hs.2 (own_ne h.head h.owner (by decide)), fun i l hl => ?_, h.apart⟩
  · unfold OwnI
    have := hs.1
    rw [map_set] at this
    simpa using this
  · obtain ⟨x, hx, ho⟩ := h.rows i l hl
    exact ⟨x, hx, ne ho (h.apart 0 (i + 2) _ _ rfl (by simpa using hx) (by omega))⟩
/-- .. into the priorities. -/
theorem OwnG.setPrio {w : World} {lo q k n : Nat} {a c : Value} {L : List Value} {g : P.G} (h : OwnG w lo a (.slice (some ⟨q, 0, none⟩) n k) c L g) (hn : 0 < n) (j : Nat) (z : Int) : OwnG (w.setCell ⟨q, j, none⟩ (.int .i64 z)) lo a (.slice (some ⟨q, 0, none⟩) n k) c L { g with prio := g.prio.set j z } := by
  have hlen : n = g.prio.length := by
    obtain ⟨a1, k1, e, -⟩ := own_at h.prio
    injection e
  subst hlen
  have hs := h.prio.stored j (.int .i64 z)
  have ne : ∀ {v : Value} {zs : List Int}, OwnI w lo v zs → (hold (.slice (some ⟨q, 0, none⟩) g.prio.length k) = none ∨ hold (.slice (some ⟨q, 0, none⟩) g.prio.length k) ≠ hold v) → OwnI (w.setCell ⟨q, j, none⟩ (.int .i64 z)) lo v zs := fun ho ha => own_kept ho hs.2 (own_apart h.prio ho hn ha)
  refine ⟨ne h.owner (h.apart 1 0 _ _ rfl rfl (by decide)), ?_, own_kept h.head hs.2 (own_ne h.head h.prio (by decide)), fun i l hl => ?_, h.apart⟩
  · unfold OwnI
    have := hs.1
    rw [map_set] at this
    simpa using this
  · obtain ⟨x, hx, ho⟩ := h.rows i l hl
    exact ⟨x, hx, ne ho (h.apart 1 (i + 2) _ _ rfl (by simpa using hx) (by omega))⟩
end W
end Go.Proofs.Ytghdjkpndhcplaa
