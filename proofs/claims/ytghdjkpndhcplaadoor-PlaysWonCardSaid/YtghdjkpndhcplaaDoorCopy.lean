/- The program's copy of a game: every list is the call's own, and no two share memory. -/
import Derived.Test.YtghdjkpndhcplaaDoorClone
import Derived.Test.YtghdjkpndhcplaaDoorHep
import Derived.Laws.MakeOwn
import Derived.Laws.Rows
namespace Go.Proofs.YtghdjkpndhcplaaDoor
open Go.RowKit
namespace W

theorem apart_two {w w' : World} {lo : Nat} {u v : Value} {xs ys : List Int} (hu : OwnI w lo u xs) (hv : OwnI w' w.heap.size v ys) : Apart [u, v] := by
  have h1 : Apart [u] := fun i j a b hi hj hne => by
    match i, j, hi, hj with
    | 0, 0, _, _ => exact absurd rfl hne
  refine h1.snoc v fun i a hi q hq e => ?_
  match i, hi with
  | 0, hi =>
    simp at hi
    subst hi
    have := own_lt hu q (hold_own e)
    have := own_lt hv q (hold_own hq)
    omega
theorem fin3 {w' : World} {g : P.G} {L : List Value} {a b : Value} {h0 h1 n : Nat} {u0 u1 u2 : Value} (ha : OwnI w' h1 a g.owner) (hb : OwnI w' h1 b g.prio) (hc : w'.ownsRow (h0 + 1 + 1) 22 1 (.slice (some ⟨h0 + 1 + 1, 0, none⟩) n n) n L) (hr : OwnRows w' (h0 + 1 + 1 + 1) L g.moves)
    (hab : Apart [a, b]) (hlow : ∀ (j : Nat) (u : Value) (q : Nat), L[j]? = some u → u.ownBlock = some q → q < h1) (hs : h0 + 1 + 1 + 1 ≤ h1) (hn : g.moves.length = n) (HAP : Apart L) :
    OwnG (((w'.setCell ⟨h0 + 1, 0, none⟩ u0).setCell ⟨h0 + 1, 1, none⟩ u1).setCell ⟨h0 + 1, 2, none⟩ u2) h0 a b (.slice (some ⟨h0 + 1 + 1, 0, none⟩) n n) L g := by
  have far : ∀ {lo : Nat} {e : TypeId} {v : Value} {m : Nat} {xs : List Value}, h0 + 1 < lo → w'.ownsRow lo e 1 v m xs → (((w'.setCell ⟨h0 + 1, 0, none⟩ u0).setCell ⟨h0 + 1, 1, none⟩ u1).setCell ⟨h0 + 1, 2, none⟩ u2).ownsRow lo e 1 v m xs := fun hlo h =>
    ownsRow_setCell_below (ownsRow_setCell_below (ownsRow_setCell_below h (by show h0 + 1 < _; exact hlo) _) (by show h0 + 1 < _; exact hlo) _) (by show h0 + 1 < _; exact hlo) _
  refine ⟨own_more (far (by omega) ha) (by omega), own_more (far (by omega) hb) (by omega), ?_, fun j l hl => ?_, ?_⟩
  · rw [hn]; exact own_more (far (by omega) hc) (by omega)
  · obtain ⟨x, hx, ho⟩ := hr j l hl
    exact ⟨x, hx, own_more (far (by omega) ho) (by omega)⟩
  · have key : ∀ (v : Value) (zs : List Int), OwnI w' h1 v zs → ∀ (j : Nat) (u : Value) (q : Nat), L[j]? = some u → hold u = some q → hold v ≠ some q := fun v zs ho j u q hu hq e => by
      have := own_lt ho q (hold_own e)
      have := hlow j u q hu (hold_own hq)
      omega
    have hap := fun (hL : Apart L) => (hL.cons b (fun i u hu q hq e => key b _ hb i u q hu e hq)).cons a (fun i u hu q hq e => by
      match i, hu with
      | 0, hu =>
        simp at hu
        subst hu
        rcases hab 0 1 a b rfl rfl (by decide) with h | h
        · rw [h] at hq; cases hq
        · exact h (hq.trans e.symm)
      | i + 1, hu => exact key a _ ha i u q (by simpa using hu) e hq)
    exact hap HAP
/-- Rows that are done, and those that are not. -/
structure Part (w : World) (lo : Nat) (L : List Value) (ls : List (List Int)) (k : Nat) : Prop where
  done : ∀ (j : Nat) (l : List Int), j < k → ls[j]? = some l → ∃ x, L[j]? = some x ∧ OwnI w lo x l
  open_ : ∀ (j : Nat) (u : Value), k ≤ j → L[j]? = some u → u = .slice none 0 0
  low : ∀ (j : Nat) (u : Value) (g : Nat), L[j]? = some u → u.ownBlock = some g → g < w.heap.size
  apart : Apart L
theorem Part.start (w : World) (lo n : Nat) (ls : List (List Int)) : Part w lo (List.replicate n (.slice none 0 0)) ls 0 := by
  refine ⟨fun j l h => by omega, fun j u _ h => ?_, fun j u g h hb => ?_, Apart.nils n⟩
  · rw [List.getElem?_replicate] at h
    split at h
    · injection h with h; exact h.symm
    · cases h
  · rw [List.getElem?_replicate] at h
    split at h
    · injection h with h; subst h; cases hb
    · cases h
/-- One more row: made in w, kept in w'. -/
theorem Part.step {w w1 w' : World} {lo : Nat} {L : List Value} {ls : List (List Int)} {k g : Nat} {x : Value} {l : List Int} (h : Part w lo L ls k) (hk : k < L.length) (hl : ls[k]? = some l) (hlo : lo ≤ w.heap.size) (hx : OwnI w1 w.heap.size x l) (h1 : w.grownBy w1 none) (h2 : w1.grownBy w' (some g)) (hg : g < lo) : Part w' lo (L.set k x) ls (k + 1) := by
  have hne : ∀ (v : Value) (zs : List Int) (b : Nat), lo ≤ b → OwnI w1 b v zs → OwnI w' b v zs := fun v zs b hb ho => World.ownsRow.kept ho h2 (by
    cases hv : v.ownBlock with
    | none => exact .inl rfl
    | some q => exact .inr fun e => by have := own_lt ho q hv; injection e with e; omega)
  refine ⟨fun j l' hj hl' => ?_, fun j u hj hu => ?_, fun j u q hu hq => ?_, ?_⟩
  · by_cases hjk : j = k
    · subst hjk
      rw [hl] at hl'
      injection hl' with hl'
      subst hl'
      exact ⟨x, by rw [List.getElem?_set, if_pos rfl, if_pos hk], own_more (hne x l _ hlo hx) hlo⟩
    · obtain ⟨y, hy, ho⟩ := h.done j l' (by omega) hl'
      exact ⟨y, by rw [List.getElem?_set, if_neg (Ne.symm hjk)]; exact hy, hne y l' lo (Nat.le_refl _) (own_grown ho h1)⟩
  · rw [List.getElem?_set, if_neg (by omega)] at hu
    exact h.open_ j u (by omega) hu
  · have hs := h1.size
    have hs2 := h2.size
    rw [List.getElem?_set] at hu
    by_cases hjk : k = j
    · rw [if_pos hjk, if_pos (by omega)] at hu
      injection hu with hu
      subst hu
      have := own_lt hx q hq
      omega
    · rw [if_neg hjk] at hu
      have := h.low j u q hu hq
      omega
  · refine h.apart.set k x fun i u hi q hq e => ?_
    have h3 := h.low i u q hi (hold_own e)
    have h4 := own_lt hx q (hold_own hq)
    omega
theorem Part.all {w : World} {lo : Nat} {L : List Value} {ls : List (List Int)} {k : Nat} (h : Part w lo L ls k) (hk : ls.length ≤ k) : OwnRows w lo L ls := fun j l hl => h.done j l (by have := (List.getElem?_eq_some_iff.1 hl).1; omega) hl
structure Rel (w W : World) (n : Nat) (ls : List (List Int)) (i : Value) (wr : World) (k : Nat) (L : List Value) : Prop where
  le : k ≤ n
  eq : i = .int .i64 k
  grown : W.grownBy wr (some (w.heap.size + 1 + 1))
  head : wr.ownsRow (w.heap.size + 1 + 1) 22 1 (.slice (some ⟨w.heap.size + 1 + 1, 0, none⟩) n n) n L
  part : Part wr (w.heap.size + 1 + 1 + 1) L ls k
def Copied (w : World) (g : P.G) (e : Ending) (w' : World) : Prop := ∃ a b c L, e = .returned (.agg #[a, b, c]) ∧ OwnG w' w.heap.size a b c L g ∧ Below w.heap.size w w'
theorem Copied.mk {w w' : World} {g : P.G} {a b c : Value} {L : List Value} (h : OwnG w' w.heap.size a b c L g) (hb : Below w.heap.size w w') : Copied w g (.returned (.agg #[a, b, c])) w' := ⟨a, b, c, L, rfl, h, hb⟩
end W
end Go.Proofs.YtghdjkpndhcplaaDoor
