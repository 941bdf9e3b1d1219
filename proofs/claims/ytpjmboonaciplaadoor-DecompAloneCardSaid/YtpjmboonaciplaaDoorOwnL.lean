/- A copy of a game all of whose positions are given to one player, as it is written; two such beside one another. -/
import Derived.Test.YtpjmboonaciplaaDoorHep
import Derived.Test.YtpjmboonaciplaaDoorPts
import Derived.Test.YtpjmboonaciplaaDoorAttA
namespace Go.Proofs.YtpjmboonaciplaaDoor
open Go.RowKit
namespace P
/-- The game with the first k positions given to z. -/
def G.given (g : G) (z : Int) (k : Nat) : G := { g with owner := upto (fun _ => z) g.owner k }
def G.all (g : G) (z : Int) : G := { g with owner := g.owner.map (fun _ => z) }
theorem G.given_zero (g : G) (z : Int) : g.given z 0 = g := by unfold G.given; rw [upto_zero]
theorem G.given_all (g : G) (z : Int) (k : Nat) (h : g.owner.length ≤ k) : g.given z k = g.all z := by unfold G.given G.all; rw [upto_all _ _ _ h]
theorem G.given_len (g : G) (z : Int) (k : Nat) : (g.given z k).owner.length = g.owner.length := upto_length _ _ _
theorem G.given_set (g : G) (z : Int) (k : Nat) (h : k < g.owner.length) : { g.given z k with owner := (g.given z k).owner.set k z } = g.given z (k + 1) := by
  unfold G.given
  simp only []
  rw [← upto_set (fun _ => z) g.owner k h]
theorem G.all_len (g : G) (z : Int) : (g.all z).owner.length = g.owner.length := by unfold G.all; simp
theorem G.all_own (g : G) (z : Int) (i : Nat) (h : i < g.owner.length) : (g.all z).owner.getD i 0 = z := by
  unfold G.all
  rw [List.getD_eq_getElem?_getD, List.getElem?_map, List.getElem?_eq_getElem h]
  rfl
theorem G.all_right {g : G} (h : g.Right) {z : Int} (hz : z = 0 ∨ z = 1) : (g.all z).Right := by
  refine ⟨by rw [G.all_len]; exact h.prio, by rw [G.all_len]; exact h.moves, by rw [G.all_len]; exact h.pos, by rw [G.all_len]; exact h.many, fun i hi => ?_⟩
  rw [G.all_len] at hi
  have hc := h.each i hi
  obtain ⟨h1, h2, h3, h4, h5⟩ := h.at i hi
  unfold G.check
  rw [G.all_own g z i hi, G.all_len]
  show P.check _ z (g.prio.getD i 0) (g.moves.getD i []) = 0
  unfold P.check
  rw [if_neg (by omega), if_neg (by omega), if_neg h4, if_pos h5]
/-- Where the player owns all it attracts no less; where it owns none, no more. -/
theorem own_more_ {g : G} (hr : g.Right) {p : Int} (hp : p = 0 ∨ p = 1) (I To : BitVec 256) : attOf g I p To ||| attOf (g.all p) I p To = attOf (g.all p) I p To :=
  attOf_owners hr (G.all_right hr hp) hp (G.all_len g p) (fun i hi _ => G.all_own g p i hi) (fun _ => rfl) I To
theorem own_less_ {g : G} (hr : g.Right) {p : Int} (hp : p = 0 ∨ p = 1) (I To : BitVec 256) : attOf (g.all (1 - p)) I p To ||| attOf g I p To = attOf g I p To :=
  attOf_owners (G.all_right hr (by omega)) hr hp (G.all_len g (1 - p)).symm (fun i hi h => by
    rw [G.all_len] at hi
    rw [G.all_own g (1 - p) i hi] at h
    omega) (fun _ => rfl) I To
end P
namespace W
theorem fits_all {g : P.G} (h : Fits g) (z : Int) : Fits (g.all z) := ⟨by rw [P.G.all_len]; exact h.1, h.2.1, h.2.2.1, h.2.2.2⟩
/-- All blocks of a game of the call's own lie below M. -/
def Under (M : Nat) (a b c : Value) (L : List Value) : Prop := ∀ (i : Nat) (u : Value) (q : Nat), (a :: b :: c :: L)[i]? = some u → u.ownBlock = some q → q < M
theorem OwnG.under {w : World} {lo : Nat} {a b c : Value} {L : List Value} {g : P.G} (h : OwnG w lo a b c L g) : Under w.heap.size a b c L := by
  intro i u q hi hq
  match i, hi with
  | 0, hi => simp at hi; subst hi; exact (own_lt h.owner q hq).2
  | 1, hi => simp at hi; subst hi; exact (own_lt h.prio q hq).2
  | 2, hi => simp at hi; subst hi; exact (own_lt h.head q hq).2
  | i + 3, hi =>
    have hl : L.length = g.moves.length * 1 := h.head.1
    simp at hi
    have := (List.getElem?_eq_some_iff.1 hi).1
    obtain ⟨x, hx, ho⟩ := h.rows i _ (List.getElem?_eq_getElem (by omega))
    rw [hi] at hx
    injection hx with hx
    subst hx
    exact (own_lt ho q hq).2
theorem OwnG.far_ {w : World} {lo : Nat} {a b c : Value} {L : List Value} {g : P.G} (h : OwnG w lo a b c L g) {x : Nat} (hx : ∀ (i : Nat) (u : Value), (a :: b :: c :: L)[i]? = some u → u.ownBlock ≠ some x) (j : Nat) (u : Value) : OwnG (w.setCell ⟨x, j, none⟩ u) lo a b c L g :=
  ⟨own_kept h.owner (grown_set w ⟨x, j, none⟩ u) (.inr (hx 0 a rfl)), own_kept h.prio (grown_set w ⟨x, j, none⟩ u) (.inr (hx 1 b rfl)), own_kept h.head (grown_set w ⟨x, j, none⟩ u) (.inr (hx 2 c rfl)),
   fun i l hl => by obtain ⟨y, hy, ho⟩ := h.rows i l hl; exact ⟨y, hy, own_kept ho (grown_set w ⟨x, j, none⟩ u) (.inr (hx (i + 3) y (by simpa using hy)))⟩, h.apart⟩
/-- What is written lies above the game. -/
theorem OwnG.above {w : World} {lo M : Nat} {a b c : Value} {L : List Value} {g : P.G} (h : OwnG w lo a b c L g) (hu : Under M a b c L) {x : Nat} (hx : M ≤ x) (j : Nat) (u : Value) : OwnG (w.setCell ⟨x, j, none⟩ u) lo a b c L g :=
  h.far_ (fun i v hv e => by have := hu i v x hv e; omega) j u
/-- .. below it. -/
theorem OwnG.below_ {w : World} {lo : Nat} {a b c : Value} {L : List Value} {g : P.G} (h : OwnG w lo a b c L g) {x : Nat} (hx : x < lo) (j : Nat) (u : Value) : OwnG (w.setCell ⟨x, j, none⟩ u) lo a b c L g :=
  h.far_ (fun i v hv e => by
    have : lo ≤ x := by
      match i, hv with
      | 0, hv => simp at hv; subst hv; exact (own_lt h.owner x e).1
      | 1, hv => simp at hv; subst hv; exact (own_lt h.prio x e).1
      | 2, hv => simp at hv; subst hv; exact (own_lt h.head x e).1
      | i + 3, hv =>
        have hl : L.length = g.moves.length * 1 := h.head.1
        simp at hv
        have := (List.getElem?_eq_some_iff.1 hv).1
        obtain ⟨y, hy, ho⟩ := h.rows i _ (List.getElem?_eq_getElem (by omega))
        rw [hv] at hy
        injection hy with hy
        subst hy
        exact (own_lt ho x e).1
    omega) j u
/-- A position is given to z. -/
theorem OwnG.give {w : World} {lo q k n : Nat} {b c : Value} {L : List Value} {g : P.G} {z : Int} {j : Nat} (h : OwnG w lo (.slice (some ⟨q, 0, none⟩) n k) b c L (g.given z j)) (hn : j < g.owner.length) : OwnG (w.setCell ⟨q, j, none⟩ (.int .i64 z)) lo (.slice (some ⟨q, 0, none⟩) n k) b c L (g.given z (j + 1)) := by
  have hlen : n = (g.given z j).owner.length := by
    obtain ⟨a1, k1, e, -⟩ := own_at h.owner
    injection e
  rw [P.G.given_len] at hlen
  have h2 := h.setOwner (by omega) j z
  rw [P.G.given_set g z j hn] at h2
  exact h2
/-- A cell of the owners. -/
theorem OwnG.cellO {w : World} {lo q k n : Nat} {b c : Value} {L : List Value} {g : P.G} (h : OwnG w lo (.slice (some ⟨q, 0, none⟩) n k) b c L g) {j : Nat} (hj : j < g.owner.length) : ∃ x, w.cell? ⟨q, j, none⟩ = some (.int .i64 x) ∧ w.frozen? ⟨q, j, none⟩ = false := by
  have hlen : n = g.owner.length := by
    obtain ⟨a1, k1, e, -⟩ := own_at h.owner
    injection e
  subst hlen
  have ho : w.ownsRow lo 3 1 (.slice (some ⟨q, 0, none⟩) g.owner.length k) g.owner.length (g.owner.map (Value.int .i64)) := h.owner
  refine ⟨g.owner[j], ?_, ho.frozenAt j⟩
  rw [ho.cellAt j (by omega), List.getElem?_map, List.getElem?_eq_getElem hj]
  rfl
end W
end Go.Proofs.YtpjmboonaciplaaDoor
