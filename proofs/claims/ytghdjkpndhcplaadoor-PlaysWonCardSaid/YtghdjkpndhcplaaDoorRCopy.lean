/- The document's copy of a game: every list is the call's own, and no two share memory. -/
import Derived.Test.YtghdjkpndhcplaaDoorCopy
namespace Go.Proofs.YtghdjkpndhcplaaDoor
open Go.RowKit
namespace W

theorem apart_new {w : World} {lo : Nat} {u v : Value} {xs : List Int} {ys : List Value} {ao : Option Addr} (hu : OwnI w lo u xs) (hv : (ys = [] ∧ v = .slice ao 0 0) ∨ (ys ≠ [] ∧ v.ownBlock = some w.heap.size)) : Apart [u, v] := by
  have h1 : Apart [u] := fun i j a b hi hj hne => by
    match i, j, hi, hj with
    | 0, 0, _, _ => exact absurd rfl hne
  refine h1.snoc v fun i a hi q hq e => ?_
  match i, hi with
  | 0, hi =>
    simp at hi
    subst hi
    have h2 := own_lt hu q (hold_own e)
    rcases hv with ⟨_, rfl⟩ | ⟨_, hv⟩
    · simp [hold] at hq
    · rw [hold_own hq] at hv
      injection hv with hv
      omega
structure Rel2 (W : World) (n q : Nat) (A B : Value) (g : P.G) (i : Value) (wr : World) (k : Nat) (c : Value) (L : List Value) : Prop where
  le : k ≤ n
  eq : i = .int .i64 k
  box : Box wr q 25 #[A, B, c]
  own : OwnG wr W.heap.size A B c L ⟨g.owner, g.prio, g.moves.take k⟩
  below : Below W.heap.size W wr
theorem take_push {ms : List (List Int)} {k : Nat} {l : List Int} (h : ms[k]? = some l) : ms.take k ++ [l] = ms.take (k + 1) := by
  rw [List.take_add_one, h]
  rfl
theorem Ints.fits1 {w : World} {v : Value} {zs : List Int} (h : Ints w v zs) : zs.length ≤ 17592186043904 := by
  obtain ⟨_, _, _, h1, _⟩ := h
  exact h1
end W
end Go.Proofs.YtghdjkpndhcplaaDoor
