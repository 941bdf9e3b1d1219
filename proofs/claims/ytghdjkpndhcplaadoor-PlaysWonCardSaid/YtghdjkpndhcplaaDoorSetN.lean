/- Two sets are not the same; a right game is shown so; the words of no set. -/
import Derived.Test.YtghdjkpndhcplaaDoorEq
import Derived.Test.YtghdjkpndhcplaaDoorGame
import Derived.Laws.StructEq
namespace Go.Proofs.YtghdjkpndhcplaaDoor
open Go.RowKit
namespace W
theorem set_neq (s t : BitVec 256) (w : World) : (binOp .neq 37 (.agg #[.int .u64 (P.wrd s 0), .int .u64 (P.wrd s 1), .int .u64 (P.wrd s 2), .int .u64 (P.wrd s 3)]) (.agg #[.int .u64 (P.wrd t 0), .int .u64 (P.wrd t 1), .int .u64 (P.wrd t 2), .int .u64 (P.wrd t 3)])).run Tryd.prog w = .ok (.bool (!decide (s = t))) w := by
  have h := set_eq s t w
  rw [run_eql_struct] at h
  rw [run_neq_struct]
  cases he : (Op.equalIn 10000 37 (.agg #[.int .u64 (P.wrd s 0), .int .u64 (P.wrd s 1), .int .u64 (P.wrd s 2), .int .u64 (P.wrd s 3)]) (.agg #[.int .u64 (P.wrd t 0), .int .u64 (P.wrd t 1), .int .u64 (P.wrd t 2), .int .u64 (P.wrd t 3)])).run Tryd.prog w with
  | ok b w' =>
    rw [he] at h
    simp only [Result.andThen_ok, Result.ok.injEq, Value.bool.injEq] at h ⊢
    rw [h.1, h.2]
    exact ⟨rfl, rfl⟩
  | _ => rw [he] at h; simp [Result.andThen] at h
theorem right_zero {g : P.G} (h : g.Right) : g.right = (0, 0) := by
  have key : ∀ (f i : Nat), (∀ j, i ≤ j → j < i + f → g.check j = 0) → g.first f i = (0, 0) := by
    intro f
    induction f with
    | zero => intro i _; rfl
    | succ f ih =>
      intro i hc
      rw [P.G.first_ok (hc i (Nat.le_refl _) (by omega))]
      exact ih (i + 1) fun j h1 h2 => hc j (by omega) (by omega)
  unfold P.G.right
  rw [if_neg (by have := h.prio; have := h.moves; omega), if_neg (by have := h.pos; have := h.many; omega)]
  exact key _ 0 fun j _ hj => h.each j (by omega)
theorem wrd_none (j : Nat) (hj : j < 4) : P.wrd 0#256 j = 0 := by
  match j, hj with
  | 0, _ | 1, _ | 2, _ | 3, _ => decide +kernel
end W
end Go.Proofs.YtghdjkpndhcplaaDoor
