/- Who is at rest behind a lift. Plain. -/
import Derived.Test.YteeaojciobmcaaaMeaR
namespace Go.Proofs.Yteeaojciobmcaaa
namespace P
theorem pick_congr (n : Tup) (o p : Int) (l m : List Tup) : ∀ (xs : List Int) (k : Int × Tup), (∀ x ∈ xs, tget l x = tget m x) → pick n o p l xs k = pick n o p m xs k
  | [], _, _ => rfl
  | x :: xs, k, h => by
    unfold pick
    rw [h x (List.mem_cons_self ..)]
    exact pick_congr n o p l m xs _ fun y hy => h y (List.mem_cons_of_mem _ hy)
theorem choose_congr {g : G} {l m : List Tup} {i : Nat} (h : ∀ x ∈ g.moves.getD i [], tget l x = tget m x) : g.choose l i = g.choose m i := pick_congr _ _ _ _ _ _ _ h
/-- Is a position's tuple as high as what its moves make? -/
def Rest (g : G) (l : List Tup) (i : Nat) : Prop := Tup.le (g.choose l i).2 (l.getD i .zero)
/-- Behind a lift of 'at_' all are at rest that were and have no move to it; it itself, too, if it has none. -/
theorem Rest.lifted {g : G} (hr : g.Right) {l : List Tup} (hl : l.length = g.owner.length) {a i : Nat} (ha : a < g.owner.length) (hi : i < g.owner.length) (hm : (a : Int) ∉ g.moves.getD i []) (h : i = a ∨ Rest g l i) : Rest g (l.set a (g.choose l a).2) i := by
  have hal : a < l.length := by omega
  have e : g.choose (l.set a (g.choose l a).2) i = g.choose l i := by
    refine choose_congr fun x hx => ?_
    obtain ⟨j, hj, rfl, -⟩ := tget_at hr hi hx
    rw [tget_nat, tget_nat, getD_set l a j _ hal, if_neg]
    intro e
    rw [e] at hm
    exact hm hx
  unfold Rest
  rw [e, getD_set l a i _ hal]
  by_cases e2 : a = i
  · rw [if_pos e2, e2]
    exact Tup.le_refl _
  · rw [if_neg e2]
    exact h.resolve_left (fun e => e2 e.symm)
end P
end Go.Proofs.Yteeaojciobmcaaa
