/- append behind a list of the call's own, in a region that draws: what is kept, empty blocks too. -/
import Derived.Test.YtghdjkpndhcplaaRegionQ
import Derived.Test.YtghdjkpndhcplaaKeep
import Derived.Test.YtghdjkpndhcplaaGrowR
import Derived.Test.YtghdjkpndhcplaaRCopy
namespace Go.Proofs.Ytghdjkpndhcplaa
open Go.RowKit
namespace W

/-- Blocks below N, those that hold no numbers, and empty ones. -/
def KE (N : Nat) : Nat → Obj → Prop := fun k o => k < N ∨ (∀ cs fr, o ≠ .cells cs 3 fr) ∨ o = .cells #[] 3 (0, 0)
theorem ke_kg {N : Nat} {k : Nat} {o : Obj} (h : KG N 3 k o) : KE N k o := h.elim .inl fun h => .inr (.inl h)
theorem ke_grown {w w' : World} {N : Nat} (h : w.grownBy w' none) : Rk.Keeps (KE N) w w' := Rk.keep_weak (Rk.keep_of h)
theorem ke_below {w w' : World} {N B : Nat} (h : Rk.Keeps (KE N) w w') (hB : B ≤ N) (hN : N ≤ w.heap.size) : Below B w w' := ⟨h.os, h.tape, h.output, h.size, fun k hk => by
  obtain ⟨o, ho⟩ : ∃ o, w.heap[k]? = some o := ⟨_, Array.getElem?_eq_getElem (by omega)⟩
  rw [ho]
  exact h.block k o ho (.inl (by omega))⟩
theorem ke_box {w w' : World} {N b : Nat} {e : TypeId} {cs : Array Value} (hb : Box w b e cs) (h : Rk.Keeps (KE N) w w') (hne : e ≠ 3) : Box w' b e cs := h.block b _ hb (.inr (.inl fun cs' fr he => by injection he with _ h2; exact hne h2))
/-- An empty list of the call's own stays. -/
theorem ke_empty {w w' : World} {N lo : Nat} {ao : Option Addr} (ho : w.ownsRow lo 3 1 (.slice ao 0 0) 0 []) (h : Rk.Keeps (KE N) w w') : w'.ownsRow lo 3 1 (.slice ao 0 0) 0 [] := by
  refine ⟨ho.1, ?_⟩
  rcases ho.2 with h1 | ⟨g, cap, cur, hv, hlo, hc, h2, h3, h4, h5⟩
  · exact .inl h1
  · injection hv with e1 _ e3
    subst e3
    have hz : cur = #[] := Array.eq_empty_of_size_eq_zero (by omega)
    subst hz
    exact .inr ⟨g, 0, #[], by rw [e1], hlo, h.block g _ hc (.inr (.inr rfl)), h2, h3, h4, h5⟩
theorem append_ke {w : World} {lo : Nat} {v : Value} {zs : List Int} (hown : OwnI w lo v zs) {x : Value} {ys : List Int} (hx : Ints w x ys) (ty : TypeId) (hb : zs.length + ys.length ≤ 17592186044416) (hlo : lo ≤ w.heap.size) :
    ∃ v' w', (Builtin.append_ #[22, 22] ty #[v, x]).run Try.prog w = .ok v' w' ∧ OwnI w' lo v' (zs ++ ys) ∧ Rk.Keeps (KE lo) w w' := by
  have new : ∀ ao, v = .slice ao 0 0 → zs = [] → ∃ v' w', (Builtin.append_ #[22, 22] ty #[v, x]).run Try.prog w = .ok v' w' ∧ OwnI w' lo v' (zs ++ ys) ∧ Rk.Keeps (KE lo) w w' := by
    rintro ao rfl rfl
    have ho : w.ownsRow lo 3 1 (.slice ao 0 0) 0 [] := hown
    obtain ⟨v', w', h1, h2, h3, -⟩ := run_append_new elInt ty ho hx.row (one_ints ys) (by simp; simp at hb; omega) (by simp; simp at hb; omega) hlo
    exact ⟨v', w', h1, by unfold OwnI; simpa using h2, ke_grown h3⟩
  rcases hown.2 with ⟨h1, h2⟩ | ⟨g, cap, cur, hv, hl, hc, h2, h3, h4, h5⟩
  · exact new none h1 (List.eq_nil_of_length_eq_zero h2)
  · by_cases hcap : cap = 0
    · subst hcap
      have hz : zs = [] := List.eq_nil_of_length_eq_zero (by omega)
      subst hz
      exact new _ hv rfl
    · obtain ⟨v', w', h1, h6, h7, -⟩ := run_append elInt ty hown hx.row (one_ints ys) (by simp; omega) (by simp; omega) hlo
      refine ⟨v', w', h1, by unfold OwnI; simpa using h6, h7.os, h7.tape, h7.output, h7.size, fun k o ho hk => ?_⟩
      refine (h7.block k (Array.getElem?_eq_some_iff.1 ho).1 ?_).trans ho
      intro e
      rw [hv] at e
      have e : some k = some g := e
      injection e with e
      subst e
      rw [hc] at ho
      injection ho with ho
      rcases hk with hk | hk | hk
      · omega
      · exact hk _ _ ho.symm
      · rw [← ho] at hk
        injection hk with hk
        subst hk
        simp at h4
        omega
theorem append_fresh {w : World} {lo : Nat} {ao : Option Addr} (hown : w.ownsRow lo 3 1 (.slice ao 0 0) 0 []) {x : Value} {ys : List Int} (hx : Ints w x ys) (ty : TypeId) (hlo : lo ≤ w.heap.size) :
    ∃ v' w', (Builtin.append_ #[22, 22] ty #[.slice ao 0 0, x]).run Try.prog w = .ok v' w' ∧ OwnI w' lo v' ys ∧ w.grownBy w' none := by
  have hf := hx.fits1
  obtain ⟨v', w', h1, h2, h3, -⟩ := run_append_new elInt ty hown hx.row (one_ints ys) (by simp; omega) (by simp; omega) hlo
  exact ⟨v', w', h1, by unfold OwnI; simpa using h2, h3⟩
end W
end Go.Proofs.Ytghdjkpndhcplaa
