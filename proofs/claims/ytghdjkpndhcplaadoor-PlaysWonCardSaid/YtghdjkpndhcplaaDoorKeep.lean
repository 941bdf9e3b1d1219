/- What stays while a struct of the call's own is written: all that was there, and all rows. -/
import Derived.Test.YtghdjkpndhcplaaDoorReg
import Derived.Test.YtghdjkpndhcplaaDoorBuild
namespace Go.Proofs.YtghdjkpndhcplaaDoor
open Go.RowKit
namespace W
/-- Blocks below N, and blocks that hold no 't'. -/
def KG (N : Nat) (t : TypeId) : Nat → Obj → Prop := fun k o => k < N ∨ ∀ cs fr, o ≠ .cells cs t fr
theorem keeps_old {w w' : World} {t : TypeId} (h : Rk.Keeps (KG w.heap.size t) w w') : w.grownBy w' none := ⟨h.os, h.tape, h.output, h.size, fun k hk _ => by
  have := h.block k _ (Array.getElem?_eq_getElem hk) (.inl hk)
  rw [this]
  exact (Array.getElem?_eq_getElem hk).symm⟩
theorem Box.other {w w' : World} {b N : Nat} {t e : TypeId} {cs : Array Value} (hb : Box w b e cs) (h : Rk.Keeps (KG N t) w w') (hne : e ≠ t) : Box w' b e cs := h.block b _ hb (.inr fun cs' fr he => by injection he with _ h2; exact hne h2)
theorem own_other {w w' : World} {lo N : Nat} {t e : TypeId} {v : Value} {n : Nat} {xs : List Value} (ho : w.ownsRow lo e 1 v n xs) (h : Rk.Keeps (KG N t) w w') (hne : e ≠ t) : w'.ownsRow lo e 1 v n xs := by
  refine ⟨ho.1, ?_⟩
  rcases ho.2 with h2 | ⟨g, cap, cur, hv, hg, hh, r⟩
  · exact .inl h2
  · exact .inr ⟨g, cap, cur, hv, hg, h.block g _ hh (.inr fun cs' fr he => by injection he with _ h3; exact hne h3), r⟩
theorem OwnG.other {w w' : World} {lo N : Nat} {t : TypeId} {a b c : Value} {L : List Value} {g : P.G} (h : OwnG w lo a b c L g) (hk : Rk.Keeps (KG N t) w w') (h1 : 3 ≠ t) (h2 : 22 ≠ t) : OwnG w' lo a b c L g :=
  ⟨own_other h.owner hk h1, own_other h.prio hk h1, own_other h.head hk h2, fun j l hl => by obtain ⟨x, hx, ho⟩ := h.rows j l hl; exact ⟨x, hx, own_other ho hk h1⟩, h.apart⟩
theorem keeps_set {w : World} {b N : Nat} {t : TypeId} {cs : Array Value} (hb : Box w b t cs) (hN : N ≤ b) (j : Nat) (u : Value) : Rk.Keeps (KG N t) w (w.setCell ⟨b, j, none⟩ u) := ⟨rfl, rfl, rfl, by simp [World.setCell], fun k o ho hk => by
  have hne : k ≠ b := by
    rintro rfl
    unfold Box at hb
    rw [hb] at ho
    injection ho with ho
    rcases hk with hk | hk
    · omega
    · exact hk _ _ ho.symm
  rw [Below.heap_setCell _ _ _ _ hne]
  exact ho⟩
end W
end Go.Proofs.YtghdjkpndhcplaaDoor
