/- Lists that are written out: where they lie. -/
import Derived.Test.YtghdjkpndhcplaaDoorBuild
namespace Go.Proofs.YtghdjkpndhcplaaDoor
open Go.RowKit
namespace W
def allocs (w : World) : List Obj → World
  | [] => w
  | o :: l => allocs (w.alloc o) l
theorem allocs_size (w : World) : ∀ l : List Obj, (allocs w l).heap.size = w.heap.size + l.length
  | [] => rfl
  | o :: l => by rw [allocs, allocs_size]; simp; omega
theorem allocs_grown (w : World) : ∀ l : List Obj, w.grownBy (allocs w l) none
  | [] => Rg.grown_refl _ _
  | o :: l => (World.grownBy_alloc w o none).trans (allocs_grown _ l)
theorem allocs_at (w : World) : ∀ (l : List Obj) (i : Nat) (o : Obj), l[i]? = some o → (allocs w l).heap[w.heap.size + i]? = some o
  | [], i, o, h => by simp at h
  | p :: l, 0, o, h => by
    simp at h
    subst h
    rw [allocs, (allocs_grown (w.alloc p) l).block _ (by simp) (by simp)]
    exact heap_alloc_new w p
  | p :: l, i + 1, o, h => by
    have := allocs_at (w.alloc p) l i o (by simpa using h)
    rw [allocs]
    rw [show (w.alloc p).heap.size + i = w.heap.size + (i + 1) by simp; omega] at this
    exact this
theorem allocs_box {w : World} {l : List Obj} (i : Nat) {t : TypeId} {cs : Array Value} (h : l[i]? = some (.cells cs t)) : Box (allocs w l) (w.heap.size + i) t cs := allocs_at w l i _ h
theorem Box.ints {w : World} {b : Nat} {cs : Array Value} (h : Box w b 3 cs) (zs : List Int) (hcs : cs = (zs.map (Value.int .i64)).toArray) (hb : zs.length ≤ 17592186043904) (n k : Nat) (hn : n = zs.length) : Ints w (.slice (some ⟨b, 0, none⟩) n k) zs := by
  subst hn
  refine ⟨_, k, rfl, hb, .inr ⟨b, 0, rfl, h.lt, fun j hj => ?_⟩⟩
  rw [Nat.zero_add]
  refine h.cell j _ ?_
  rw [hcs]
  simp [hj]
theorem Box.grid {w : World} {b : Nat} {cs : Array Value} (h : Box w b 22 cs) (ls : List (List Int)) (hcs : cs.size = ls.length) (hb : ls.length ≤ 5864062014634) (hr : ∀ (j : Nat) (x : Value), cs[j]? = some x → Ints w x (ls.getD j [])) (n k : Nat) (hn : n = ls.length) : Grid w (.slice (some ⟨b, 0, none⟩) n k) ls := by
  subst hn
  refine ⟨_, k, rfl, hb, .inr ⟨b, 0, rfl, h.lt, fun j hj => ?_⟩⟩
  have hj' : cs[j]? = some cs[j] := Array.getElem?_eq_getElem (by omega)
  refine ⟨_, ?_, hr j _ hj'⟩
  rw [Nat.zero_add]
  exact h.cell j _ hj'
end W
end Go.Proofs.YtghdjkpndhcplaaDoor
