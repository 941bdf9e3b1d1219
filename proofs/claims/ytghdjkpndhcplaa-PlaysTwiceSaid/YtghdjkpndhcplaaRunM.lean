/- Run's loop: what lies in memory at a round's begin. -/
import Derived.Test.YtghdjkpndhcplaaRunP
import Derived.Test.YtghdjkpndhcplaaKeyM
import Derived.Test.YtghdjkpndhcplaaTellP
import Derived.Test.YtghdjkpndhcplaaSameGame
import Derived.Test.YtghdjkpndhcplaaGrowR
import Derived.Maps.OwnSet
namespace Go.Proofs.Ytghdjkpndhcplaa
open Go.RowKit Go.Maps
namespace W

/-- At a round's begin: the way so far lies in way, the map knows it, the stand lies in qh. -/
structure Lp (w5 wr : World) (g : P.G) (p : Int) (moves S : List Int) (n m i0 : Nat) (way : Value) (qm : Nat) (l : List (Nat × Nat)) (x y qh : Nat) (D : DataW Nat) : Prop where
  below : Below w5.heap.size w5 wr
  way : OwnI wr w5.heap.size way (l.map fun a => (a.1 : Int))
  map : wr.ownsMap Try.prog 50 (plainElem Try.prog 3) qm l.length D
  met : Met D l
  here : Box wr qh 50 #[.int .i64 (x : Int), .int .i64 (y : Int)]
  low : w5.heap.size ≤ qm
  high : w5.heap.size ≤ qh
  go : P.Way (P.stepS g p moves S) (i0, 0) l (x, y)
  ins : ∀ a ∈ l, a.1 < n ∧ a.2 < m
  hx : x < n
  hy : y < m
theorem Lp.short {w5 wr : World} {g : P.G} {p : Int} {moves S : List Int} {n m i0 : Nat} {way : Value} {qm : Nat} {l : List (Nat × Nat)} {x y qh : Nat} {D : DataW Nat} (h : Lp w5 wr g p moves S n m i0 way qm l x y qh D) (hn : n ≤ 200) (hm : m ≤ 64) : l.length ≤ 12800 :=
  Nat.le_trans (h.go.short h.ins) (Nat.mul_le_mul hn hm)
theorem map_ne_row {w : World} {lo qm k : Nat} {D : DataW Nat} {way : Value} {zs : List Int} (hm : w.ownsMap Try.prog 50 (plainElem Try.prog 3) qm k D) (hw : OwnI w lo way zs) : some qm ≠ way.ownBlock := by
  intro e
  obtain ⟨es, clock, hb, -⟩ := hm
  rcases hw.2 with ⟨hv, -⟩ | ⟨g, cap, cur, hv, -, hc, -⟩
  · rw [hv] at e; cases e
  · rw [hv] at e
    have e : some qm = some g := e
    injection e with e
    rw [e, hc] at hb
    cases hb
theorem map_ne_box {w : World} {qm k q : Nat} {t : TypeId} {cs : Array Value} {D : DataW Nat} (hm : w.ownsMap Try.prog 50 (plainElem Try.prog 3) qm k D) (hb : Box w q t cs) : qm ≠ q := by
  intro e
  obtain ⟨es, clock, hb2, -⟩ := hm
  have hb : w.heap[q]? = some (.cells cs t (0, 0)) := hb
  rw [e, hb] at hb2
  cases hb2
theorem box_ne_row {w : World} {lo q : Nat} {cs : Array Value} {way : Value} {zs : List Int} (hb : Box w q 50 cs) (hw : OwnI w lo way zs) : some q ≠ way.ownBlock := by
  have := own_box hw hb (by decide)
  exact fun e => this e.symm
theorem wf_small2 {a : Nat} (h : a ≤ 12800) : (Lit.int .i64 (a : Int)).wf = true := by
  simp [Lit.wf, IntKind.min, IntKind.max, IntKind.signed, IntKind.bits]
  omega
/-- A row's block is no map's. -/
theorem row_ne_map {w : World} {lo qm k : Nat} {D : DataW Nat} {way : Value} {zs : List Int} (hw : OwnI w lo way zs) (hm : w.ownsMap Try.prog 50 (plainElem Try.prog 3) qm k D) : way.ownBlock = none ∨ way.ownBlock ≠ some qm := .inr fun e => map_ne_row hm hw e.symm
end W
end Go.Proofs.Ytghdjkpndhcplaa
