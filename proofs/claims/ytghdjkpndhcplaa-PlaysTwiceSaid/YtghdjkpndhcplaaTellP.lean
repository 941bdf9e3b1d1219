/- The play that goes a way and comes back to a place of it: its highest priority. -/
import Derived.Test.YtghdjkpndhcplaaReads
import Derived.Test.YtghdjkpndhcplaaKeep
import Derived.Test.YtghdjkpndhcplaaClone
import Derived.Test.YtghdjkpndhcplaaRegionG
import Derived.Test.YtghdjkpndhcplaaPlyR
import Derived.Deep.Cut
import Derived.Lib.Hide
import Derived.Deep.QuietTactic
import Derived.BigQuiet
import Derived.StillTailTactics
namespace Go.Proofs.Ytghdjkpndhcplaa
open Go.RowKit
namespace W

/-- The highest priority of some positions, not below z. -/
def topZ (g : P.G) : Int → List Int → Int
  | z, [] => z
  | z, x :: l => topZ g (if z < g.prio.getD x.toNat 0 then g.prio.getD x.toNat 0 else z) l
theorem topZ_map (g : P.G) : ∀ (l : List (Nat × Nat)) (z : Int), topZ g z (l.map fun a => (a.1 : Int)) = P.topS g z l
  | [], _ => rfl
  | a :: l, z => by
    show topZ g _ (l.map fun a => (a.1 : Int)) = P.topS g _ l
    rw [topZ_map g l]
    rfl
theorem topZ_snoc (g : P.G) (x : Int) : ∀ (l : List Int) (z : Int), topZ g z (l ++ [x]) = (if topZ g z l < g.prio.getD x.toNat 0 then g.prio.getD x.toNat 0 else topZ g z l)
  | [], _ => rfl
  | _ :: l, _ => topZ_snoc g x l _
theorem topZ_bounds {g : P.G} (hr : g.Right) : ∀ (l : List Int) (z : Int), (∀ x ∈ l, 0 ≤ x ∧ x < (g.owner.length : Int)) → 0 ≤ z → z ≤ 7 → 0 ≤ topZ g z l ∧ topZ g z l ≤ 7
  | [], _, _, h0, h7 => ⟨h0, h7⟩
  | x :: l, z, hl, h0, h7 => by
    have hx := hl x (List.mem_cons_self ..)
    have h1 := (hr.at x.toNat (by omega)).2
    refine topZ_bounds hr l _ (fun y hy => hl y (List.mem_cons_of_mem _ hy)) ?_ ?_ <;> split <;> omega
/-- A contest in memory. -/
structure Ct (w : World) (qc : Nat) (g : P.G) (a b c : Value) (p : Int) (mv sc : Value) (moves script : List Int) : Prop where
  box : Box w qc 47 #[a, b, c, .int .i64 p, mv, sc]
  game : GameV w (.agg #[a, b, c]) g
  moves : Ints w mv moves
  script : Ints w sc script
theorem Ct.on {w w' : World} {qc : Nat} {g : P.G} {a b c : Value} {p : Int} {mv sc : Value} {moves script : List Int} (h : Ct w qc g a b c p mv sc moves script) (hb : Below w.heap.size w w') : Ct w' qc g a b c p mv sc moves script :=
  ⟨h.box.keep (grown_of_below hb none), h.game.on hb, h.moves.on hb, h.script.on hb⟩
end W
end Go.Proofs.Ytghdjkpndhcplaa
