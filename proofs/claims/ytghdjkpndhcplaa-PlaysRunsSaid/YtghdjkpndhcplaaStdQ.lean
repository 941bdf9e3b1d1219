/- The document's stands compared; what its Run has in memory. -/
import Derived.Test.YtghdjkpndhcplaaStdS
import Derived.Test.YtghdjkpndhcplaaRunP
import Derived.Test.YtghdjkpndhcplaaKeyM
import Derived.Laws.StructEq
import Derived.WalkKit
import Derived.WalkLawsBesides
import Derived.ChangeKeysEq
import Derived.KernelRfl
namespace Go.Proofs.Ytghdjkpndhcplaa
open Go.RowKit
namespace W

def stF : List Field := [⟨"at", 3, 0, false, "", "bailiff/bailiffref17", 0⟩, ⟨"place", 3, 1, false, "", "bailiff/bailiffref17", 8⟩]
theorem st_fields : (Try.prog.fieldsOf 41).toList = stF := by
  unfold Program.fieldsOf
  rw [Try.underlying41]
  rfl
theorem st_under : Try.prog.underlying 41 = some (.struct (Try.prog.fieldsOf 41)) := by
  unfold Program.fieldsOf
  rw [Try.underlying41]
theorem st_held : Try.prog.stoodInHeld 41 = false := by kernel_rfl
theorem st_part0 (x0 x1 : Value) (w : World) : (part 3 #[x0, x1] 0).run Try.prog w = .ok x0 w := by kernel_rfl
theorem st_part1 (x0 x1 : Value) (w : World) : (part 3 #[x0, x1] 1).run Try.prog w = .ok x1 w := by kernel_rfl
theorem st_int (e : Nat) (x y : Int) (w : World) : (Op.equalIn (e + 1) 3 (.int .i64 x) (.int .i64 y)).run Try.prog w = .ok (x == y) w := by
  simp [Op.equalIn, run_underlying Try.underlying3]
theorem st_in (a b : Nat × Nat) (w : World) : (Op.equalIn 10000 41 (.agg (sc2 a)) (.agg (sc2 b))).run Try.prog w = .ok (decide (a = b)) w := by
  obtain ⟨a0, a1⟩ := a
  obtain ⟨b0, b1⟩ := b
  unfold sc2
  rw [run_equalIn_struct w 9999 41 _ _ st_under st_held, st_fields]
  unfold stF
  simp only [Op.eqFields, show ("at" ≠ "_") = True from by simp, show ("place" ≠ "_") = True from by simp, if_true, Sem.run_bind, st_part0, st_part1, st_int 9998, Result.andThen_ok, Sem.run_ite, Sem.run_pure]
  have e : decide ((a0, a1) = (b0, b1)) = (((a0 : Int) == (b0 : Int)) && ((a1 : Int) == (b1 : Int))) := by
    apply Bool.eq_iff_iff.2
    simp only [decide_eq_true_iff, Prod.mk.injEq, Bool.and_eq_true, beq_iff_eq]
    omega
  rw [e]
  generalize ((a0 : Int) == (b0 : Int)) = ra, ((a1 : Int) == (b1 : Int)) = rb
  cases ra <;> cases rb <;> rfl

theorem st_eql (a b : Nat × Nat) (w : World) : (binOp .eql 41 (.agg (sc2 a)) (.agg (sc2 b))).run Try.prog w = .ok (.bool (decide (a = b))) w := by
  simp only [binOp]
  simp [Op.equal, Op.maxDepth, st_in]
/-- The document's Run at a round's begin. -/
structure Dp (w5 wr : World) (g : P.G) (p : Int) (moves S : List Int) (n m i0 : Nat) (way : Value) (l : List (Nat × Nat)) (x y qh : Nat) : Prop where
  below : Below w5.heap.size w5 wr
  ne : way.ownBlock ≠ some qh
  way : OwnS wr w5.heap.size way l
  here : Box wr qh 41 #[.int .i64 (x : Int), .int .i64 (y : Int)]
  high : w5.heap.size ≤ qh
  go : P.Way (P.stepS g p moves S) (i0, 0) l (x, y)
  ins : ∀ a ∈ l, a.1 < n ∧ a.2 < m
  hx : x < n
  hy : y < m
section
variable {w5 wr w8 : World} {g : P.G} {p : Int} {moves S : List Int} {n m i0 : Nat} {way : Value} {l : List (Nat × Nat)} {x y qh : Nat}
theorem Dp.short (h : Dp w5 wr g p moves S n m i0 way l x y qh) (hn : n ≤ 200) (hm : m ≤ 64) : l.length ≤ 12800 :=
  Nat.le_trans (h.go.short h.ins) (Nat.mul_le_mul hn hm)
theorem Dp.on (h : Dp w5 wr g p moves S n m i0 way l x y qh) (hg : wr.grownBy w8 none) : Dp w5 w8 g p moves S n m i0 way l x y qh :=
  ⟨h.below.trans ((below_of_grown hg).mono h.below.size), h.ne, h.way.grown hg, h.here.keep hg, h.high, h.go, h.ins, h.hx, h.hy⟩
end
/-- A list of stands has no box of its own. -/
theorem own2_box {w : World} {lo : Nat} {t : TypeId} {v : Value} {l : List (Nat × Nat)} {b : Nat} {cs : Array Value} (h : OwnS w lo v l) (hb : Box w b t cs) (hc : 41 ≠ t) : v.ownBlock ≠ some b := by
  intro e
  rcases h.2 with ⟨hv, -⟩ | ⟨g, cap, cur, hv, -, hc2, -⟩
  · rw [hv] at e; cases e
  · rw [hv] at e
    have e : some g = some b := e
    injection e with e
    have hb : w.heap[b]? = some (.cells cs t (0, 0)) := hb
    rw [← e, hc2] at hb
    injection hb with hb
    injection hb with _ h3
    exact hc h3
theorem own2_off {v : Value} {q : Nat} (h : v.ownBlock ≠ some q) : v.ownBlock = none ∨ v.ownBlock ≠ some q := .inr h
theorem own2_lt {w : World} {lo : Nat} {v : Value} {l : List (Nat × Nat)} (h : OwnS w lo v l) : ∀ k, v.ownBlock = some k → lo ≤ k ∧ k < w.heap.size := World.ownsRow.lt (w := w) h
end W
end Go.Proofs.Ytghdjkpndhcplaa
