/- Two tuples are equal just if all is equal. -/
import Derived.Test.YteeaojciobmcaaaMeaP
import Derived.Test.YteeaojciobmcaaaUp
import Derived.Laws.StructEq
import Derived.WalkKit
import Derived.WalkLawsBesides
import Derived.ChangeKeysEq
import Derived.KernelRfl
namespace Go.Proofs.Yteeaojciobmcaaa
open Go.RowKit
namespace W

def tupF : List Field := [⟨"Top", 4, 0, false, "", "", 0⟩, ⟨"C", 22, 1, false, "", "", 8⟩]
theorem tup_fields : (Try.prog.fieldsOf 26).toList = tupF := by
  unfold Program.fieldsOf
  rw [Try.underlying26]
  rfl
theorem tup_under : Try.prog.underlying 26 = some (.struct (Try.prog.fieldsOf 26)) := by
  unfold Program.fieldsOf
  rw [Try.underlying26]
theorem tup_held : Try.prog.stoodInHeld 26 = false := by kernel_rfl
theorem tup_partT (x0 x1 x2 x3 x4 : Value) (w : World) : (part 4 #[x0, x1, x2, x3, x4] 0).run Try.prog w = .ok x0 w := by kernel_rfl
theorem tup_partC (x0 : Value) (a0 a1 a2 a3 : Int) (w : World) : (part 22 #[x0, .int .i64 a0, .int .i64 a1, .int .i64 a2, .int .i64 a3] 1).run Try.prog w = .ok (.agg #[.int .i64 a0, .int .i64 a1, .int .i64 a2, .int .i64 a3]) w := by kernel_rfl
theorem arr_info : (Try.prog.info? 3).map (fun i => (i.size)) = some 1 := by kernel_rfl
theorem arr_cells : Try.prog.cellsOf 3 = 1 := by kernel_rfl
theorem arr_part0 (x0 x1 x2 x3 : Value) (w : World) : (part 3 #[x0, x1, x2, x3] 0).run Try.prog w = .ok x0 w := by kernel_rfl
theorem arr_part1 (x0 x1 x2 x3 : Value) (w : World) : (part 3 #[x0, x1, x2, x3] 1).run Try.prog w = .ok x1 w := by kernel_rfl
theorem arr_part2 (x0 x1 x2 x3 : Value) (w : World) : (part 3 #[x0, x1, x2, x3] 2).run Try.prog w = .ok x2 w := by kernel_rfl
theorem arr_part3 (x0 x1 x2 x3 : Value) (w : World) : (part 3 #[x0, x1, x2, x3] 3).run Try.prog w = .ok x3 w := by kernel_rfl
theorem int_eq (e : Nat) (x y : Int) (w : World) : (Op.equalIn (e + 1) 3 (.int .i64 x) (.int .i64 y)).run Try.prog w = .ok (x == y) w := by
  simp [Op.equalIn, run_underlying Try.underlying3]
theorem bool_eq (e : Nat) (x y : Bool) (w : World) : (Op.equalIn (e + 1) 4 (.bool x) (.bool y)).run Try.prog w = .ok (x == y) w := run_equalIn_bool w e 4 x y Try.underlying4
theorem arr_eq (d : Nat) (a0 a1 a2 a3 b0 b1 b2 b3 : Int) (w : World) : (Op.equalIn (d + 2) 22 (.agg #[.int .i64 a0, .int .i64 a1, .int .i64 a2, .int .i64 a3]) (.agg #[.int .i64 b0, .int .i64 b1, .int .i64 b2, .int .i64 b3])).run Try.prog w = .ok (a0 == b0 && a1 == b1 && a2 == b2 && a3 == b3) w := by
  obtain ⟨i, hi⟩ : ∃ i, Try.prog.info? 3 = some i := by
    have := arr_info
    cases h : Try.prog.info? 3 with
    | none => simp [h] at this
    | some i => exact ⟨i, rfl⟩
  rw [run_equalIn_array w (d + 1) _ _ Try.underlying22 hi, arr_cells]
  have r4 : List.range 4 = [0, 1, 2, 3] := rfl
  rw [r4]
  simp only [Op.eqItems, Sem.run_bind, Nat.mul_one, arr_part0, arr_part1, arr_part2, arr_part3, int_eq, Result.andThen_ok, Sem.run_ite, Sem.run_pure]
  generalize (a0 == b0) = ra, (a1 == b1) = rb, (a2 == b2) = rc, (a3 == b3) = rd
  cases ra <;> cases rb <;> cases rc <;> cases rd <;> rfl
theorem tup_in (s t : P.Tup) (w : World) : (Op.equalIn 10000 26 (.agg (tc s)) (.agg (tc t))).run Try.prog w = .ok (decide (s = t)) w := by
  obtain ⟨p, a0, a1, a2, a3⟩ := s
  obtain ⟨q, b0, b1, b2, b3⟩ := t
  unfold tc
  rw [run_equalIn_struct w 9999 26 _ _ tup_under tup_held, tup_fields]
  unfold tupF
  simp only [Op.eqFields, show ("Top" ≠ "_") = True from by simp, show ("C" ≠ "_") = True from by simp, if_true, Sem.run_bind, tup_partT, tup_partC, bool_eq 9998, arr_eq 9997, Result.andThen_ok, Sem.run_ite, Sem.run_pure]
  have e : decide ((⟨p, a0, a1, a2, a3⟩ : P.Tup) = ⟨q, b0, b1, b2, b3⟩) = ((p == q) && (a0 == b0 && a1 == b1 && a2 == b2 && a3 == b3)) := by
    apply Bool.eq_iff_iff.2
    simp only [decide_eq_true_iff, P.Tup.mk.injEq, Bool.and_eq_true, beq_iff_eq]
    constructor
    · rintro ⟨h1, h2, h3, h4, h5⟩
      exact ⟨h1, ⟨⟨h2, h3⟩, h4⟩, h5⟩
    · rintro ⟨h1, ⟨⟨h2, h3⟩, h4⟩, h5⟩
      exact ⟨h1, h2, h3, h4, h5⟩
  rw [e]
  generalize (p == q) = ra, (a0 == b0 && a1 == b1 && a2 == b2 && a3 == b3) = rb
  cases ra <;> cases rb <;> rfl
theorem tup_eql (s t : P.Tup) (w : World) : (binOp .eql 26 (.agg (tc s)) (.agg (tc t))).run Try.prog w = .ok (.bool (decide (s = t))) w := by
  simp only [binOp]
  simp [Op.equal, Op.maxDepth, tup_in]
theorem tup_neq (s t : P.Tup) (w : World) : (binOp .neq 26 (.agg (tc s)) (.agg (tc t))).run Try.prog w = .ok (.bool (!decide (s = t))) w := by
  simp only [binOp]
  simp [Op.equal, Op.maxDepth, tup_in]
end W
end Go.Proofs.Yteeaojciobmcaaa
