/- Two arrays of four words are equal just if the sets are. -/
import Derived.Test.YtghdjkpndhcplaaDoorChecked
import Derived.Test.YtghdjkpndhcplaaDoorPts
import Derived.WalkKit
import Derived.WalkLawsBesides
import Derived.ChangeKeysEq
import Derived.KernelRfl
namespace Go.Proofs.YtghdjkpndhcplaaDoor
open Go.RowKit
namespace W

theorem set_info : (Tryd.prog.info? 35).map (fun i => (i.size)) = some 1 := by kernel_rfl
theorem set_under : Tryd.prog.underlying 37 = some (.array 4 35) := by kernel_rfl
theorem set_cells : Tryd.prog.cellsOf 35 = 1 := by kernel_rfl
theorem set_part0 (x0 x1 x2 x3 : Value) (w : World) : (part 35 #[x0, x1, x2, x3] 0).run Tryd.prog w = .ok x0 w := by kernel_rfl
theorem set_part1 (x0 x1 x2 x3 : Value) (w : World) : (part 35 #[x0, x1, x2, x3] 1).run Tryd.prog w = .ok x1 w := by kernel_rfl
theorem set_part2 (x0 x1 x2 x3 : Value) (w : World) : (part 35 #[x0, x1, x2, x3] 2).run Tryd.prog w = .ok x2 w := by kernel_rfl
theorem set_part3 (x0 x1 x2 x3 : Value) (w : World) : (part 35 #[x0, x1, x2, x3] 3).run Tryd.prog w = .ok x3 w := by kernel_rfl
theorem set_worde (e : Nat) (x y : Int) (w : World) : (Op.equalIn (e + 1) 35 (.int .u64 x) (.int .u64 y)).run Tryd.prog w = .ok (x == y) w := by
  simp [Op.equalIn, run_underlying Tryd.underlying35]
theorem set_word (x y : Int) (w : World) : (Op.equalIn 9999 35 (.int .u64 x) (.int .u64 y)).run Tryd.prog w = .ok (x == y) w := set_worde 9998 x y w
theorem set_eq4 (a b c d a' b' c' d' : Int) (w : World) : (binOp .eql 37 (.agg #[.int .u64 a, .int .u64 b, .int .u64 c, .int .u64 d]) (.agg #[.int .u64 a', .int .u64 b', .int .u64 c', .int .u64 d'])).run Tryd.prog w = .ok (.bool (a == a' && b == b' && c == c' && d == d')) w := by
  obtain ⟨i, hi⟩ : ∃ i, Tryd.prog.info? 35 = some i := by
    have := set_info
    cases h : Tryd.prog.info? 35 with
    | none => simp [h] at this
    | some i => exact ⟨i, rfl⟩
  have e : (Op.equalIn 10000 37 (.agg #[.int .u64 a, .int .u64 b, .int .u64 c, .int .u64 d]) (.agg #[.int .u64 a', .int .u64 b', .int .u64 c', .int .u64 d'])).run Tryd.prog w = .ok (a == a' && b == b' && c == c' && d == d') w := by
    rw [run_equalIn_array w 9999 _ _ set_under hi, set_cells]
    have r4 : List.range 4 = [0, 1, 2, 3] := rfl
    rw [r4]
    simp only [Op.eqItems, Sem.run_bind, Nat.mul_one, set_part0, set_part1, set_part2, set_part3, set_word, Result.andThen_ok, Sem.run_ite, Sem.run_pure]
    generalize (a == a') = ra, (b == b') = rb, (c == c') = rc, (d == d') = rd
    cases ra <;> cases rb <;> cases rc <;> cases rd <;> rfl
  simp only [binOp]
  simp [Op.equal, Op.maxDepth, e]
theorem set_eq (s t : BitVec 256) (w : World) : (binOp .eql 37 (.agg #[.int .u64 (P.wrd s 0), .int .u64 (P.wrd s 1), .int .u64 (P.wrd s 2), .int .u64 (P.wrd s 3)]) (.agg #[.int .u64 (P.wrd t 0), .int .u64 (P.wrd t 1), .int .u64 (P.wrd t 2), .int .u64 (P.wrd t 3)])).run Tryd.prog w = .ok (.bool (decide (s = t))) w := by
  rw [set_eq4]
  congr 2
  apply Bool.eq_iff_iff.2
  simp only [Bool.and_eq_true, beq_iff_eq, decide_eq_true_iff]
  exact ⟨fun h => P.wrd_eq4 h.1.1.1 h.1.1.2 h.1.2 h.2, fun h => by subst h; exact ⟨⟨⟨rfl, rfl⟩, rfl⟩, rfl⟩⟩

theorem row_info : (Tryd.prog.info? 35).map (fun i => (i.size)) = some 1 := by kernel_rfl
theorem row_under : Tryd.prog.underlying 36 = some (.array 4 35) := by kernel_rfl
theorem row_cells : Tryd.prog.cellsOf 35 = 1 := by kernel_rfl
theorem row_part0 (x0 x1 x2 x3 : Value) (w : World) : (part 35 #[x0, x1, x2, x3] 0).run Tryd.prog w = .ok x0 w := by kernel_rfl
theorem row_part1 (x0 x1 x2 x3 : Value) (w : World) : (part 35 #[x0, x1, x2, x3] 1).run Tryd.prog w = .ok x1 w := by kernel_rfl
theorem row_part2 (x0 x1 x2 x3 : Value) (w : World) : (part 35 #[x0, x1, x2, x3] 2).run Tryd.prog w = .ok x2 w := by kernel_rfl
theorem row_part3 (x0 x1 x2 x3 : Value) (w : World) : (part 35 #[x0, x1, x2, x3] 3).run Tryd.prog w = .ok x3 w := by kernel_rfl
theorem row_worde (e : Nat) (x y : Int) (w : World) : (Op.equalIn (e + 1) 35 (.int .u64 x) (.int .u64 y)).run Tryd.prog w = .ok (x == y) w := by
  simp [Op.equalIn, run_underlying Tryd.underlying35]
theorem row_word (x y : Int) (w : World) : (Op.equalIn 9999 35 (.int .u64 x) (.int .u64 y)).run Tryd.prog w = .ok (x == y) w := row_worde 9998 x y w
theorem row_eq4 (a b c d a' b' c' d' : Int) (w : World) : (binOp .eql 36 (.agg #[.int .u64 a, .int .u64 b, .int .u64 c, .int .u64 d]) (.agg #[.int .u64 a', .int .u64 b', .int .u64 c', .int .u64 d'])).run Tryd.prog w = .ok (.bool (a == a' && b == b' && c == c' && d == d')) w := by
  obtain ⟨i, hi⟩ : ∃ i, Tryd.prog.info? 35 = some i := by
    have := row_info
    cases h : Tryd.prog.info? 35 with
    | none => simp [h] at this
    | some i => exact ⟨i, rfl⟩
  have e : (Op.equalIn 10000 36 (.agg #[.int .u64 a, .int .u64 b, .int .u64 c, .int .u64 d]) (.agg #[.int .u64 a', .int .u64 b', .int .u64 c', .int .u64 d'])).run Tryd.prog w = .ok (a == a' && b == b' && c == c' && d == d') w := by
    rw [run_equalIn_array w 9999 _ _ row_under hi, row_cells]
    have r4 : List.range 4 = [0, 1, 2, 3] := rfl
    rw [r4]
    simp only [Op.eqItems, Sem.run_bind, Nat.mul_one, row_part0, row_part1, row_part2, row_part3, row_word, Result.andThen_ok, Sem.run_ite, Sem.run_pure]
    generalize (a == a') = ra, (b == b') = rb, (c == c') = rc, (d == d') = rd
    cases ra <;> cases rb <;> cases rc <;> cases rd <;> rfl
  simp only [binOp]
  simp [Op.equal, Op.maxDepth, e]
theorem row_eq (s t : BitVec 256) (w : World) : (binOp .eql 36 (.agg #[.int .u64 (P.wrd s 0), .int .u64 (P.wrd s 1), .int .u64 (P.wrd s 2), .int .u64 (P.wrd s 3)]) (.agg #[.int .u64 (P.wrd t 0), .int .u64 (P.wrd t 1), .int .u64 (P.wrd t 2), .int .u64 (P.wrd t 3)])).run Tryd.prog w = .ok (.bool (decide (s = t))) w := by
  rw [row_eq4]
  congr 2
  apply Bool.eq_iff_iff.2
  simp only [Bool.and_eq_true, beq_iff_eq, decide_eq_true_iff]
  exact ⟨fun h => P.wrd_eq4 h.1.1.1 h.1.1.2 h.1.2 h.2, fun h => by subst h; exact ⟨⟨⟨rfl, rfl⟩, rfl⟩, rfl⟩⟩
end W
end Go.Proofs.YtghdjkpndhcplaaDoor
