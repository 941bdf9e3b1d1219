/- One number put into the document's set, or taken out. -/
import Derived.Test.YtoopjgajpooehaaDoorRef
namespace Go.Proofs.YtoopjgajpooehaaDoor
open Go.RowKit Go.Sort
namespace W

set_option maxRecDepth 100000 in
set_option maxHeartbeats 2000000 in
theorem put_true (s : BitVec 256) (n : Nat) (hn : n < 256) (w : World) :
    Calls Tryd.prog 31 #[.agg (P.truths s), .int .i64 (n : Int), .bool true] w fun e w' => e = .returned (.agg (P.truths (s ||| P.bit (n : Int)))) ∧ Below w.heap.size w w' := by
  have hp := P.truths_put s n hn true (s ||| P.bit (n : Int)) (P.put_true s n hn)
  have hz := fun w => zero_ref w
  have ht := P.truths_at s n hn
  have h0 : (0 : Int) ≤ (n : Int) := Int.natCast_nonneg _
  have h1 : (n : Int) < 256 := by omega
  go_enter Tryd.func31, Tryd.ntmps31
  go_upto_region 3 with (fail)
  go_wp2_with (first | (refine wpList_load_row (o := ⟨some 16, _, _, _, _, _⟩) rfl 32 (.tmp 3) rfl (w.heap.size) rfl 32 (P.truths (s ||| P.bit (n : Int))) (0, 0) (.array 256 4) ?c1 ref_under rfl (ref_size _) ?_) | (refine wpList_store_row (o := ⟨none, _, _, _, _, _⟩) rfl 32 (.tmp 6) (.tmp 16) rfl (w.heap.size + 1) (P.truths (s ||| P.bit (n : Int))) rfl rfl 32 (P.truths 0#256) ?c2 (ref_size _) (truths_both _ _) (truths_one _) ?_))
  case c1 => exact heap_alloc2_old w _ _
  case c2 => exact heap_alloc2_new w _ _
  refine bodyPost_ret (v := .agg (P.truths (s ||| P.bit (n : Int)))) (results_cell_row Tryd.results31 _ _ (w.heap.size + 1) 32 _ (0, 0) _ rfl (setRow_heap _ _ _ _ _ _ (heap_alloc2_new w _ _)) ref_under rfl (ref_size _)) rfl ⟨rfl, ?_⟩
  exact below_setRow (((Below.refl _ _).alloc (Nat.le_refl _) _).alloc (by simp) _) (Nat.le_succ _) _

set_option maxRecDepth 100000 in
set_option maxHeartbeats 2000000 in
theorem put_false (s : BitVec 256) (n : Nat) (hn : n < 256) (w : World) :
    Calls Tryd.prog 31 #[.agg (P.truths s), .int .i64 (n : Int), .bool false] w fun e w' => e = .returned (.agg (P.truths (s &&& ~~~P.bit (n : Int)))) ∧ Below w.heap.size w w' := by
  have hp := P.truths_put s n hn false (s &&& ~~~P.bit (n : Int)) (P.put_false s n hn)
  have hz := fun w => zero_ref w
  have ht := P.truths_at s n hn
  have h0 : (0 : Int) ≤ (n : Int) := Int.natCast_nonneg _
  have h1 : (n : Int) < 256 := by omega
  go_enter Tryd.func31, Tryd.ntmps31
  go_upto_region 3 with (fail)
  go_wp2_with (first | (refine wpList_load_row (o := ⟨some 16, _, _, _, _, _⟩) rfl 32 (.tmp 3) rfl (w.heap.size) rfl 32 (P.truths (s &&& ~~~P.bit (n : Int))) (0, 0) (.array 256 4) ?c1 ref_under rfl (ref_size _) ?_) | (refine wpList_store_row (o := ⟨none, _, _, _, _, _⟩) rfl 32 (.tmp 6) (.tmp 16) rfl (w.heap.size + 1) (P.truths (s &&& ~~~P.bit (n : Int))) rfl rfl 32 (P.truths 0#256) ?c2 (ref_size _) (truths_both _ _) (truths_one _) ?_))
  case c1 => exact heap_alloc2_old w _ _
  case c2 => exact heap_alloc2_new w _ _
  refine bodyPost_ret (v := .agg (P.truths (s &&& ~~~P.bit (n : Int)))) (results_cell_row Tryd.results31 _ _ (w.heap.size + 1) 32 _ (0, 0) _ rfl (setRow_heap _ _ _ _ _ _ (heap_alloc2_new w _ _)) ref_under rfl (ref_size _)) rfl ⟨rfl, ?_⟩
  exact below_setRow (((Below.refl _ _).alloc (Nat.le_refl _) _).alloc (by simp) _) (Nat.le_succ _) _

set_option maxRecDepth 100000 in
set_option maxHeartbeats 2000000 in
theorem put_low (s : BitVec 256) (n : Int) (b : Bool) (h : n < 0) (w : World) :
    Calls Tryd.prog 31 #[.agg (P.truths s), .int .i64 n, .bool b] w fun e w' => e = .returned (.agg (P.truths s)) ∧ Below w.heap.size w w' := by
  have hz := fun w => zero_ref w
  have hn : ¬ 0 ≤ n := by omega
  have G1 := Lib.hid (heap_alloc2_old w (.cells (P.truths s) 32) (.cells (P.truths 0#256) 32))
  have G2 := Lib.hid (heap_alloc2_new w (.cells (P.truths s) 32) (.cells (P.truths 0#256) 32))
  go_enter Tryd.func31, Tryd.ntmps31
  go_upto_region 3 with (fail)
  go_wp2_with (first | (refine wpList_load_row (o := ⟨some 16, _, _, _, _, _⟩) rfl 32 (.tmp 3) rfl (w.heap.size) rfl 32 (P.truths s) (0, 0) (.array 256 4) G1.out ref_under rfl (ref_size _) ?_) | (refine wpList_store_row (o := ⟨none, _, _, _, _, _⟩) rfl 32 (.tmp 6) (.tmp 16) rfl (w.heap.size + 1) (P.truths s) rfl rfl 32 (P.truths 0#256) G2.out (ref_size _) (truths_both _ _) (truths_one _) ?_))
  refine bodyPost_ret (v := .agg (P.truths s)) (results_cell_row Tryd.results31 _ _ (w.heap.size + 1) 32 _ (0, 0) _ rfl (setRow_heap _ _ _ _ _ _ (heap_alloc2_new w _ _)) ref_under rfl (ref_size _)) rfl ⟨rfl, ?_⟩
  exact below_setRow (((Below.refl _ _).alloc (Nat.le_refl _) _).alloc (by simp) _) (Nat.le_succ _) _

set_option maxRecDepth 100000 in
set_option maxHeartbeats 2000000 in
theorem put_high (s : BitVec 256) (n : Int) (b : Bool) (h0 : 0 ≤ n) (h : 256 ≤ n) (w : World) :
    Calls Tryd.prog 31 #[.agg (P.truths s), .int .i64 n, .bool b] w fun e w' => e = .returned (.agg (P.truths s)) ∧ Below w.heap.size w w' := by
  have hz := fun w => zero_ref w
  have hn : ¬ n < 256 := by omega
  have G1 := Lib.hid (heap_alloc2_old w (.cells (P.truths s) 32) (.cells (P.truths 0#256) 32))
  have G2 := Lib.hid (heap_alloc2_new w (.cells (P.truths s) 32) (.cells (P.truths 0#256) 32))
  go_enter Tryd.func31, Tryd.ntmps31
  go_upto_region 3 with (fail)
  go_wp2_with (first | (refine wpList_load_row (o := ⟨some 16, _, _, _, _, _⟩) rfl 32 (.tmp 3) rfl (w.heap.size) rfl 32 (P.truths s) (0, 0) (.array 256 4) G1.out ref_under rfl (ref_size _) ?_) | (refine wpList_store_row (o := ⟨none, _, _, _, _, _⟩) rfl 32 (.tmp 6) (.tmp 16) rfl (w.heap.size + 1) (P.truths s) rfl rfl 32 (P.truths 0#256) G2.out (ref_size _) (truths_both _ _) (truths_one _) ?_))
  refine bodyPost_ret (v := .agg (P.truths s)) (results_cell_row Tryd.results31 _ _ (w.heap.size + 1) 32 _ (0, 0) _ rfl (setRow_heap _ _ _ _ _ _ (heap_alloc2_new w _ _)) ref_under rfl (ref_size _)) rfl ⟨rfl, ?_⟩
  exact below_setRow (((Below.refl _ _).alloc (Nat.le_refl _) _).alloc (by simp) _) (Nat.le_succ _) _

theorem put_in (s : BitVec 256) (n : Int) (w : World) :
    Calls Tryd.prog 31 #[.agg (P.truths s), .int .i64 n, .bool true] w fun e w' => e = .returned (.agg (P.truths (s ||| P.bit n))) ∧ Below w.heap.size w w' := by
  rcases (by omega : n < 0 ∨ (0 ≤ n ∧ n < 256) ∨ (0 ≤ n ∧ 256 ≤ n)) with h | h | h
  · rw [P.with_bit_out s (by omega)]; exact put_low s n true h w
  · obtain ⟨k, rfl⟩ := Int.eq_ofNat_of_zero_le h.1
    exact put_true s k (by omega) w
  · rw [P.with_bit_out s (by omega)]; exact put_high s n true h.1 h.2 w
theorem put_out (s : BitVec 256) (n : Int) (w : World) :
    Calls Tryd.prog 31 #[.agg (P.truths s), .int .i64 n, .bool false] w fun e w' => e = .returned (.agg (P.truths (s &&& ~~~P.bit n))) ∧ Below w.heap.size w w' := by
  rcases (by omega : n < 0 ∨ (0 ≤ n ∧ n < 256) ∨ (0 ≤ n ∧ 256 ≤ n)) with h | h | h
  · rw [P.less_bit_out s (by omega)]; exact put_low s n false h w
  · obtain ⟨k, rfl⟩ := Int.eq_ofNat_of_zero_le h.1
    exact put_false s k (by omega) w
  · rw [P.less_bit_out s (by omega)]; exact put_high s n false h.1 h.2 w
end W
end Go.Proofs.YtoopjgajpooehaaDoor
