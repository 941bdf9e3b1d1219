/- The document's set of the first numbers, and of a list's. -/
import Derived.Test.YtoopjgajpooehaaDoorRef
import Derived.Test.YtoopjgajpooehaaDoorRow
namespace Go.Proofs.YtoopjgajpooehaaDoor
open Go.RowKit Go.Sort
namespace W

theorem mix_full {n : Int} {k : Nat} (h : n ≤ (k : Int)) : P.mix (P.full n) 0#256 k = P.full n := by
  apply BitVec.eq_of_getLsbD_eq
  intro i hi
  rw [P.getLsbD_mix _ _ _ _ hi, P.getLsbD_full, BitVec.getLsbD_zero]
  by_cases e : i < k
  · rw [if_pos e]
  · rw [if_neg e]; simp; omega
set_option maxRecDepth 100000 in
set_option maxHeartbeats 2000000 in
theorem rfull_any (n : Int) (w : World) :
    Calls Tryd.prog 17 #[.int .i64 n] w fun e w' => e = .returned (.agg (P.truths (P.full n))) ∧ Below w.heap.size w w' := by
  have hz := fun w => zero_ref w
  go_enter Tryd.func17, Tryd.ntmps17
  go_wp2_with fail
  go_loopw [4] (fun i wr => ∃ k : Nat, k ≤ 256 ∧ i = .int .i64 k ∧ Tr wr w.heap.size 0#256 ∧ Tr wr (w.heap.size + 1) (P.mix (P.full n) 0#256 k) ∧ Below w.heap.size w wr) (fun i _ => 256 - (intOf i).toNat)
  case atStart =>
    refine ⟨0, by decide, rfl, (Tr.new w 0#256).on ((Below.refl _ _).alloc (Nat.le_refl _) _), ?_, ((Below.refl _ _).alloc (Nat.le_refl _) _).alloc (by simp) _⟩
    rw [P.mix_zero]
    have h := Tr.new (w.alloc (.cells (P.truths 0#256) 32)) 0#256
    simpa using h
  case round =>
    obtain ⟨k, hk, rfl, ha, hb, hw⟩ := hrel
    have HA := Lib.hid ha
    have HB := Lib.hid hb
    have HW := Lib.hid hw
    clear ha hb hw
    have hk0 : (0 : Int) ≤ (k : Int) := Int.natCast_nonneg _
    rcases (by omega : (k < 256 ∧ (k : Int) < n) ∨ (k < 256 ∧ ¬ (k : Int) < n) ∨ k = 256) with ⟨hlt, hn⟩ | ⟨hlt, hn⟩ | hlt
    · have hk1 : (k : Int) < 256 := by omega
      have HF := Lib.hid (P.truths_set (P.full n) 0#256 k hlt true (by rw [P.getLsbD_full]; simp [hlt, hn]))
      have hf := HB.out.free k
      have hcell := HB.out.cell k hlt
      go_wp2_with fail
      go_roundw
      case rel => exact ⟨k + 1, by omega, by go_num, HA.out.setOther (by simp) _, HB.out.set k _ _ HF.out, HW.out.setCell (by show w.heap.size ≤ w.heap.size + 1; omega) _⟩
      case measure => simp [intOf]; omega
    · have hk1 : (k : Int) < 256 := by omega
      have hn2 : decide ((k : Int) < n) = false := decide_eq_false hn
      have hm := mix_full (n := n) (k := k) (by omega)
      have HB' := Lib.hid (hm ▸ HB.out : Tr wr (w.heap.size + 1) (P.full n))
      clear hm hn
      go_upto_region 6 with (fail)
      go_wp2_with (first | (refine wpList_load_row (o := ⟨some 16, _, _, _, _, _⟩) rfl 32 (.tmp 3) rfl (w.heap.size + 1) rfl 32 (P.truths (P.full n)) (0, 0) (.array 256 4) ?c1 ref_under rfl (ref_size _) ?_) | (refine wpList_store_row (o := ⟨none, _, _, _, _, _⟩) rfl 32 (.tmp 2) (.tmp 16) rfl (w.heap.size) (P.truths (P.full n)) rfl rfl 32 (P.truths 0#256) ?c2 (ref_size _) (truths_both _ _) (truths_one _) ?_))
      case c1 => exact HB'.out
      case c2 => exact HA.out
      refine bodyPost_ret (v := .agg (P.truths (P.full n))) (results_cell_row Tryd.results17 _ _ w.heap.size 32 _ (0, 0) _ rfl (HA.out.row (P.full n)) ref_under rfl (ref_size _)) rfl ⟨rfl, ?_⟩
      exact below_setRow HW.out (Nat.le_refl _) _
    · subst hlt
      have hm := P.mix_all (P.full n) 0#256
      have HB' := Lib.hid (hm ▸ HB.out : Tr wr (w.heap.size + 1) (P.full n))
      clear hm
      go_upto_region 6 with (fail)
      go_wp2_with (first | (refine wpList_load_row (o := ⟨some 16, _, _, _, _, _⟩) rfl 32 (.tmp 3) rfl (w.heap.size + 1) rfl 32 (P.truths (P.full n)) (0, 0) (.array 256 4) ?c1 ref_under rfl (ref_size _) ?_) | (refine wpList_store_row (o := ⟨none, _, _, _, _, _⟩) rfl 32 (.tmp 2) (.tmp 16) rfl (w.heap.size) (P.truths (P.full n)) rfl rfl 32 (P.truths 0#256) ?c2 (ref_size _) (truths_both _ _) (truths_one _) ?_))
      case c1 => exact HB'.out
      case c2 => exact HA.out
      refine bodyPost_ret (v := .agg (P.truths (P.full n))) (results_cell_row Tryd.results17 _ _ w.heap.size 32 _ (0, 0) _ rfl (HA.out.row (P.full n)) ref_under rfl (ref_size _)) rfl ⟨rfl, ?_⟩
      exact below_setRow HW.out (Nat.le_refl _) _
end W
end Go.Proofs.YtoopjgajpooehaaDoor
