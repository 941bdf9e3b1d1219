/- The document's or, and, and-not of two sets. -/
import Derived.Test.YtoopjgajpooehaaDoorRef
namespace Go.Proofs.YtoopjgajpooehaaDoor
open Go.RowKit Go.Sort
namespace W

set_option maxRecDepth 100000 in
set_option maxHeartbeats 2000000 in
theorem ref_or (s t : BitVec 256) (w : World) :
    Calls Tryd.prog 34 #[.agg (P.truths s), .agg (P.truths t)] w fun e w' => e = .returned (.agg (P.truths (s ||| t))) ∧ Below w.heap.size w w' := by
  have hz := fun w => zero_ref w
  go_enter Tryd.func34, Tryd.ntmps34
  go_wp2_with fail
  go_loopw [5] (fun i wr => ∃ k : Nat, k ≤ 256 ∧ i = .int .i64 k ∧ Tr wr w.heap.size (P.mix (s ||| t) s k) ∧ Tr wr (w.heap.size + 1) t ∧ Tr wr (w.heap.size + 1 + 1) 0#256 ∧ Below w.heap.size w wr) (fun i _ => 256 - (intOf i).toNat)
  case atStart =>
    refine ⟨0, by decide, rfl, ?_, ?_, ?_, (((Below.refl _ _).alloc (Nat.le_refl _) _).alloc (by simp) _).alloc (by simp <;> omega) _⟩
    · rw [P.mix_zero]
      exact (((Tr.new w s).on ((Below.refl _ _).alloc (Nat.le_refl _) _)).on ((Below.refl _ _).alloc (Nat.le_refl _) _))
    · have h := (Tr.new (w.alloc (.cells (P.truths s) 32)) t).on ((Below.refl _ _).alloc (Nat.le_refl _) (.cells (P.truths 0#256) 32))
      simpa using h
    · have h := Tr.new ((w.alloc (.cells (P.truths s) 32)).alloc (.cells (P.truths t) 32)) 0#256
      simpa using h
  case round =>
    obtain ⟨k, hk, rfl, ha, hb, hc, hw⟩ := hrel
    have HA := Lib.hid ha
    have HB := Lib.hid hb
    have HC := Lib.hid hc
    have HW := Lib.hid hw
    clear ha hb hc hw
    by_cases hlt : k < 256
    · have hcell : wr.cell? ⟨w.heap.size, k, none⟩ = some (.bool (s.getLsbD k)) := by
        rw [HA.out.cell k hlt, P.getLsbD_mix _ _ _ _ hlt, if_neg (Nat.lt_irrefl _)]
      have hcb := HB.out.cell k hlt
      have hf := HA.out.free k
      have hk0 : (0 : Int) ≤ (k : Int) := Int.natCast_nonneg _
      have hk1 : (k : Int) < 256 := by omega
      rcases Bool.eq_false_or_eq_true (s.getLsbD k) with hs | hs
      · have hc : wr.cell? ⟨w.heap.size, k, none⟩ = some (.bool true) := hcell.trans (by rw [hs])
        have HF := Lib.hid (P.truths_set (s ||| t) s k hlt true (by rw [BitVec.getLsbD_or, hs]; rfl))
        clear hcell hs
        go_wp2_with fail
        go_roundw
        case rel => exact ⟨k + 1, by omega, by go_num, HA.out.set k _ _ HF.out, HB.out.setOther (by simp) _, HC.out.setOther (by simp <;> omega) _, HW.out.setCell (Nat.le_refl _) _⟩
        case measure => simp [intOf]; omega
      · have hc : wr.cell? ⟨w.heap.size, k, none⟩ = some (.bool false) := hcell.trans (by rw [hs])
        have HF := Lib.hid (P.truths_set (s ||| t) s k hlt (t.getLsbD k) (by rw [BitVec.getLsbD_or, hs]; rfl))
        clear hcell hs
        go_wp2_with fail
        go_roundw
        case rel => exact ⟨k + 1, by omega, by go_num, HA.out.set k _ _ HF.out, HB.out.setOther (by simp) _, HC.out.setOther (by simp <;> omega) _, HW.out.setCell (Nat.le_refl _) _⟩
        case measure => simp [intOf]; omega
    · obtain rfl : k = 256 := by omega
      have hm := P.mix_all (s ||| t) s
      have HA' := Lib.hid (hm ▸ HA.out : Tr wr w.heap.size (s ||| t))
      clear hm
      go_upto_region 5 with (fail)
      go_wp2_with (first | (refine wpList_load_row (o := ⟨some 20, _, _, _, _, _⟩) rfl 32 (.tmp 2) rfl (w.heap.size) rfl 32 (P.truths (s ||| t)) (0, 0) (.array 256 4) ?c1 ref_under rfl (ref_size _) ?_) | (refine wpList_store_row (o := ⟨none, _, _, _, _, _⟩) rfl 32 (.tmp 4) (.tmp 20) rfl (w.heap.size + 1 + 1) (P.truths (s ||| t)) rfl rfl 32 (P.truths 0#256) ?c2 (ref_size _) (truths_both _ _) (truths_one _) ?_))
      case c1 => exact HA'.out
      case c2 => exact HC.out
      refine bodyPost_ret (v := .agg (P.truths (s ||| t))) (results_cell_row Tryd.results34 _ _ (w.heap.size + 1 + 1) 32 _ (0, 0) _ rfl (HC.out.row (s ||| t)) ref_under rfl (ref_size _)) rfl ⟨rfl, ?_⟩
      exact below_setRow HW.out (by omega) _
end W
end Go.Proofs.YtoopjgajpooehaaDoor
