/- The document's set of a list's numbers. -/
import Derived.Test.YtoopjgajpooehaaDoorRef
import Derived.Test.YtoopjgajpooehaaDoorRow
namespace Go.Proofs.YtoopjgajpooehaaDoor
open Go.RowKit Go.Sort
namespace W

set_option maxRecDepth 100000 in
set_option maxHeartbeats 4000000 in
theorem rof_any {w : World} {v : Value} {zs : List Int} (h : Ints w v zs) :
    Calls Tryd.prog 18 #[v] w fun e w' => e = .returned (.agg (P.truths (P.ofL zs))) ∧ Below w.heap.size w w' := by
  have hz := fun w => zero_ref w
  obtain ⟨a, cap, rfl, hm, hc⟩ := h
  have HC := Lib.hid hc
  clear hc
  unfold maxLen at hm
  go_enter Tryd.func18, Tryd.ntmps18
  go_wp2_with fail
  go_loopw [4] (fun i wr => ∃ k : Nat, k ≤ zs.length ∧ i = .int .i64 k ∧ Tr wr w.heap.size 0#256 ∧ Tr wr (w.heap.size + 1) (P.ofL (zs.take k)) ∧ Below w.heap.size w wr) (fun i _ => zs.length - (intOf i).toNat)
  case atStart =>
    refine ⟨0, Nat.zero_le _, rfl, (Tr.new w 0#256).on ((Below.refl _ _).alloc (Nat.le_refl _) _), ?_, ((Below.refl _ _).alloc (Nat.le_refl _) _).alloc (by simp) _⟩
    rw [List.take_zero, P.ofL_nil]
    have h := Tr.new (w.alloc (.cells (P.truths 0#256) 32)) 0#256
    simpa using h
  case round =>
    obtain ⟨k, hk, rfl, ha, hb, hw⟩ := hrel
    have HA := Lib.hid ha
    have HB := Lib.hid hb
    have HW := Lib.hid hw
    clear ha hb hw
    have hk0 : (0 : Int) ≤ (k : Int) := Int.natCast_nonneg _
    by_cases hkl : k < zs.length
    · obtain ⟨b, off, ha, hbz, HCC⟩ : ∃ b off, a = some ⟨b, off, none⟩ ∧ b < w.heap.size ∧ Hid (∀ j, j < zs.length → w.cell? ⟨b, off + j, none⟩ = some (.int .i64 (zs.getD j 0))) := by
        rcases HC.out with h0 | ⟨b, off, h1, h2, h3⟩
        · omega
        · exact ⟨b, off, h1, h2, Lib.hid h3⟩
      subst ha
      obtain ⟨x, hx⟩ : ∃ x, zs.getD k 0 = x := ⟨_, rfl⟩
      have g0 : wr.cell? ⟨b, off + k, none⟩ = some (.int .i64 x) := (HW.out.cell (p := ⟨b, off + k, none⟩) hbz).trans ((HCC.out k hkl).trans (by rw [hx]))
      have HT := Lib.hid (show P.ofL (zs.take (k + 1)) = P.ofL (zs.take k) ||| P.bit x by rw [P.take_snoc zs k hkl, P.ofL_snoc, hx])
      clear hx
      rcases (by omega : x < 0 ∨ (0 ≤ x ∧ ¬ x < 256) ∨ (0 ≤ x ∧ x < 256)) with h1 | ⟨h1, h2⟩ | ⟨h1, h2⟩
      · have e1 : decide (0 ≤ x) = false := by simp; omega
        have HU := Lib.hid (HT.out.trans (P.with_bit_out _ (.inl h1)))
        clear h1
        go_wp2_with fail
        go_roundw
        case rel => exact ⟨k + 1, by omega, by go_num, HA.out, by rw [HU.out]; exact HB.out, HW.out⟩
        case measure => simp [intOf]; omega
      · have e1 : decide (x < 256) = false := by simp; omega
        have HU := Lib.hid (HT.out.trans (P.with_bit_out _ (.inr (by omega))))
        clear h2
        go_wp2_with fail
        go_roundw
        case rel => exact ⟨k + 1, by omega, by go_num, HA.out, by rw [HU.out]; exact HB.out, HW.out⟩
        case measure => simp [intOf]; omega
      · obtain ⟨y, rfl⟩ := Int.eq_ofNat_of_zero_le h1
        have hy : y < 256 := by omega
        have HF := Lib.hid (P.truths_put (P.ofL (zs.take k)) y hy true _ (P.put_true _ y hy))
        have hf := HB.out.free y
        have hcell := HB.out.cell y hy
        go_wp2_with fail
        go_roundw
        case rel => exact ⟨k + 1, by omega, by go_num, HA.out.setOther (by simp) _, by rw [HT.out]; exact HB.out.set y _ _ HF.out, HW.out.setCell (by show w.heap.size ≤ w.heap.size + 1; omega) _⟩
        case measure => simp [intOf]; omega
    · obtain rfl : k = zs.length := by omega
      have hm2 : P.ofL (zs.take zs.length) = P.ofL zs := by rw [List.take_length]
      have HB' := Lib.hid (hm2 ▸ HB.out : Tr wr (w.heap.size + 1) (P.ofL zs))
      clear hm2
      go_upto_region 7 with (fail)
      go_wp2_with (first | (refine wpList_load_row (o := ⟨some 28, _, _, _, _, _⟩) rfl 32 (.tmp 3) rfl (w.heap.size + 1) rfl 32 (P.truths (P.ofL zs)) (0, 0) (.array 256 4) ?c1 ref_under rfl (ref_size _) ?_) | (refine wpList_store_row (o := ⟨none, _, _, _, _, _⟩) rfl 32 (.tmp 2) (.tmp 28) rfl (w.heap.size) (P.truths (P.ofL zs)) rfl rfl 32 (P.truths 0#256) ?c2 (ref_size _) (truths_both _ _) (truths_one _) ?_))
      case c1 => exact HB'.out
      case c2 => exact HA.out
      refine bodyPost_ret (v := .agg (P.truths (P.ofL zs))) (results_cell_row Tryd.results18 _ _ w.heap.size 32 _ (0, 0) _ rfl (HA.out.row (P.ofL zs)) ref_under rfl (ref_size _)) rfl ⟨rfl, ?_⟩
      exact below_setRow HW.out (Nat.le_refl _) _
end W
end Go.Proofs.YtoopjgajpooehaaDoor
