/- The document's set of four words. -/
import Derived.Test.YtlbikfimfaecnaaDoorRef
namespace Go.Proofs.YtlbikfimfaecnaaDoor
open Go.RowKit Go.Sort
theorem P.has_word_two (s : BitVec 256) (k j : Nat) (hk : (k : Int) / 64 = (j : Int)) : ((P.wrd s j / 2 ^ (k % 64)).tmod 2 == 1) = s.getLsbD k := by
  have hm2 : k = 64 * j + k % 64 := by omega
  unfold P.wrd
  have e : (((s.extractLsb' (64 * j) 64).toNat : Int) / 2 ^ (k % 64)) = (((s.extractLsb' (64 * j) 64).toNat / 2 ^ (k % 64) : Nat) : Int) := by simp
  rw [e, Int.tmod_eq_emod_of_nonneg (Int.natCast_nonneg _)]
  have e3 : (s.extractLsb' (64 * j) 64).getLsbD (k % 64) = s.getLsbD k := by
    rw [BitVec.getLsbD_extractLsb']
    have : k % 64 < 64 := by omega
    rw [← hm2]
    simp [this]
  have e4 : (s.extractLsb' (64 * j) 64).getLsbD (k % 64) = ((s.extractLsb' (64 * j) 64).toNat).testBit (k % 64) := rfl
  rw [← e3, e4, Nat.testBit_eq_decide_div_mod_eq]
  generalize (s.extractLsb' (64 * j) 64).toNat / 2 ^ (k % 64) = q
  apply Bool.eq_iff_iff.2
  rw [beq_iff_eq, decide_eq_true_iff]
  omega
namespace W

theorem Blk.setOther {w : World} {b : Nat} {s : BitVec 256} {t : TypeId} (h : Blk w b s t) {a : Addr} (ha : b ≠ a.block) (v : Value) : Blk (w.setCell a v) b s t := by
  unfold Blk
  rw [heap_setCell_other w a b v ha]
  exact h
theorem zero_row (w : World) : (zeroValue 35).run Tryd.prog w = .ok (.agg #[.int .u64 0, .int .u64 0, .int .u64 0, .int .u64 0]) w := by kernel_rfl
set_option maxRecDepth 100000 in
set_option maxHeartbeats 2000000 in
theorem from_any (s : BitVec 256) (w : World) :
    Calls Tryd.prog 21 #[.agg #[.int .u64 (P.wrd s 0), .int .u64 (P.wrd s 1), .int .u64 (P.wrd s 2), .int .u64 (P.wrd s 3)]] w fun e w' => e = .returned (.agg (P.truths s)) ∧ Below w.heap.size w w' := by
  have hz := fun w => zero_ref w
  go_enter Tryd.func21, Tryd.ntmps21
  go_wp2_with fail
  go_loopw [4] (fun i wr => ∃ k : Nat, k ≤ 256 ∧ i = .int .i64 k ∧ Blk wr w.heap.size s 35 ∧ Tr wr (w.heap.size + 1) 0#256 ∧ Tr wr (w.heap.size + 1 + 1) (P.mix s 0#256 k) ∧ Below w.heap.size w wr) (fun i _ => 256 - (intOf i).toNat)
  case atStart =>
    refine ⟨0, by decide, rfl, ?_, ?_, ?_, (((Below.refl _ _).alloc (Nat.le_refl _) _).alloc (by simp) _).alloc (by simp <;> omega) _⟩
    · exact (((Blk.new w s 35).on ((Below.refl _ _).alloc (Nat.le_refl _) _)).on ((Below.refl _ _).alloc (Nat.le_refl _) _))
    · have h := (Tr.new (w.alloc (.cells #[.int .u64 (P.wrd s 0), .int .u64 (P.wrd s 1), .int .u64 (P.wrd s 2), .int .u64 (P.wrd s 3)] 35)) 0#256).on ((Below.refl _ _).alloc (Nat.le_refl _) (.cells (P.truths 0#256) 37))
      simpa using h
    · rw [P.mix_zero]
      have h := Tr.new ((w.alloc (.cells #[.int .u64 (P.wrd s 0), .int .u64 (P.wrd s 1), .int .u64 (P.wrd s 2), .int .u64 (P.wrd s 3)] 35)).alloc (.cells (P.truths 0#256) 37)) 0#256
      simpa using h
  case round =>
    obtain ⟨k, hk, rfl, ha, hb, hc, hw⟩ := hrel
    have HA := Lib.hid ha
    have HB := Lib.hid hb
    have HC := Lib.hid hc
    have HW := Lib.hid hw
    clear ha hb hc hw
    by_cases hlt : k < 256
    · have hcell := HC.out.cell k hlt
      have hf := HC.out.free k
      have hk0 : (0 : Int) ≤ (k : Int) := Int.natCast_nonneg _
      have hk1 : (k : Int) < 256 := by omega
      have hq0 : (0 : Int) ≤ (k : Int) % 64 := by omega
      have hq1 : (k : Int) % 64 < 64 := by omega
      have HF := Lib.hid (P.truths_set s 0#256 k hlt (s.getLsbD k) rfl)
      clear hcell
      have hcell := HC.out.cell k hlt
      rcases (by omega : (k : Int) / 64 = 0 ∨ (k : Int) / 64 = 1 ∨ (k : Int) / 64 = 2 ∨ (k : Int) / 64 = 3) with hq | hq | hq | hq
      · have g0 := HA.out.c0
        have hv := P.has_word_two s k 0 hq
        have hb0 := (P.wrd_bd s 0).1
        go_wp2_with fail
        go_roundw
        case rel => exact ⟨k + 1, by omega, by go_num, HA.out.setOther (by simp <;> omega) _, HB.out.setOther (by simp) _, HC.out.set k _ _ HF.out, HW.out.setCell (by show w.heap.size ≤ w.heap.size + 1 + 1; omega) _⟩
        case measure => simp [intOf]; omega
      · have g0 := HA.out.c1
        have hv := P.has_word_two s k 1 hq
        have hb0 := (P.wrd_bd s 1).1
        go_wp2_with fail
        go_roundw
        case rel => exact ⟨k + 1, by omega, by go_num, HA.out.setOther (by simp <;> omega) _, HB.out.setOther (by simp) _, HC.out.set k _ _ HF.out, HW.out.setCell (by show w.heap.size ≤ w.heap.size + 1 + 1; omega) _⟩
        case measure => simp [intOf]; omega
      · have g0 := HA.out.c2
        have hv := P.has_word_two s k 2 hq
        have hb0 := (P.wrd_bd s 2).1
        go_wp2_with fail
        go_roundw
        case rel => exact ⟨k + 1, by omega, by go_num, HA.out.setOther (by simp <;> omega) _, HB.out.setOther (by simp) _, HC.out.set k _ _ HF.out, HW.out.setCell (by show w.heap.size ≤ w.heap.size + 1 + 1; omega) _⟩
        case measure => simp [intOf]; omega
      · have g0 := HA.out.c3
        have hv := P.has_word_two s k 3 hq
        have hb0 := (P.wrd_bd s 3).1
        go_wp2_with fail
        go_roundw
        case rel => exact ⟨k + 1, by omega, by go_num, HA.out.setOther (by simp <;> omega) _, HB.out.setOther (by simp) _, HC.out.set k _ _ HF.out, HW.out.setCell (by show w.heap.size ≤ w.heap.size + 1 + 1; omega) _⟩
        case measure => simp [intOf]; omega
    · obtain rfl : k = 256 := by omega
      have hm := P.mix_all s 0#256
      have HC' := Lib.hid (hm ▸ HC.out : Tr wr (w.heap.size + 1 + 1) s)
      clear hm
      go_upto_region 6 with (fail)
      go_wp2_with (first | (refine wpList_load_row (o := ⟨some 21, _, _, _, _, _⟩) rfl 37 (.tmp 3) rfl (w.heap.size + 1 + 1) rfl 37 (P.truths s) (0, 0) (.array 256 4) ?c1 ref_under rfl (ref_size _) ?_) | (refine wpList_store_row (o := ⟨none, _, _, _, _, _⟩) rfl 37 (.tmp 2) (.tmp 21) rfl (w.heap.size + 1) (P.truths s) rfl rfl 37 (P.truths 0#256) ?c2 (ref_size _) (truths_both _ _) (truths_one _) ?_))
      case c1 => exact HC'.out
      case c2 => exact HB.out
      refine bodyPost_ret (v := .agg (P.truths s)) (results_cell_row Tryd.results21 _ _ (w.heap.size + 1) 37 _ (0, 0) _ rfl (HB.out.row s) ref_under rfl (ref_size _)) rfl ⟨rfl, ?_⟩
      exact below_setRow HW.out (by omega) _
end W
end Go.Proofs.YtlbikfimfaecnaaDoor
