/- The four words of the document's set; and whether a set of the program is the document's. -/
import Derived.Test.YtlbikfimfaecnaaDoorRefFrom
import Derived.Test.YtlbikfimfaecnaaDoorEq
namespace Go.Proofs.YtlbikfimfaecnaaDoor
open Go.RowKit Go.Sort
namespace P
theorem mix_step_in (s : BitVec 256) (k : Nat) (hk : k < 256) (h : s.getLsbD k = true) : mix s 0#256 (k + 1) = mix s 0#256 k ||| bit (k : Int) := by
  apply BitVec.eq_of_getLsbD_eq
  intro i hi
  rw [BitVec.getLsbD_or, getLsbD_mix _ _ _ _ hi, getLsbD_mix _ _ _ _ hi, getLsbD_bit, BitVec.getLsbD_zero]
  by_cases e : i = k
  · subst e
    have : (i : Int) < 256 := by omega
    simp [h, this]
  · have e2 : ¬ (k : Int) = (i : Int) := by omega
    by_cases h1 : i < k
    · rw [if_pos (by omega), if_pos h1]; simp [e2]
    · rw [if_neg (by omega), if_neg h1]; simp [e2]
theorem mix_step_out (s : BitVec 256) (k : Nat) (hk : k < 256) (h : s.getLsbD k = false) : mix s 0#256 (k + 1) = mix s 0#256 k := by
  apply BitVec.eq_of_getLsbD_eq
  intro i hi
  rw [getLsbD_mix _ _ _ _ hi, getLsbD_mix _ _ _ _ hi, BitVec.getLsbD_zero]
  by_cases e : i = k
  · subst e
    simp [h]
  · by_cases h1 : i < k
    · rw [if_pos (by omega), if_pos h1]
    · rw [if_neg (by omega), if_neg h1]
/-- Where a bit is not yet there, putting it in is adding it. -/
theorem wrd_add (s : BitVec 256) (k j : Nat) (hk : k < 256) (hj : (k : Int) / 64 = (j : Int)) (h : s.getLsbD k = false) :
    IntKind.u64.wrap (wrd s j + IntKind.u64.wrap (2 ^ (k % 64))) = wrd (s ||| bit (k : Int)) j := by
  have hb := wrd_bit (k : Int) j (by omega) (by omega) hj
  have hm : ((k : Int) % 64).toNat = k % 64 := by omega
  rw [hm] at hb
  have hd : wrd s j + wrd (bit (k : Int)) j = wrd (s ||| bit (k : Int)) j := by
    rw [← wrd_or]
    unfold wrd
    have h1 := (s.extractLsb' (64 * j) 64).isLt
    have h2 := ((bit (k : Int)).extractLsb' (64 * j) 64).isLt
    rw [bits_or_u64_nat _ _ (by omega) (by omega)]
    have hdis : s.extractLsb' (64 * j) 64 &&& (bit (k : Int)).extractLsb' (64 * j) 64 = 0#64 := by
      apply BitVec.eq_of_getLsbD_eq
      intro i hi
      rw [BitVec.getLsbD_and, BitVec.getLsbD_extractLsb', BitVec.getLsbD_extractLsb', getLsbD_bit, BitVec.getLsbD_zero]
      by_cases e : k = 64 * j + i
      · rw [← e, h]; simp
      · simp
        omega
    have hadd := BitVec.add_eq_or_of_and_eq_zero _ _ hdis
    have hn := congrArg BitVec.toNat hadd
    rw [BitVec.toNat_or, BitVec.toNat_add_of_and_eq_zero hdis] at hn
    rw [← hn]
    simp
  rw [hb, hd, IntKind.wrap_u64]
  have := wrd_bd (s ||| bit (k : Int)) j
  omega
end P
namespace W
theorem Blk.set0 {w : World} {b : Nat} {s : BitVec 256} {t : TypeId} (h : Blk w b s t) (r : BitVec 256) (x : Int) (hx : x = P.wrd r 0) (h1 : P.wrd r 1 = P.wrd s 1) (h2 : P.wrd r 2 = P.wrd s 2) (h3 : P.wrd r 3 = P.wrd s 3) : Blk (w.setCell ⟨b, 0, none⟩ (.int .u64 x)) b r t := by
  unfold Blk at h ⊢
  rw [heap_setCell_same w b 0 _ t _ h, h1, h2, h3, hx]
  rfl
theorem Blk.set1 {w : World} {b : Nat} {s : BitVec 256} {t : TypeId} (h : Blk w b s t) (r : BitVec 256) (x : Int) (hx : x = P.wrd r 1) (h0 : P.wrd r 0 = P.wrd s 0) (h2 : P.wrd r 2 = P.wrd s 2) (h3 : P.wrd r 3 = P.wrd s 3) : Blk (w.setCell ⟨b, 1, none⟩ (.int .u64 x)) b r t := by
  unfold Blk at h ⊢
  rw [heap_setCell_same w b 1 _ t _ h, h0, h2, h3, hx]
  rfl
theorem Blk.set2 {w : World} {b : Nat} {s : BitVec 256} {t : TypeId} (h : Blk w b s t) (r : BitVec 256) (x : Int) (hx : x = P.wrd r 2) (h0 : P.wrd r 0 = P.wrd s 0) (h1 : P.wrd r 1 = P.wrd s 1) (h3 : P.wrd r 3 = P.wrd s 3) : Blk (w.setCell ⟨b, 2, none⟩ (.int .u64 x)) b r t := by
  unfold Blk at h ⊢
  rw [heap_setCell_same w b 2 _ t _ h, h0, h1, h3, hx]
  rfl
theorem Blk.set3 {w : World} {b : Nat} {s : BitVec 256} {t : TypeId} (h : Blk w b s t) (r : BitVec 256) (x : Int) (hx : x = P.wrd r 3) (h0 : P.wrd r 0 = P.wrd s 0) (h1 : P.wrd r 1 = P.wrd s 1) (h2 : P.wrd r 2 = P.wrd s 2) : Blk (w.setCell ⟨b, 3, none⟩ (.int .u64 x)) b r t := by
  unfold Blk at h ⊢
  rw [heap_setCell_same w b 3 _ t _ h, h0, h1, h2, hx]
  rfl
set_option maxRecDepth 100000 in
set_option maxHeartbeats 2000000 in
theorem words_any (s : BitVec 256) (w : World) :
    Calls Tryd.prog 25 #[.agg (P.truths s)] w fun e w' => e = .returned (.agg #[.int .u64 (P.wrd s 0), .int .u64 (P.wrd s 1), .int .u64 (P.wrd s 2), .int .u64 (P.wrd s 3)]) ∧ Below w.heap.size w w' := by
  have hz := fun w => zero_row w
  go_enter Tryd.func25, Tryd.ntmps25
  go_wp2_with fail
  go_loopw [4] (fun i wr => ∃ k : Nat, k ≤ 256 ∧ i = .int .i64 k ∧ Tr wr w.heap.size s ∧ Blk wr (w.heap.size + 1) 0#256 35 ∧ Blk wr (w.heap.size + 1 + 1) (P.mix s 0#256 k) 35 ∧ Below w.heap.size w wr) (fun i _ => 256 - (intOf i).toNat)
  case atStart =>
    refine ⟨0, by decide, rfl, ?_, ?_, ?_, (((Below.refl _ _).alloc (Nat.le_refl _) _).alloc (by simp) _).alloc (by simp <;> omega) _⟩
    · exact (((Tr.new w s).on ((Below.refl _ _).alloc (Nat.le_refl _) _)).on ((Below.refl _ _).alloc (Nat.le_refl _) _))
    · have h := heap_alloc2_old (w.alloc (.cells (P.truths s) 37)) (.cells #[.int .u64 0, .int .u64 0, .int .u64 0, .int .u64 0] 35) (.cells #[.int .u64 0, .int .u64 0, .int .u64 0, .int .u64 0] 35)
      exact Blk.zero (by simpa using h)
    · rw [P.mix_zero]
      have h := heap_alloc2_new (w.alloc (.cells (P.truths s) 37)) (.cells #[.int .u64 0, .int .u64 0, .int .u64 0, .int .u64 0] 35) (.cells #[.int .u64 0, .int .u64 0, .int .u64 0, .int .u64 0] 35)
      exact Blk.zero (by simpa using h)
  case round =>
    obtain ⟨k, hk, rfl, ha, hb, hc, hw⟩ := hrel
    have HA := Lib.hid ha
    have HB := Lib.hid hb
    have HC := Lib.hid hc
    have HW := Lib.hid hw
    clear ha hb hc hw
    by_cases hlt : k < 256
    · have hk0 : (0 : Int) ≤ (k : Int) := Int.natCast_nonneg _
      have hk1 : (k : Int) < 256 := by omega
      have hq0 : (0 : Int) ≤ (k : Int) % 64 := by omega
      have hq1 : (k : Int) % 64 < 64 := by omega
      rcases Bool.eq_false_or_eq_true (s.getLsbD k) with hs | hs
      · have hcell : wr.cell? ⟨w.heap.size, k, none⟩ = some (.bool true) := by rw [HA.out.cell k hlt, hs]
        have HM := Lib.hid (P.mix_step_in s k hlt hs)
        have hno : (P.mix s 0#256 k).getLsbD k = false := by rw [P.getLsbD_mix _ _ _ _ hlt, if_neg (Nat.lt_irrefl _)]; exact BitVec.getLsbD_zero
        have HNO := Lib.hid hno
        clear hs hno
        rcases (by omega : (k : Int) / 64 = 0 ∨ (k : Int) / 64 = 1 ∨ (k : Int) / 64 = 2 ∨ (k : Int) / 64 = 3) with hq | hq | hq | hq
        · have g0 := HC.out.c0
          have f0 := HC.out.free 0
          have hv := P.wrd_add (P.mix s 0#256 k) k 0 hlt hq HNO.out
          have HQ := Lib.hid hq
          go_wp2_with fail
          go_roundw
          case rel =>
            refine ⟨k + 1, by omega, by go_num, HA.out.setOther (by simp <;> omega) _, HB.out.setOther (by simp) _, ?_, HW.out.setCell (by show w.heap.size ≤ w.heap.size + 1 + 1; omega) _⟩
            rw [HM.out]
            exact HC.out.set0 _ _ rfl (P.wrd_or_bit_other _ _ 1 (by have := HQ.out; omega)) (P.wrd_or_bit_other _ _ 2 (by have := HQ.out; omega)) (P.wrd_or_bit_other _ _ 3 (by have := HQ.out; omega))
          case measure => simp [intOf]; omega
        · have g0 := HC.out.c1
          have f0 := HC.out.free 1
          have hv := P.wrd_add (P.mix s 0#256 k) k 1 hlt hq HNO.out
          have HQ := Lib.hid hq
          go_wp2_with fail
          go_roundw
          case rel =>
            refine ⟨k + 1, by omega, by go_num, HA.out.setOther (by simp <;> omega) _, HB.out.setOther (by simp) _, ?_, HW.out.setCell (by show w.heap.size ≤ w.heap.size + 1 + 1; omega) _⟩
            rw [HM.out]
            exact HC.out.set1 _ _ rfl (P.wrd_or_bit_other _ _ 0 (by have := HQ.out; omega)) (P.wrd_or_bit_other _ _ 2 (by have := HQ.out; omega)) (P.wrd_or_bit_other _ _ 3 (by have := HQ.out; omega))
          case measure => simp [intOf]; omega
        · have g0 := HC.out.c2
          have f0 := HC.out.free 2
          have hv := P.wrd_add (P.mix s 0#256 k) k 2 hlt hq HNO.out
          have HQ := Lib.hid hq
          go_wp2_with fail
          go_roundw
          case rel =>
            refine ⟨k + 1, by omega, by go_num, HA.out.setOther (by simp <;> omega) _, HB.out.setOther (by simp) _, ?_, HW.out.setCell (by show w.heap.size ≤ w.heap.size + 1 + 1; omega) _⟩
            rw [HM.out]
            exact HC.out.set2 _ _ rfl (P.wrd_or_bit_other _ _ 0 (by have := HQ.out; omega)) (P.wrd_or_bit_other _ _ 1 (by have := HQ.out; omega)) (P.wrd_or_bit_other _ _ 3 (by have := HQ.out; omega))
          case measure => simp [intOf]; omega
        · have g0 := HC.out.c3
          have f0 := HC.out.free 3
          have hv := P.wrd_add (P.mix s 0#256 k) k 3 hlt hq HNO.out
          have HQ := Lib.hid hq
          go_wp2_with fail
          go_roundw
          case rel =>
            refine ⟨k + 1, by omega, by go_num, HA.out.setOther (by simp <;> omega) _, HB.out.setOther (by simp) _, ?_, HW.out.setCell (by show w.heap.size ≤ w.heap.size + 1 + 1; omega) _⟩
            rw [HM.out]
            exact HC.out.set3 _ _ rfl (P.wrd_or_bit_other _ _ 0 (by have := HQ.out; omega)) (P.wrd_or_bit_other _ _ 1 (by have := HQ.out; omega)) (P.wrd_or_bit_other _ _ 2 (by have := HQ.out; omega))
          case measure => simp [intOf]; omega
      · have hcell : wr.cell? ⟨w.heap.size, k, none⟩ = some (.bool false) := by rw [HA.out.cell k hlt, hs]
        have HM := Lib.hid (P.mix_step_out s k hlt hs)
        clear hs
        go_wp2_with fail
        go_roundw
        case rel => exact ⟨k + 1, by omega, by go_num, HA.out, HB.out, by rw [HM.out]; exact HC.out, HW.out⟩
        case measure => simp [intOf]; omega
    · obtain rfl : k = 256 := by omega
      have hm := P.mix_all s 0#256
      have HC' := Lib.hid (hm ▸ HC.out : Blk wr (w.heap.size + 1 + 1) s 35)
      clear hm
      have c0 := HC'.out.c0
      have c1 := HC'.out.c1
      have c2 := HC'.out.c2
      have c3 := HC'.out.c3
      have d0 := HB.out.c0
      have d1 := HB.out.c1
      have d2 := HB.out.c2
      have d3 := HB.out.c3
      have f0 := HB.out.free 0
      have f1 := HB.out.free 1
      have f2 := HB.out.free 2
      have f3 := HB.out.free 3
      go_wp2_with fail
      refine bodyPost_ret (v := .agg #[.int .u64 (P.wrd s 0), .int .u64 (P.wrd s 1), .int .u64 (P.wrd s 2), .int .u64 (P.wrd s 3)]) (results_cell_row Tryd.results25 _ _ (w.heap.size + 1) 35 _ (0, 0) _ rfl ((HB.out).store s) Tryd.underlying35 rfl (by kernel_rfl)) rfl ⟨rfl, ?_⟩
      have hz1 : w.heap.size ≤ w.heap.size + 1 := by omega
      exact (((HW.out.setCell hz1 _).setCell hz1 _).setCell hz1 _).setCell hz1 _

end W
end Go.Proofs.YtlbikfimfaecnaaDoor
