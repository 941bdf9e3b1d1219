/- The places of a list at which a number stands: the document's truths. -/
import Derived.Test.YtlbikfimfaecnaaDoorWhere
import Derived.Test.YtlbikfimfaecnaaDoorRef
namespace Go.Proofs.YtlbikfimfaecnaaDoor
open Go.RowKit Go.Sort
namespace P
theorem getLsbD_places (n : Int) (zs : List Int) (i : Nat) (hi : i < 256) : ∀ k, (places n zs k).getLsbD i = (decide (i < k) && decide (zs.getD i 0 = n))
  | 0 => by unfold places; simp
  | k + 1 => by
    rw [places_succ]
    by_cases h : zs.getD k 0 = n
    · rw [if_pos h, BitVec.getLsbD_or, getLsbD_places n zs i hi k, getLsbD_bit]
      by_cases e : i = k
      · subst e
        have : ((i : Int) < 256) := by omega
        simp only [List.getD_eq_getElem?_getD] at h
        simp [this, h]
      · have e2 : ¬ (k : Int) = (i : Int) := by omega
        by_cases h1 : i < k
        · have : i < k + 1 := by omega
          simp [e2, h1, this]
        · have : ¬ i < k + 1 := by omega
          simp [e2, h1, this]
    · rw [if_neg h, getLsbD_places n zs i hi k]
      by_cases e : i = k
      · subst e
        simp only [List.getD_eq_getElem?_getD] at h
        simp [h]
      · by_cases h1 : i < k
        · have : i < k + 1 := by omega
          simp [h1, this]
        · have : ¬ i < k + 1 := by omega
          simp [h1, this]
theorem mix_places (n : Int) (zs : List Int) (k : Nat) (hk : k = 256 ∨ k = zs.length) : mix (places n zs zs.length) 0#256 k = places n zs zs.length := by
  apply BitVec.eq_of_getLsbD_eq
  intro i hi
  rw [getLsbD_mix _ _ _ _ hi, BitVec.getLsbD_zero]
  by_cases h : i < k
  · rw [if_pos h]
  · rw [if_neg h, getLsbD_places _ _ _ hi]
    have : ¬ i < zs.length := by omega
    simp [this]
end P
namespace W
def TrB (w : World) (b : Nat) (s : BitVec 256) : Prop := w.heap[b]? = some (.cells (P.truths s) 36 (0, 0))
section
variable {w : World} {b : Nat} {s : BitVec 256}
theorem TrB.lt (h : TrB w b s) : b < w.heap.size := lt_of_block h
theorem TrB.cell (h : TrB w b s) (i : Nat) (hi : i < 256) : w.cell? ⟨b, i, none⟩ = some (.bool (s.getLsbD i)) := by rw [cell_of_row w b i _ _ (0, 0) h]; exact P.truths_at s i hi
theorem TrB.free (h : TrB w b s) (j : Nat) : w.frozen? ⟨b, j, none⟩ = false := frozen_of_row w b j _ _ h
theorem TrB.on {w' : World} (h : TrB w b s) (hb : Below w.heap.size w w') : TrB w' b s := by unfold TrB; rw [hb.block b h.lt]; exact h
theorem TrB.new (w : World) (s : BitVec 256) : TrB (w.alloc (.cells (P.truths s) 36)) w.heap.size s := heap_alloc_new w _
theorem TrB.set (h : TrB w b s) (i : Nat) (v : Value) (r : BitVec 256) (hr : (P.truths s).setIfInBounds i v = P.truths r) : TrB (w.setCell ⟨b, i, none⟩ v) b r := by
  unfold TrB at h ⊢
  rw [heap_setCell_same w b i _ _ v h, hr]
theorem TrB.row (h : TrB w b s) (r : BitVec 256) : TrB (w.setRow b (P.truths r)) b r := by
  unfold TrB at h ⊢
  exact setRow_heap w b _ _ _ _ h
theorem TrB.setOther (h : TrB w b s) {a : Addr} (ha : b ≠ a.block) (v : Value) : TrB (w.setCell a v) b s := by
  unfold TrB
  rw [heap_setCell_other w a b v ha]
  exact h
end
theorem refb_under : Tryd.prog.underlying 36 = some (.array 256 4) := by kernel_rfl
theorem refb_size (s : BitVec 256) : (Tryd.prog.info? 36).map (·.size) = some (P.truths s).size := by rw [P.truths_size]; kernel_rfl
theorem zero_refb (w : World) : (zeroValue 36).run Tryd.prog w = .ok (.agg (P.truths 0#256)) w := by kernel_rfl
set_option maxRecDepth 100000 in
set_option maxHeartbeats 1000000 in
theorem among_any (v : Value) (zs : List Int) (n : Int) (w : World) (hv : Ints w v zs) :
    Calls Tryd.prog 26 #[v, .int .i64 n] w fun e w' => e = .returned (.agg (P.truths (P.places n zs zs.length))) ∧ Below w.heap.size w w' := by
  obtain ⟨ao, cap, rfl, hz, hc⟩ := hv
  have HC := Lib.hid hc
  clear hc
  obtain ⟨S, hS⟩ : ∃ S, P.places n zs zs.length = S := ⟨_, rfl⟩
  have HS := Lib.hid hS
  have HM := Lib.hid (P.mix_places n zs)
  have HG := Lib.hid (fun i hi => P.getLsbD_places n zs i hi zs.length)
  rw [hS] at HM HG ⊢
  clear hS
  obtain ⟨len, hlen⟩ : ∃ len, zs.length = len := ⟨_, rfl⟩
  rw [hlen] at hz HM HG ⊢
  have HL := Lib.hid hlen
  clear hlen
  have hz0 := fun w => zero_refb w
  go_enter Tryd.func26, Tryd.ntmps26
  go_wp2_with fail
  go_loopw [6] (fun i wr => ∃ k : Nat, k ≤ len ∧ k ≤ 256 ∧ i = .int .i64 k ∧ TrB wr w.heap.size 0#256 ∧ TrB wr (w.heap.size + 1) (P.mix S 0#256 k) ∧ Below w.heap.size w wr) (fun i _ => 256 - (intOf i).toNat)
  case atStart =>
    refine ⟨0, by omega, by decide, rfl, ?_, ?_, ((Below.refl _ _).alloc (Nat.le_refl _) _).alloc (by simp) _⟩
    · exact (TrB.new w 0#256).on ((Below.refl _ _).alloc (Nat.le_refl _) _)
    · rw [P.mix_zero]
      have h := TrB.new (w.alloc (.cells (P.truths 0#256) 36)) 0#256
      simpa using h
  case round =>
    obtain ⟨k, hk, hk2, rfl, hb, hc, hw⟩ := hrel
    have HB := Lib.hid hb
    have HD := Lib.hid hc
    have HW := Lib.hid hw
    clear hb hc hw
    have hk0 : (0 : Int) ≤ (k : Int) := Int.natCast_nonneg _
    by_cases hlt : k < len
    · have fk : decide ((k : Int) < (len : Int)) = true := decide_eq_true (by omega)
      by_cases h2 : k < 256
      · have hkl : k < zs.length := by rw [HL.out]; exact hlt
        obtain ⟨b, off, rfl, hb, hc⟩ := HC.out.resolve_left (fun e => by rw [e] at hkl; exact absurd hkl (Nat.not_lt_zero k))
        have hcell : wr.cell? ⟨b, off + k, none⟩ = some (.int .i64 (zs.getD k 0)) := by
          rw [HW.out.cell (p := ⟨b, off + k, none⟩) hb]; exact hc k hkl
        have hbit := HG.out k h2
        rw [decide_eq_true hlt, Bool.true_and] at hbit
        have he : (zs.getD k 0 == n) = S.getLsbD k := by
          rw [hbit]
          generalize zs.getD k 0 = y
          by_cases e : y = n <;> simp [e]
        have HT := Lib.hid (P.truths_set S 0#256 k h2 (S.getLsbD k) rfl)
        generalize zs.getD k 0 = x at hcell he
        have hf := HD.out.free k
        have hcell2 := HD.out.cell k h2
        clear hbit hc
        go_wp2_with fail
        go_roundw
        case rel => exact ⟨k + 1, by omega, by omega, by go_num, HB.out.setOther (by simp) _, HD.out.set k _ _ HT.out, HW.out.setCell (by show w.heap.size ≤ w.heap.size + 1; omega) _⟩
        case measure => simp [intOf]; omega
      · obtain rfl : k = 256 := by omega
        rw [HM.out 256 (.inl rfl)] at HD
        have f2 : decide ((256 : Int) < (len : Int)) = true := fk
        go_upto_region 6 with (fail)
        go_wp2_with (first | (refine wpList_load_row (o := ⟨some 25, _, _, _, _, _⟩) rfl 36 (.tmp 5) rfl (w.heap.size + 1) rfl 36 (P.truths S) (0, 0) (.array 256 4) ?c1 refb_under rfl (refb_size _) ?_) | (refine wpList_store_row (o := ⟨none, _, _, _, _, _⟩) rfl 36 (.tmp 4) (.tmp 25) rfl (w.heap.size) (P.truths S) rfl rfl 36 (P.truths 0#256) ?c2 (refb_size _) (truths_both _ _) (truths_one _) ?_))
        case c1 => exact HD.out
        case c2 => exact HB.out
        refine bodyPost_ret (v := .agg (P.truths S)) (results_cell_row Tryd.results26 _ _ (w.heap.size) 36 _ (0, 0) _ rfl (HB.out.row S) refb_under rfl (refb_size _)) rfl ⟨rfl, ?_⟩
        exact below_setRow HW.out (by omega) _
    · obtain rfl : k = len := by omega
      rw [HM.out k (.inr rfl)] at HD
      have fk : decide ((k : Int) < (k : Int)) = false := decide_eq_false (Int.lt_irrefl _)
      go_upto_region 6 with (fail)
      go_wp2_with (first | (refine wpList_load_row (o := ⟨some 25, _, _, _, _, _⟩) rfl 36 (.tmp 5) rfl (w.heap.size + 1) rfl 36 (P.truths S) (0, 0) (.array 256 4) ?c1 refb_under rfl (refb_size _) ?_) | (refine wpList_store_row (o := ⟨none, _, _, _, _, _⟩) rfl 36 (.tmp 4) (.tmp 25) rfl (w.heap.size) (P.truths S) rfl rfl 36 (P.truths 0#256) ?c2 (refb_size _) (truths_both _ _) (truths_one _) ?_))
      case c1 => exact HD.out
      case c2 => exact HB.out
      refine bodyPost_ret (v := .agg (P.truths S)) (results_cell_row Tryd.results26 _ _ (w.heap.size) 36 _ (0, 0) _ rfl (HB.out.row S) refb_under rfl (refb_size _)) rfl ⟨rfl, ?_⟩
      exact below_setRow HW.out (by omega) _
end W
end Go.Proofs.YtlbikfimfaecnaaDoor
