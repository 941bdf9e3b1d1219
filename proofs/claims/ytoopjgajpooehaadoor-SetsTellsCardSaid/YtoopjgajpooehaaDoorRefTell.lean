/- Whether the document's set has a number, its least, and whether it lies in another. -/
import Derived.Test.YtoopjgajpooehaaDoorRef
import Derived.Test.YtoopjgajpooehaaDoorRem
namespace Go.Proofs.YtoopjgajpooehaaDoor
open Go.RowKit Go.Sort
namespace P
theorem least_at {s : BitVec 256} {k : Nat} (hk : k < 256) (h : s.getLsbD k = true) (hl : ∀ j, j < k → s.getLsbD j = false) : least s = (k : Int) := by
  rw [least_lst]
  unfold lst
  rw [first_one (fun j => s.getLsbD j) k h hl 256 hk]
  rfl
theorem least_none {s : BitVec 256} (hl : ∀ j, j < 256 → s.getLsbD j = false) : least s = -1 := by
  rw [least_lst]
  have : lst s = [] := by
    unfold lst
    rw [List.filter_eq_nil_iff]
    intro j hj
    rw [hl j (by simpa using hj)]
    simp
  rw [this]
  rfl
theorem or_eq_iff (s t : BitVec 256) : s ||| t = t ↔ ∀ j, j < 256 → s.getLsbD j = true → t.getLsbD j = true := by
  constructor
  · intro h j hj hs
    rw [← h, BitVec.getLsbD_or, hs]
    rfl
  · intro h
    apply BitVec.eq_of_getLsbD_eq
    intro i hi
    rw [BitVec.getLsbD_or]
    cases hs : s.getLsbD i with
    | false => rfl
    | true => rw [h i hi hs]; rfl
end P
namespace W

set_option maxRecDepth 100000 in
set_option maxHeartbeats 2000000 in
theorem rhas_low (s : BitVec 256) (n : Int) (h : n < 0) (w : World) :
    Calls Tryd.prog 23 #[.agg (P.truths s), .int .i64 n] w fun e w' => e = .returned (.bool false) ∧ Below w.heap.size w w' := by
  have hd : decide (0 ≤ n) = false := by simp; omega
  go_enter Tryd.func23, Tryd.ntmps23
  go_wp2_with fail
  go_ret
  exact ⟨rfl, (Below.refl _ _).alloc (Nat.le_refl _) _⟩

set_option maxRecDepth 100000 in
set_option maxHeartbeats 2000000 in
theorem rhas_high (s : BitVec 256) (n : Int) (h0 : 0 ≤ n) (h : ¬ n < 256) (w : World) :
    Calls Tryd.prog 23 #[.agg (P.truths s), .int .i64 n] w fun e w' => e = .returned (.bool false) ∧ Below w.heap.size w w' := by
  have hd : decide (n < 256) = false := by simp; omega
  go_enter Tryd.func23, Tryd.ntmps23
  go_wp2_with fail
  go_ret
  exact ⟨rfl, (Below.refl _ _).alloc (Nat.le_refl _) _⟩

set_option maxRecDepth 100000 in
set_option maxHeartbeats 2000000 in
theorem rhas_mid (s : BitVec 256) (k : Nat) (hk : k < 256) (w : World) :
    Calls Tryd.prog 23 #[.agg (P.truths s), .int .i64 (k : Int)] w fun e w' => e = .returned (.bool (P.has s (k : Int))) ∧ Below w.heap.size w w' := by
  have hk0 : (0 : Int) ≤ (k : Int) := Int.natCast_nonneg _
  have hk1 : (k : Int) < 256 := by omega
  have ht := P.truths_at s k hk
  obtain ⟨b, hb⟩ : ∃ b, s.getLsbD k = b := ⟨_, rfl⟩
  rw [hb] at ht
  have hv := Lib.hid (show P.has s (k : Int) = b by rw [← hb]; unfold P.has; simp)
  clear hb
  go_enter Tryd.func23, Tryd.ntmps23
  go_wp2_with fail
  go_ret
  exact ⟨by rw [hv.out]; rfl, (Below.refl _ _).alloc (Nat.le_refl _) _⟩
theorem rhas_any (s : BitVec 256) (n : Int) (w : World) :
    Calls Tryd.prog 23 #[.agg (P.truths s), .int .i64 n] w fun e w' => e = .returned (.bool (P.has s n)) ∧ Below w.heap.size w w' := by
  rcases (by omega : n < 0 ∨ (0 ≤ n ∧ n < 256) ∨ (0 ≤ n ∧ ¬ n < 256)) with h | h | h
  · rw [P.has_out s (by omega)]; exact rhas_low s n h w
  · obtain ⟨k, rfl⟩ := Int.eq_ofNat_of_zero_le h.1
    exact rhas_mid s k (by omega) w
  · rw [P.has_out s (by omega)]; exact rhas_high s n h.1 h.2 w
set_option maxRecDepth 100000 in
set_option maxHeartbeats 2000000 in
theorem rleast_any (s : BitVec 256) (w : World) :
    Calls Tryd.prog 27 #[.agg (P.truths s)] w fun e w' => e = .returned (.int .i64 (P.least s)) ∧ Below w.heap.size w w' := by
  go_enter Tryd.func27, Tryd.ntmps27
  go_wp2_with fail
  go_loopw [3] (fun i wr => ∃ k : Nat, k ≤ 256 ∧ i = .int .i64 k ∧ (∀ j, j < k → s.getLsbD j = false) ∧ Tr wr w.heap.size s ∧ Below w.heap.size w wr) (fun i _ => 256 - (intOf i).toNat)
  case atStart => exact ⟨0, by decide, rfl, fun j hj => by omega, Tr.new w s, (Below.refl _ _).alloc (Nat.le_refl _) _⟩
  case round =>
    obtain ⟨k, hk, rfl, hl, ha, hw⟩ := hrel
    have HL := Lib.hid hl
    have HA := Lib.hid ha
    have HW := Lib.hid hw
    clear hl ha hw
    by_cases hlt : k < 256
    · have hk0 : (0 : Int) ≤ (k : Int) := Int.natCast_nonneg _
      have hk1 : (k : Int) < 256 := by omega
      have hcell := HA.out.cell k hlt
      cases hs : s.getLsbD k with
      | true =>
        rw [hs] at hcell
        have HV := Lib.hid (P.least_at hlt hs HL.out)
        clear hs
        go_wp2_with fail
        go_ret
        exact ⟨by first | (rw [HV.out]; done) | (rw [HV.out]; rfl), HW.out⟩
      | false =>
        rw [hs] at hcell
        have HL2 := Lib.hid (show ∀ j, j < k + 1 → s.getLsbD j = false by
          intro j hj
          by_cases e : j = k
          · subst e; exact hs
          · exact HL.out j (by omega))
        clear hs
        go_wp2_with fail
        go_roundw
        case rel => exact ⟨k + 1, by omega, by go_num, HL2.out, HA.out, HW.out⟩
        case measure => simp [intOf]; omega
    · obtain rfl : k = 256 := by omega
      have HV := Lib.hid (P.least_none HL.out)
      go_wp2_with fail
      go_ret
      exact ⟨by first | (rw [HV.out]; done) | (rw [HV.out]; rfl), HW.out⟩
set_option maxRecDepth 100000 in
set_option maxHeartbeats 2000000 in
theorem rin_any (s t : BitVec 256) (w : World) :
    Calls Tryd.prog 29 #[.agg (P.truths s), .agg (P.truths t)] w fun e w' => e = .returned (.bool (decide (s ||| t = t))) ∧ Below w.heap.size w w' := by
  go_enter Tryd.func29, Tryd.ntmps29
  go_wp2_with fail
  go_loopw [5] (fun i wr => ∃ k : Nat, k ≤ 256 ∧ i = .int .i64 k ∧ (∀ j, j < k → s.getLsbD j = true → t.getLsbD j = true) ∧ Tr wr w.heap.size s ∧ Tr wr (w.heap.size + 1) t ∧ Below w.heap.size w wr) (fun i _ => 256 - (intOf i).toNat)
  case atStart =>
    refine ⟨0, by decide, rfl, fun j hj => by omega, (Tr.new w s).on ((Below.refl _ _).alloc (Nat.le_refl _) _), ?_, ((Below.refl _ _).alloc (Nat.le_refl _) _).alloc (by simp) _⟩
    have h := Tr.new (w.alloc (.cells (P.truths s) 32)) t
    simpa using h
  case round =>
    obtain ⟨k, hk, rfl, hl, ha, hb, hw⟩ := hrel
    have HL := Lib.hid hl
    have HA := Lib.hid ha
    have HB := Lib.hid hb
    have HW := Lib.hid hw
    clear hl ha hb hw
    by_cases hlt : k < 256
    · have hk0 : (0 : Int) ≤ (k : Int) := Int.natCast_nonneg _
      have hk1 : (k : Int) < 256 := by omega
      have hcell := HA.out.cell k hlt
      have hcelb := HB.out.cell k hlt
      have step : (s.getLsbD k = true → t.getLsbD k = true) → ∀ j, j < k + 1 → s.getLsbD j = true → t.getLsbD j = true := by
        intro h j hj
        by_cases e : j = k
        · subst e; exact h
        · exact HL.out j (by omega)
      have HS := Lib.hid step
      clear step
      rcases Bool.eq_false_or_eq_true (s.getLsbD k) with hs | hs
      · rcases Bool.eq_false_or_eq_true (t.getLsbD k) with ht | ht
        · rw [hs] at hcell
          rw [ht] at hcelb
          have HG := Lib.hid (HS.out fun _ => ht)
          clear hs ht
          go_wp2_with fail
          go_roundw
          case rel => exact ⟨k + 1, by omega, by go_num, HG.out, HA.out, HB.out, HW.out⟩
          case measure => simp [intOf]; omega
        · rw [hs] at hcell
          rw [ht] at hcelb
          have HV := Lib.hid (show decide (s ||| t = t) = false from decide_eq_false fun h => by have := (P.or_eq_iff s t).1 h k hlt hs; rw [ht] at this; cases this)
          clear hs ht
          go_wp2_with fail
          go_ret
          exact ⟨by first | (rw [HV.out]; done) | (rw [HV.out]; rfl), HW.out⟩
      · rw [hs] at hcell
        have HG := Lib.hid (HS.out fun h => by rw [hs] at h; cases h)
        clear hs hcelb
        go_wp2_with fail
        go_roundw
        case rel => exact ⟨k + 1, by omega, by go_num, HG.out, HA.out, HB.out, HW.out⟩
        case measure => simp [intOf]; omega
    · obtain rfl : k = 256 := by omega
      have HV := Lib.hid (show decide (s ||| t = t) = true from decide_eq_true ((P.or_eq_iff s t).2 HL.out))
      go_wp2_with fail
      go_ret
      exact ⟨by first | (rw [HV.out]; done) | (rw [HV.out]; rfl), HW.out⟩
end W
end Go.Proofs.YtoopjgajpooehaaDoor
