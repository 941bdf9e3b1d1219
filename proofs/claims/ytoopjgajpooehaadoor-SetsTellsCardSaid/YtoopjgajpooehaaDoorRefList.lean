/- The list of the document's set, and how many there are. -/
import Derived.Test.YtoopjgajpooehaaDoorRef
import Derived.Test.YtoopjgajpooehaaDoorList
import Derived.Test.YtoopjgajpooehaaDoorIncr
namespace Go.Proofs.YtoopjgajpooehaaDoor
open Go.RowKit Go.Sort
namespace P
/-- The numbers of s below k. -/
def upto (s : BitVec 256) (k : Nat) : List Nat := (List.range k).filter (fun j => s.getLsbD j)
theorem upto_in {s : BitVec 256} {k : Nat} (h : s.getLsbD k = true) : upto s (k + 1) = upto s k ++ [k] := by
  unfold upto
  rw [List.range_succ, List.filter_append]
  simp [h]
theorem upto_out {s : BitVec 256} {k : Nat} (h : s.getLsbD k = false) : upto s (k + 1) = upto s k := by
  unfold upto
  rw [List.range_succ, List.filter_append]
  simp [h]
theorem upto_length (s : BitVec 256) (k : Nat) : (upto s k).length ≤ k := by
  unfold upto
  refine Nat.le_trans (List.length_filter_le _ _) ?_
  simp
theorem upto_all (s : BitVec 256) : upto s 256 = lst s := rfl
end P
namespace W

theorem owns_mono {w : World} {B B' : Nat} {t : TypeId} {z : Nat} {v : Value} {n : Nat} {vs : List Value} (h : w.ownsRow B t z v n vs) (hB : B' ≤ B) : w.ownsRow B' t z v n vs := by
  refine ⟨h.1, ?_⟩
  rcases h.2 with h2 | ⟨g, cap, cur, h1, h2, h3⟩
  · exact .inl h2
  · exact .inr ⟨g, cap, cur, h1, Nat.le_trans hB h2, h3⟩
set_option maxRecDepth 100000 in
set_option maxHeartbeats 2000000 in
theorem rlist_any (s : BitVec 256) (w : World) :
    Calls Tryd.prog 21 #[.agg (P.truths s)] w (Lists w.heap.size (P.lst s) w) := by
  obtain ⟨i0, hi, hz0, hz1, hz2⟩ := info_parts int_info
  go_enter Tryd.func21, Tryd.ntmps21
  go_wp2_with fail
  go_loopw [3, 4] (fun v i wr => ∃ k : Nat, k ≤ 256 ∧ i = .int .i64 k ∧ wr.ownsRow (w.heap.size + 1) 3 1 v (P.upto s k).length (P.vals (P.upto s k)) ∧ Tr wr w.heap.size s ∧ Below w.heap.size w wr) (fun _ i _ => 256 - (intOf i).toNat)
  case atStart => exact ⟨0, Nat.zero_le _, rfl, World.ownsRow_nil _ _ _ _, Tr.new w s, (Below.refl _ _).alloc (Nat.le_refl _) _⟩
  case round =>
    obtain ⟨k, hk, rfl, ho, ha, hw⟩ := hrel
    have HO := Lib.hid ho
    have HA := Lib.hid ha
    have HW := Lib.hid hw
    clear ho ha hw
    by_cases hlt : k < 256
    · have hk0 : (0 : Int) ≤ (k : Int) := Int.natCast_nonneg _
      have hk1 : (k : Int) < 256 := by omega
      have hcell := HA.out.cell k hlt
      rcases Bool.eq_false_or_eq_true (s.getLsbD k) with hs | hs
      · rw [hs] at hcell
        have HU := Lib.hid (P.upto_in hs)
        have hlen : (P.upto s k).length + 1 ≤ 256 := by have := P.upto_length s k; omega
        clear hs
        go_wp2_with (at_builtin; refine wpList_append_own _ rfl _ _ 22 rfl (w.heap.size + 1) 3 i0 (.int .i64 0) 1 8 Tryd.underlying22 hi hz0 hz1 hz2 rfl (by decide) _ _ _ rfl (HO.out.alloc _) ⟨wr.heap.size, 0, none⟩ 1 1 [.int .i64 (k : Int)] rfl rfl ?c1 ?c2 ?c3 ?c4 ?c5 ?_)
        case c1 =>
          intro j u hj
          match j, hj with
          | 0, hj => simp at hj; subst hj; simp [Addr.add]
        case c2 => intro u hu; simp at hu; subst hu; rfl
        case c3 => unfold maxLen; omega
        case c4 => omega
        case c5 => have := HW.out.size; have := HA.out.lt; simp; omega
        intro v' w1 hown1 hgrow _
        have hb1 : Below (w.heap.size + 1) wr w1 := ((Below.refl _ _).alloc (by have := HA.out.lt; omega) _).grown hgrow (by have := HA.out.lt; simp; omega) (fun q hq => (HO.out.lt q hq).1)
        have hv : P.vals (P.upto s k) ++ [Value.int .i64 (k : Int)] = P.vals (P.upto s (k + 1)) := by rw [HU.out, P.vals_append, P.vals_one]
        have hl : (P.upto s k).length + 1 = (P.upto s (k + 1)).length := by rw [HU.out]; simp
        have HV := Lib.hid hv
        have HL := Lib.hid hl
        have H1 := Lib.hid hown1
        have H2 := Lib.hid hb1
        clear hv hl hown1 hgrow hb1
        go_wp2_with fail
        go_roundw
        case rel =>
          refine ⟨k + 1, by omega, by go_num, ?_, HA.out.below H2.out (by omega), HW.out.trans (H2.out.mono (by omega))⟩
          rw [← HV.out, ← HL.out]
          exact H1.out
        case measure => simp [intOf]; omega
      · rw [hs] at hcell
        have HU := Lib.hid (P.upto_out hs)
        clear hs
        go_wp2_with fail
        go_roundw
        case rel => exact ⟨k + 1, by omega, by go_num, by rw [HU.out]; exact HO.out, HA.out, HW.out⟩
        case measure => simp [intOf]; omega
    · obtain rfl : k = 256 := by omega
      go_wp2_with fail
      go_ret
      exact ⟨_, rfl, by rw [← P.upto_all]; exact owns_mono HO.out (by omega), HW.out⟩
set_option maxRecDepth 100000 in
set_option maxHeartbeats 2000000 in
theorem rlen_any (s : BitVec 256) (w : World) :
    Calls Tryd.prog 25 #[.agg (P.truths s)] w fun e w' => e = .returned (.int .i64 (((P.lst s).length : Nat) : Int)) ∧ Below w.heap.size w w' := by
  go_enter Tryd.func25, Tryd.ntmps25
  go_wp2_with (refine wpList_load_row (o := ⟨some 3, _, _, _, _, _⟩) rfl 32 (.tmp 1) rfl (w.heap.size) rfl 32 (P.truths s) (0, 0) (.array 256 4) (Tr.new w s) ref_under rfl (ref_size _) ?_)
  refine (rlist_any _ _).mono ?_
  rintro e w2 ⟨v, rfl, hown, hb⟩
  obtain ⟨a, cap, rfl, hm, _⟩ := ints_of_lists hown
  have HB := Lib.hid (show Below w.heap.size w w2 from ((Below.refl _ _).alloc (Nat.le_refl _) _).trans (hb.mono (by simp)))
  clear hb hown
  unfold maxLen at hm
  go_wp2_with fail
  go_ret
  exact ⟨by rw [P.casts_length]; rfl, HB.out⟩
end W
end Go.Proofs.YtoopjgajpooehaaDoor
