/- A set is taken apart from its least number on, and nothing is left: the walk of the law, for every set, in whatever memory. -/
import Derived.Test.YtoopjgajpooehaaDoorClass
import Derived.Test.YtoopjgajpooehaaDoorRem
namespace Go.Proofs.YtoopjgajpooehaaDoor
open Go.RowKit Go.Sort
namespace W
theorem in_yes (s t : BitVec 256) (h : s ||| t = t) (w : World) :
    Calls Tryd.prog 28 #[.agg #[.int .u64 (P.wrd s 0), .int .u64 (P.wrd s 1), .int .u64 (P.wrd s 2), .int .u64 (P.wrd s 3)], .agg #[.int .u64 (P.wrd t 0), .int .u64 (P.wrd t 1), .int .u64 (P.wrd t 2), .int .u64 (P.wrd t 3)]] w fun e w' => e = .returned (.bool true) ∧ Below w.heap.size w w' := by
  have := in_any s t w
  rw [decide_eq_true h] at this
  exact this
theorem list_zero (w : World) (hT : Tab w) : Calls Tryd.prog 20 #[.agg #[.int .u64 (P.wrd 0#256 0), .int .u64 (P.wrd 0#256 1), .int .u64 (P.wrd 0#256 2), .int .u64 (P.wrd 0#256 3)]] w (Lists w.heap.size [] w) := by
  have := list_any 0#256 w hT
  rw [P.lst_zero] at this
  exact this
theorem eq_zero (w : World) : (binOp .eql 26 (.agg #[.int .u64 (P.wrd 0#256 0), .int .u64 (P.wrd 0#256 1), .int .u64 (P.wrd 0#256 2), .int .u64 (P.wrd 0#256 3)]) (.agg #[.int .u64 0, .int .u64 0, .int .u64 0, .int .u64 0])).run Tryd.prog w = .ok (.bool true) w := alz rfl w
theorem least_zero : P.least 0#256 = -1 := by rw [P.least_lst, P.lst_zero]; rfl
theorem len_zero : ((P.len 0#256 : Nat) : Int) = 0 := by rw [P.len_zero]; rfl

set_option maxHeartbeats 4000000 in
theorem taken_none (w : World) (hT : Hid (Tab w)) : Calls Tryd.prog 11 #[.agg #[.int .u64 (P.wrd 0#256 0), .int .u64 (P.wrd 0#256 1), .int .u64 (P.wrd 0#256 2), .int .u64 (P.wrd 0#256 3)]] w fun e w' => e = .returned (.bool true) ∧ Below w.heap.size w w' := by
  go_enter Tryd.func11, Tryd.ntmps11
  go_wp2_with fail
  refine (shown_any _ ?_).mono ?_
  · exact (hT.out.on ((Below.refl _ _).alloc (Nat.le_refl _) _))
  rintro e w1 ⟨rfl, hb⟩
  have hz : w.heap.size + 1 ≤ w1.heap.size := by have := hb.size; simp at this; omega
  have HB := Lib.hid (show Below w.heap.size w w1 from ((Below.refl w.heap.size w).alloc (by simp) (.cells #[.int .u64 (P.wrd 0#256 0), .int .u64 (P.wrd 0#256 1), .int .u64 (P.wrd 0#256 2), .int .u64 (P.wrd 0#256 3)] 25)).trans (hb.mono (by simp)))
  have k0 : ∀ i, w1.cell? ⟨w.heap.size, i, none⟩ = #[.int .u64 (P.wrd 0#256 0), .int .u64 (P.wrd 0#256 1), .int .u64 (P.wrd 0#256 2), .int .u64 (P.wrd 0#256 3)][i]? := fun i => by rw [hb.cell (by show w.heap.size < _; simp <;> omega), World.cell?_alloc_at _ _ _ _ rfl]
  clear hb
  have h00 : w.heap.size < w1.heap.size := by omega
  have k00 : w1.cell? ⟨w.heap.size, 0, none⟩ = some (.int .u64 (P.wrd 0#256 0)) := (k0 0).trans rfl
  have k01 : w1.cell? ⟨w.heap.size, 1, none⟩ = some (.int .u64 (P.wrd 0#256 1)) := (k0 1).trans rfl
  have k02 : w1.cell? ⟨w.heap.size, 2, none⟩ = some (.int .u64 (P.wrd 0#256 2)) := (k0 2).trans rfl
  have k03 : w1.cell? ⟨w.heap.size, 3, none⟩ = some (.int .u64 (P.wrd 0#256 3)) := (k0 3).trans rfl
  clear k0
  go_wp2_with fail
  obtain ⟨W, hW⟩ : ∃ W : World, W = (w1.alloc (.cells #[.int .u64 (P.wrd 0#256 0), .int .u64 (P.wrd 0#256 1), .int .u64 (P.wrd 0#256 2), .int .u64 (P.wrd 0#256 3)] 26)) := ⟨_, rfl⟩
  have H0 := Lib.hid (show Blk W (w1.heap.size) 0#256 26 by rw [hW]; have h := (Blk.new w1 0#256 26); simpa using h)
  have HW := Lib.hid (show Below w.heap.size w W by rw [hW]; exact (HB.out.alloc (by omega) (.cells #[.int .u64 (P.wrd 0#256 0), .int .u64 (P.wrd 0#256 1), .int .u64 (P.wrd 0#256 2), .int .u64 (P.wrd 0#256 3)] 26)))
  have HT := Lib.hid (hT.out.on HW.out)
  rw [← hW]
  clear hW HB hz h00 k00 k01 k02 k03
  refine (list_zero _ HT.out).mono ?_
  rintro e w2 ⟨v, rfl, hown, hb2⟩
  have H00 := Lib.hid (H0.out.on hb2)
  have HW2 := Lib.hid (HW.out.trans (hb2.mono HW.out.size))
  have HT2 := Lib.hid (HT.out.on hb2)
  obtain ⟨o1, cap1, rfl⟩ : ∃ o cap, v = .slice o 0 cap := by
    rcases hown.2 with ⟨h, _⟩ | ⟨g, cap, cur, h, _⟩
    · exact ⟨none, 0, h⟩
    · exact ⟨some ⟨g, 0, none⟩, cap, h⟩
  clear hown hb2
  have c0 := H00.out.c0
  have c1 := H00.out.c1
  have c2 := H00.out.c2
  have c3 := H00.out.c3
  go_wp2_with fail
  refine wp_loop_rounds 1 ?_
  rw [rounds_succ]
  go_wp2_with fail
  have HB6 := Lib.hid (Blk.new w2 0#256 26)
  have HWc := Lib.hid (HW2.out.alloc HW2.out.size (.cells #[.int .u64 (P.wrd 0#256 0), .int .u64 (P.wrd 0#256 1), .int .u64 (P.wrd 0#256 2), .int .u64 (P.wrd 0#256 3)] 26))
  have HTc := Lib.hid (HT2.out.on ((Below.refl _ _).alloc (Nat.le_refl _) (.cells #[.int .u64 (P.wrd 0#256 0), .int .u64 (P.wrd 0#256 1), .int .u64 (P.wrd 0#256 2), .int .u64 (P.wrd 0#256 3)] 26)))
  refine (list_zero _ ?_).mono ?_
  · exact HTc.out
  rintro e w3 ⟨v3, rfl, hown3, hb3⟩
  have HX0 := Lib.hid (HWc.out.trans (hb3.mono HWc.out.size))
  have HB7 := Lib.hid (HB6.out.on hb3)
  have HTd := Lib.hid (HTc.out.on hb3)
  obtain ⟨o3, cap3, rfl⟩ : ∃ o cap, v3 = .slice o 0 cap := by
    rcases hown3.2 with ⟨h, _⟩ | ⟨g, cap, cur, h, _⟩
    · exact ⟨none, 0, h⟩
    · exact ⟨some ⟨g, 0, none⟩, cap, h⟩
  clear hown3 hb3 c0 c1 c2 c3
  have z1 := eq_zero
  have z2 := least_zero
  have z3 := len_zero
  have d0 := HB7.out.c0
  have d1 := HB7.out.c1
  have d2 := HB7.out.c2
  have d3 := HB7.out.c3
  go_wp2_with fail
  refine (least_any _ _ HTd.out).mono ?_
  rintro e w4 ⟨rfl, hb⟩
  have HX1 := Lib.hid (HX0.out.trans (hb.mono HX0.out.size))
  have HB8 := Lib.hid (HB7.out.on hb)
  clear hb d0 d1 d2 d3
  have d0 := HB8.out.c0
  have d1 := HB8.out.c1
  have d2 := HB8.out.c2
  have d3 := HB8.out.c3
  go_wp2_with fail
  refine (len_any _ _).mono ?_
  rintro e w5 ⟨rfl, hb⟩
  have HX2 := Lib.hid (HX1.out.trans (hb.mono HX1.out.size))
  clear hb d0 d1 d2 d3
  go_wp2_with fail
  go_ret
  exact ⟨rfl, HX2.out⟩

set_option maxRecDepth 100000 in
set_option maxHeartbeats 4000000 in
theorem taken_some (s : BitVec 256) (hs : 0 < (P.lst s).length) (w : World) (hT : Hid (Tab w)) : Calls Tryd.prog 11 #[.agg #[.int .u64 (P.wrd s 0), .int .u64 (P.wrd s 1), .int .u64 (P.wrd s 2), .int .u64 (P.wrd s 3)]] w fun e w' => e = .returned (.bool true) ∧ Below w.heap.size w w' := by
  have HS := Lib.hid hs
  clear hs
  go_enter Tryd.func11, Tryd.ntmps11
  go_wp2_with fail
  refine (shown_any _ ?_).mono ?_
  · exact (hT.out.on ((Below.refl _ _).alloc (Nat.le_refl _) _))
  rintro e w1 ⟨rfl, hb⟩
  have hz : w.heap.size + 1 ≤ w1.heap.size := by have := hb.size; simp at this; omega
  have HB := Lib.hid (show Below w.heap.size w w1 from ((Below.refl w.heap.size w).alloc (by simp) (.cells #[.int .u64 (P.wrd s 0), .int .u64 (P.wrd s 1), .int .u64 (P.wrd s 2), .int .u64 (P.wrd s 3)] 25)).trans (hb.mono (by simp)))
  have k0 : ∀ i, w1.cell? ⟨w.heap.size, i, none⟩ = #[.int .u64 (P.wrd s 0), .int .u64 (P.wrd s 1), .int .u64 (P.wrd s 2), .int .u64 (P.wrd s 3)][i]? := fun i => by rw [hb.cell (by show w.heap.size < _; simp <;> omega), World.cell?_alloc_at _ _ _ _ rfl]
  clear hb
  have h00 : w.heap.size < w1.heap.size := by omega
  have k00 : w1.cell? ⟨w.heap.size, 0, none⟩ = some (.int .u64 (P.wrd s 0)) := (k0 0).trans rfl
  have k01 : w1.cell? ⟨w.heap.size, 1, none⟩ = some (.int .u64 (P.wrd s 1)) := (k0 1).trans rfl
  have k02 : w1.cell? ⟨w.heap.size, 2, none⟩ = some (.int .u64 (P.wrd s 2)) := (k0 2).trans rfl
  have k03 : w1.cell? ⟨w.heap.size, 3, none⟩ = some (.int .u64 (P.wrd s 3)) := (k0 3).trans rfl
  clear k0
  go_wp2_with fail
  obtain ⟨W, hW⟩ : ∃ W : World, W = (w1.alloc (.cells #[.int .u64 (P.wrd s 0), .int .u64 (P.wrd s 1), .int .u64 (P.wrd s 2), .int .u64 (P.wrd s 3)] 26)) := ⟨_, rfl⟩
  have H0 := Lib.hid (show Blk W (w1.heap.size) s 26 by rw [hW]; have h := (Blk.new w1 s 26); simpa using h)
  have HW := Lib.hid (show Below w.heap.size w W by rw [hW]; exact (HB.out.alloc (by omega) (.cells #[.int .u64 (P.wrd s 0), .int .u64 (P.wrd s 1), .int .u64 (P.wrd s 2), .int .u64 (P.wrd s 3)] 26)))
  have HT := Lib.hid (hT.out.on HW.out)
  rw [← hW]
  clear hW HB hz h00 k00 k01 k02 k03
  refine (list_any _ _ HT.out).mono ?_
  rintro e w2 ⟨v, rfl, hown, hb2⟩
  have H00 := Lib.hid (H0.out.on hb2)
  have HW2 := Lib.hid (HW.out.trans (hb2.mono HW.out.size))
  have HT2 := Lib.hid (HT.out.on hb2)
  obtain ⟨g, cap, rfl⟩ : ∃ g cap, v = .slice (some ⟨g, 0, none⟩) (P.lst s).length cap := by
    rcases hown.2 with ⟨_, h⟩ | ⟨g, cap, cur, h, _⟩
    · have := HS.out; omega
    · exact ⟨g, cap, h⟩
  have HG := Lib.hid (show g < w2.heap.size from (hown.lt g rfl).2)
  have HCC := Lib.hid (show ∀ j, j < (P.lst s).length → w2.cell? ⟨g, j, none⟩ = some (.int .i64 (((P.lst s).getD j 0 : Nat) : Int)) from fun j hj => by
    rw [hown.cellAt j (by omega)]
    unfold P.vals
    simp [List.getD, hj])
  clear hown hb2
  have c0 := H00.out.c0
  have c1 := H00.out.c1
  have c2 := H00.out.c2
  have c3 := H00.out.c3
  have hlen : (((P.lst s).length : Nat) : Int) ≤ 256 := by have := P.lst_length s; omega
  go_wp2_with fail
  clear c0 c1 c2 c3
  go_loopw [7] (fun i wr => ∃ (k : Nat) (t : BitVec 256), k ≤ (P.lst s).length ∧ i = .int .i64 k ∧ P.lst t = (P.lst s).drop k ∧ t ||| s = s ∧ Blk wr w2.heap.size t 26 ∧ Below w2.heap.size w2 wr) (fun i _ => (P.lst s).length - (intOf i).toNat)
  case atStart => exact ⟨0, s, Nat.zero_le _, rfl, rfl, BitVec.or_self, Blk.new w2 s 26, (Below.refl _ _).alloc (Nat.le_refl _) _⟩
  case round =>
    obtain ⟨k, t, hk, rfl, hlt, hin, hbt, hy⟩ := hrel
    have HLT := Lib.hid hlt
    have HIN := Lib.hid hin
    have HB := Lib.hid hbt
    have HY := Lib.hid hy
    have HA := Lib.hid (H00.out.on hy)
    clear hlt hin hbt hy
    by_cases hkl : k < (P.lst s).length
    · obtain ⟨x, hx⟩ : ∃ x, (P.lst s).getD k 0 = x := ⟨_, rfl⟩
      have HC := Lib.hid (show wr.cell? ⟨g, k, none⟩ = some (.int .i64 ((x : Nat) : Int)) from (HY.out.cell (p := ⟨g, k, none⟩) HG.out).trans ((HCC.out k hkl).trans (by rw [hx])))
      have HD := Lib.hid (show P.lst t = x :: (P.lst s).drop (k + 1) from (HLT.out.trans (P.drop_cons hkl)).trans (by rw [hx]))
      clear hx
      have hl : P.least t = ((x : Nat) : Int) := by rw [P.least_lst, HD.out]; rfl
      have hn1 : (((P.len t : Nat) : Int) != (((P.lst s).length : Nat) : Int) - (k : Int)) = false := by
        have e : P.len t = (P.lst s).length - k := by rw [P.len_lst, HLT.out, List.length_drop]
        rw [bne_eq_false_iff_eq, e]
        omega
      have hk0 : (0 : Int) ≤ (k : Int) := Int.natCast_nonneg _
      have HX0 := Lib.hid (Below.refl wr.heap.size wr)
      have c0 := (HA.out.on HX0.out).c0
      have c1 := (HA.out.on HX0.out).c1
      have c2 := (HA.out.on HX0.out).c2
      have c3 := (HA.out.on HX0.out).c3
      have d0 := (HB.out.on HX0.out).c0
      have d1 := (HB.out.on HX0.out).c1
      have d2 := (HB.out.on HX0.out).c2
      have d3 := (HB.out.on HX0.out).c3
      have hcell := (HX0.out.cell (p := ⟨g, k, none⟩) (Nat.lt_of_lt_of_le HG.out HY.out.size)).trans HC.out
      go_wp2_with fail
      refine (least_any _ _ (HT2.out.on HY.out)).mono ?_
      rintro e w' ⟨rfl, hb⟩
      have HX1 := Lib.hid (HX0.out.trans (hb.mono HX0.out.size))
      clear hb c0 c1 c2 c3 d0 d1 d2 d3 hcell
      have c0 := (HA.out.on HX1.out).c0
      have c1 := (HA.out.on HX1.out).c1
      have c2 := (HA.out.on HX1.out).c2
      have c3 := (HA.out.on HX1.out).c3
      have d0 := (HB.out.on HX1.out).c0
      have d1 := (HB.out.on HX1.out).c1
      have d2 := (HB.out.on HX1.out).c2
      have d3 := (HB.out.on HX1.out).c3
      have hcell := (HX1.out.cell (p := ⟨g, k, none⟩) (Nat.lt_of_lt_of_le HG.out HY.out.size)).trans HC.out
      go_wp2_with fail
      refine (in_yes _ _ HIN.out _).mono ?_
      rintro e w' ⟨rfl, hb⟩
      have HX2 := Lib.hid (HX1.out.trans (hb.mono HX1.out.size))
      clear hb c0 c1 c2 c3 d0 d1 d2 d3 hcell
      have c0 := (HA.out.on HX2.out).c0
      have c1 := (HA.out.on HX2.out).c1
      have c2 := (HA.out.on HX2.out).c2
      have c3 := (HA.out.on HX2.out).c3
      have d0 := (HB.out.on HX2.out).c0
      have d1 := (HB.out.on HX2.out).c1
      have d2 := (HB.out.on HX2.out).c2
      have d3 := (HB.out.on HX2.out).c3
      have hcell := (HX2.out.cell (p := ⟨g, k, none⟩) (Nat.lt_of_lt_of_le HG.out HY.out.size)).trans HC.out
      go_wp2_with fail
      refine (len_any _ _).mono ?_
      rintro e w' ⟨rfl, hb⟩
      have HX3 := Lib.hid (HX2.out.trans (hb.mono HX2.out.size))
      clear hb c0 c1 c2 c3 d0 d1 d2 d3 hcell
      have c0 := (HA.out.on HX3.out).c0
      have c1 := (HA.out.on HX3.out).c1
      have c2 := (HA.out.on HX3.out).c2
      have c3 := (HA.out.on HX3.out).c3
      have d0 := (HB.out.on HX3.out).c0
      have d1 := (HB.out.on HX3.out).c1
      have d2 := (HB.out.on HX3.out).c2
      have d3 := (HB.out.on HX3.out).c3
      have hcell := (HX3.out.cell (p := ⟨g, k, none⟩) (Nat.lt_of_lt_of_le HG.out HY.out.size)).trans HC.out
      go_wp2_with fail
      refine (less_any _ _ _).mono ?_
      rintro e w' ⟨rfl, hb⟩
      have HX4 := Lib.hid (HX3.out.trans (hb.mono HX3.out.size))
      clear hb c0 c1 c2 c3 d0 d1 d2 d3 hcell
      have c0 := (HA.out.on HX4.out).c0
      have c1 := (HA.out.on HX4.out).c1
      have c2 := (HA.out.on HX4.out).c2
      have c3 := (HA.out.on HX4.out).c3
      have d0 := (HB.out.on HX4.out).c0
      have d1 := (HB.out.on HX4.out).c1
      have d2 := (HB.out.on HX4.out).c2
      have d3 := (HB.out.on HX4.out).c3
      have hcell := (HX4.out.cell (p := ⟨g, k, none⟩) (Nat.lt_of_lt_of_le HG.out HY.out.size)).trans HC.out
      have f0 := (HB.out.on HX4.out).free 0
      have f1 := (HB.out.on HX4.out).free 1
      have f2 := (HB.out.on HX4.out).free 2
      have f3 := (HB.out.on HX4.out).free 3
      go_wp2_with fail
      go_roundw
      case rel =>
        refine ⟨k + 1, t &&& ~~~P.bit ((x : Nat) : Int), by omega, by go_num, P.lst_less HD.out, P.less_in HIN.out _, (HB.out.on HX4.out).store _, ?_⟩
        have hz : w2.heap.size ≤ w2.heap.size := Nat.le_refl _
        exact ((((HY.out.trans (HX4.out.mono HY.out.size)).setCell hz _).setCell hz _).setCell hz _).setCell hz _
      case measure => simp [intOf]; omega
    · obtain rfl : k = (P.lst s).length := by omega
      have ht : t = 0#256 := P.lst_nil (by rw [HLT.out, List.drop_length])
      subst ht
      have HB6 := HB
      have HWc := Lib.hid (HW2.out.trans (HY.out.mono HW2.out.size))
      have HTc := Lib.hid (HT2.out.on HY.out)
      have c0 := HB6.out.c0
      have c1 := HB6.out.c1
      have c2 := HB6.out.c2
      have c3 := HB6.out.c3
      clear hlen
      go_wp2_with fail
      refine (list_zero _ ?_).mono ?_
      · exact HTc.out
      rintro e w3 ⟨v3, rfl, hown3, hb3⟩
      have HX0 := Lib.hid (HWc.out.trans (hb3.mono HWc.out.size))
      have HB7 := Lib.hid (HB6.out.on hb3)
      have HTd := Lib.hid (HTc.out.on hb3)
      obtain ⟨o3, cap3, rfl⟩ : ∃ o cap, v3 = .slice o 0 cap := by
        rcases hown3.2 with ⟨h, _⟩ | ⟨g, cap, cur, h, _⟩
        · exact ⟨none, 0, h⟩
        · exact ⟨some ⟨g, 0, none⟩, cap, h⟩
      clear hown3 hb3 c0 c1 c2 c3
      have z1 := eq_zero
      have z2 := least_zero
      have z3 := len_zero
      have d0 := HB7.out.c0
      have d1 := HB7.out.c1
      have d2 := HB7.out.c2
      have d3 := HB7.out.c3
      go_wp2_with fail
      refine (least_any _ _ HTd.out).mono ?_
      rintro e w4 ⟨rfl, hb⟩
      have HX1 := Lib.hid (HX0.out.trans (hb.mono HX0.out.size))
      have HB8 := Lib.hid (HB7.out.on hb)
      clear hb d0 d1 d2 d3
      have d0 := HB8.out.c0
      have d1 := HB8.out.c1
      have d2 := HB8.out.c2
      have d3 := HB8.out.c3
      go_wp2_with fail
      refine (len_any _ _).mono ?_
      rintro e w5 ⟨rfl, hb⟩
      have HX2 := Lib.hid (HX1.out.trans (hb.mono HX1.out.size))
      clear hb d0 d1 d2 d3
      go_wp2_with fail
      go_ret
      exact ⟨rfl, HX2.out⟩

theorem taken_any (s : BitVec 256) (w : World) (hT : Tab w) : Calls Tryd.prog 11 #[.agg #[.int .u64 (P.wrd s 0), .int .u64 (P.wrd s 1), .int .u64 (P.wrd s 2), .int .u64 (P.wrd s 3)]] w fun e w' => e = .returned (.bool true) ∧ Below w.heap.size w w' := by
  by_cases h : P.lst s = []
  · rw [P.lst_nil h]; exact taken_none w (Lib.hid hT)
  · exact taken_some s (List.length_pos_iff.2 h) w (Lib.hid hT)
end W
end Go.Proofs.YtoopjgajpooehaaDoor
