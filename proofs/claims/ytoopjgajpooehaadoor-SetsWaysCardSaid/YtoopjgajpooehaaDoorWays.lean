/- Whichever way numbers come into a set, the set is the same: the walk of the law, for every list, in whatever memory. -/
import Derived.Test.YtoopjgajpooehaaDoorRow
namespace Go.Proofs.YtoopjgajpooehaaDoor
open Go.RowKit Go.Sort
namespace W

set_option maxRecDepth 100000 in
set_option maxHeartbeats 2000000 in
theorem ways_any (v : Value) (zs : List Int) (w : World) (hT : Hid (Tab w)) (hv : Hid (Ints w v zs)) (b off cap : Nat) (he : v = .slice (some ⟨b, off, none⟩) zs.length cap) (hz : 0 < zs.length) (hbz : b < w.heap.size)
    (hc : Hid (∀ j, j < zs.length → w.cell? ⟨b, off + j, none⟩ = some (.int .i64 (zs.getD j 0)))) (hm : zs.length ≤ maxLen) :
    Calls Tryd.prog 10 #[v] w fun e w' => e = .returned (.bool true) ∧ Below w.heap.size w w' := by
  subst he
  unfold maxLen at hm
  go_enter Tryd.func10, Tryd.ntmps10
  go_wp2_with fail
  refine (shown_any _ hT.out).mono ?_
  rintro e w1 ⟨rfl, hb⟩
  have V1 := Lib.hid (hv.out.on hb)
  have X1 := Lib.hid hb
  clear hb
  go_wp2_with fail
  refine (of_ints V1.out).mono ?_
  rintro e w2 ⟨rfl, hb⟩
  have X2 := Lib.hid (X1.out.trans (hb.mono X1.out.size))
  clear hb V1 X1
  go_wp2_with fail
  obtain ⟨W0, hW0⟩ : ∃ X : World, X = ((w2.alloc (.cells #[.int .u64 (P.wrd (P.ofL zs) 0), .int .u64 (P.wrd (P.ofL zs) 1), .int .u64 (P.wrd (P.ofL zs) 2), .int .u64 (P.wrd (P.ofL zs) 3)] 26)).alloc (.cells #[.int .u64 0, .int .u64 0, .int .u64 0, .int .u64 0] 26)).alloc (.cells #[.int .u64 0, .int .u64 0, .int .u64 0, .int .u64 0] 26) := ⟨_, rfl⟩
  have hbx : Below w2.heap.size w2 W0 := by rw [hW0]; exact ((((Below.refl _ _).alloc (Nat.le_refl _) _).alloc (by simp) _).alloc (by simp <;> omega) _)
  have BX := Lib.hid (show Blk W0 w2.heap.size (P.ofL zs) 26 by rw [hW0]; exact ((Blk.new w2 (P.ofL zs) 26).on ((Below.refl _ _).alloc (Nat.le_refl _) _)).on ((Below.refl _ _).alloc (Nat.le_refl _) _))
  have BY := Lib.hid (show Blk W0 (w2.heap.size + 1) 0#256 26 by rw [hW0]; have h := heap_alloc2_old (w2.alloc (.cells #[.int .u64 (P.wrd (P.ofL zs) 0), .int .u64 (P.wrd (P.ofL zs) 1), .int .u64 (P.wrd (P.ofL zs) 2), .int .u64 (P.wrd (P.ofL zs) 3)] 26)) (.cells #[.int .u64 0, .int .u64 0, .int .u64 0, .int .u64 0] 26) (.cells #[.int .u64 0, .int .u64 0, .int .u64 0, .int .u64 0] 26); exact Blk.zero (by simpa using h))
  have BZ := Lib.hid (show Blk W0 (w2.heap.size + 1 + 1) 0#256 26 by rw [hW0]; have h := heap_alloc2_new (w2.alloc (.cells #[.int .u64 (P.wrd (P.ofL zs) 0), .int .u64 (P.wrd (P.ofL zs) 1), .int .u64 (P.wrd (P.ofL zs) 2), .int .u64 (P.wrd (P.ofL zs) 3)] 26)) (.cells #[.int .u64 0, .int .u64 0, .int .u64 0, .int .u64 0] 26) (.cells #[.int .u64 0, .int .u64 0, .int .u64 0, .int .u64 0] 26); exact Blk.zero (by simpa using h))
  have X3 := Lib.hid (X2.out.trans (hbx.mono X2.out.size))
  have hs2 := X2.out.size
  rw [← hW0]
  clear hW0 hbx X2
  go_loopw [7] (fun i wr => ∃ (k : Nat) (x : Int), i = .int .i64 x ∧ x = (k : Int) - 1 ∧ k ≤ zs.length ∧ Blk wr w2.heap.size (P.ofL zs) 26 ∧ Blk wr (w2.heap.size + 1) (P.ofL (zs.drop k)) 26 ∧ Blk wr (w2.heap.size + 1 + 1) 0#256 26 ∧ Below w.heap.size w wr) (fun i _ => (intOf i + 1).toNat)
  case atStart => exact ⟨zs.length, _, rfl, rfl, Nat.le_refl _, BX.out, by rw [List.drop_length]; exact BY.out, BZ.out, X3.out⟩
  case round =>
    obtain ⟨k, x, rfl, hx, hk, hx1, hy1, hz1, hw1⟩ := hrel
    have RX := Lib.hid hx1
    have RY := Lib.hid hy1
    have RZ := Lib.hid hz1
    have RW := Lib.hid hw1
    clear hx1 hy1 hz1 hw1
    rcases Nat.eq_zero_or_pos k with hk0 | hk0
    · subst hk0
      obtain rfl : x = -1 := by omega
      clear hx hk
      go_wp2_with fail
      have BX2 := RX
      have BY2 := RY
      have BZ2 := RZ
      have W2 := RW
      clear RX RY RZ RW
      obtain ⟨wo, rfl⟩ : ∃ wo : World, wo = wr := ⟨_, rfl⟩
      go_loopw [8] (fun i wr => ∃ k : Nat, i = .int .i64 k ∧ k ≤ zs.length ∧ Blk wr w2.heap.size (P.ofL zs) 26 ∧ Blk wr (w2.heap.size + 1) (P.ofL zs) 26 ∧ Blk wr (w2.heap.size + 1 + 1) (P.ofL (zs.take k)) 26 ∧ Below w.heap.size w wr) (fun i _ => zs.length - (intOf i).toNat)
      case atStart => exact ⟨0, rfl, Nat.zero_le _, BX2.out, BY2.out, BZ2.out, W2.out⟩
      case round =>
        obtain ⟨k, rfl, hk, hx1, hy1, hz1, hw1⟩ := hrel
        have RX := Lib.hid hx1
        have RY := Lib.hid hy1
        have RZ := Lib.hid hz1
        have RW := Lib.hid hw1
        clear hx1 hy1 hz1 hw1
        by_cases hkl : k < zs.length
        · have HD := Lib.hid (P.take_snoc zs k hkl)
          have hcell : wr.cell? ⟨b, off + k, none⟩ = some (.int .i64 (zs.getD k 0)) := (RW.out.cell (p := ⟨b, off + k, none⟩) hbz).trans (hc.out k hkl)
          obtain ⟨y, hy⟩ : ∃ y, zs.getD k 0 = y := ⟨_, rfl⟩
          rw [hy] at hcell
          have HY := Lib.hid hy
          clear hy
          have hk0 : (0 : Int) ≤ (k : Int) := Int.natCast_nonneg _
          have hk1 : (k : Int) < (zs.length : Int) := by omega
          have hzl := RZ.out.lt
          have hbl : b < wr.heap.size := Nat.lt_of_lt_of_le hbz RW.out.size
          have c0 := (RZ.out).c0
          have c1 := (RZ.out).c1
          have c2 := (RZ.out).c2
          have c3 := (RZ.out).c3
          go_wp2_with fail
          go_region_with (first | (go_at_call 14; go_must (refine (of_new y _).mono ?_); rintro e w' ⟨rfl, hb⟩; have hB := RZ.out.on hb; have hcell' := (hb.cell (p := ⟨b, off + k, none⟩) (Nat.lt_of_lt_of_le hbz RW.out.size)).trans hcell; have d0 := hB.c0; have d1 := hB.c1; have d2 := hB.c2; have d3 := hB.c3; have HHb := Lib.hid hb; clear hB hb) | (go_at_call 33; refine (or_any _ _ _).mono ?_; rintro e w'' ⟨rfl, hb⟩; have hb := HHb.out.trans (hb.mono HHb.out.size); have hB := RZ.out.on hb; have f0 := hB.free 0; have f1 := hB.free 1; have f2 := hB.free 2; have f3 := hB.free 3; have g0 := hB.c0; have g1 := hB.c1; have g2 := hB.c2; have g3 := hB.c3; have HHB := Lib.hid hB; have HHc := Lib.hid hb; clear hB hb))
          all_goals
            go_wp2_with fail
            go_roundw
            case rel =>
              have hbel := RW.out.trans (HHc.out.mono RW.out.size)
              have e := HD.out
              rw [HY.out] at e
              refine ⟨k + 1, by go_num, by omega, ((RX.out.on HHc.out).store_other (by omega) _), ((RY.out.on HHc.out).store_other (by omega) _), ?_, below_store hbel (by omega) _⟩
              rw [e, ← P.ofL_one]
              exact HHB.out.store _
            case measure => simp [intOf]; omega
        · obtain rfl : k = zs.length := by omega
          have hta : zs.take zs.length = zs := List.take_length
          have RZ' := Lib.hid (hta ▸ RZ.out : Blk wr (w2.heap.size + 1 + 1) (P.ofL zs) 26)
          clear hta RZ
          go_wp2_with fail
          have BX3 := RX
          have BY3 := RY
          have BZ3 := RZ'
          have W3 := RW
          clear RX RY RZ' RW
          obtain ⟨wp, rfl⟩ : ∃ wp : World, wp = wr := ⟨_, rfl⟩
          go_loopw [9] (fun i wr => ∃ n : Int, -1 ≤ n ∧ n ≤ 257 ∧ i = .int .i64 n ∧ Blk wr w2.heap.size (P.ofL zs) 26 ∧ Blk wr (w2.heap.size + 1) (P.ofL zs) 26 ∧ Blk wr (w2.heap.size + 1 + 1) (P.ofL zs) 26 ∧ Below w.heap.size w wr) (fun i _ => (257 - intOf i).toNat)
          case atStart => exact ⟨-1, by omega, by omega, rfl, BX3.out, BY3.out, BZ3.out, W3.out⟩
          case round =>
            obtain ⟨n, hn0, hn1, rfl, hx1, hy1, hz1, hw1⟩ := hrel
            have RX := Lib.hid hx1
            have RY := Lib.hid hy1
            have RZ := Lib.hid hz1
            have RW := Lib.hid hw1
            clear hx1 hy1 hz1 hw1
            by_cases hn : n ≤ 256
            · have hdn : decide (n ≤ 256) = true := by simp; omega
              obtain ⟨wq, rfl⟩ : ∃ wq : World, wq = wr := ⟨_, rfl⟩
              go_wp2_with fail
              go_loop [10, 11] (fun q i => ∃ (k : Nat) (q' : Bool), k ≤ zs.length ∧ i = .int .i64 k ∧ q = .bool q' ∧ q' = decide (n ∈ zs.take k)) (fun _ i => zs.length - (intOf i).toNat)
              case atStart => exact ⟨0, false, Nat.zero_le _, rfl, rfl, by simp⟩
              case round =>
                obtain ⟨k, q', hk, rfl, rfl, hq⟩ := hrel
                by_cases hkl : k < zs.length
                · have HD := Lib.hid (P.take_snoc zs k hkl)
                  have hcell : wq.cell? ⟨b, off + k, none⟩ = some (.int .i64 (zs.getD k 0)) := (RW.out.cell (p := ⟨b, off + k, none⟩) hbz).trans (hc.out k hkl)
                  obtain ⟨y, hy⟩ : ∃ y, zs.getD k 0 = y := ⟨_, rfl⟩
                  rw [hy] at hcell
                  have HY := Lib.hid hy
                  clear hy
                  have hk0 : (0 : Int) ≤ (k : Int) := Int.natCast_nonneg _
                  have hk1 : (k : Int) < (zs.length : Int) := by omega
                  cases q' with
                  | true =>
                    have HM := Lib.hid (of_decide_eq_true hq.symm)
                    clear hq
                    go_wp2_with fail
                    go_round
                    case rel => exact ⟨k + 1, true, by omega, by go_num, rfl, by rw [HD.out]; simp [HM.out]⟩
                    case measure => simp [intOf]; omega
                  | false =>
                    have HM := Lib.hid (of_decide_eq_false hq.symm)
                    clear hq
                    go_wp2_with fail
                    go_round
                    case rel => exact ⟨k + 1, (y == n), by omega, by go_num, rfl, by rw [HD.out, HY.out]; apply Bool.eq_iff_iff.2; simp [HM.out]; exact eq_comm⟩
                    case measure => simp [intOf]; omega
                · obtain rfl : k = zs.length := by omega
                  rw [List.take_length] at hq
                  cases q' with
                  | false =>
                    have hmem := of_decide_eq_false hq.symm
                    clear hq
                    have hh : P.has (P.ofL zs) n = false := by rw [P.has_ofL]; simp [hmem]
                    have c0 := RX.out.c0
                    have c1 := RX.out.c1
                    have c2 := RX.out.c2
                    have c3 := RX.out.c3
                    clear hmem
                    go_wp2_with fail
                    refine (has_any _ _ _).mono ?_
                    rintro e w' ⟨rfl, hb⟩
                    have HX' := Lib.hid (RX.out.on hb)
                    have HY' := Lib.hid (RY.out.on hb)
                    have HZ' := Lib.hid (RZ.out.on hb)
                    have HW' := Lib.hid (RW.out.trans (hb.mono RW.out.size))
                    clear hb
                    go_wp2_with fail
                    go_roundw
                    case rel => exact ⟨n + 1, by omega, by omega, rfl, HX'.out, HY'.out, HZ'.out, HW'.out⟩
                    case measure => simp [intOf]; omega
                  | true =>
                    have hmem := of_decide_eq_true hq.symm
                    clear hq
                    rcases (by omega : n < 0 ∨ (0 ≤ n ∧ n ≤ 255) ∨ 255 < n) with g | g | g
                    · have hd0 : decide (0 ≤ n) = false := by simp; omega
                      have hh : P.has (P.ofL zs) n = false := by rw [P.has_ofL]; simp; omega
                      have c0 := RX.out.c0
                      have c1 := RX.out.c1
                      have c2 := RX.out.c2
                      have c3 := RX.out.c3
                      clear hmem
                      go_wp2_with fail
                      refine (has_any _ _ _).mono ?_
                      rintro e w' ⟨rfl, hb⟩
                      have HX' := Lib.hid (RX.out.on hb)
                      have HY' := Lib.hid (RY.out.on hb)
                      have HZ' := Lib.hid (RZ.out.on hb)
                      have HW' := Lib.hid (RW.out.trans (hb.mono RW.out.size))
                      clear hb
                      go_wp2_with fail
                      go_roundw
                      case rel => exact ⟨n + 1, by omega, by omega, rfl, HX'.out, HY'.out, HZ'.out, HW'.out⟩
                      case measure => simp [intOf]; omega
                    · have hd0 : decide (0 ≤ n) = true := by simp; omega
                      have hd1 : decide (n ≤ 255) = true := by simp; omega
                      have hh : P.has (P.ofL zs) n = true := by rw [P.has_ofL]; simp [hmem]; omega
                      have c0 := RX.out.c0
                      have c1 := RX.out.c1
                      have c2 := RX.out.c2
                      have c3 := RX.out.c3
                      clear hmem
                      go_wp2_with fail
                      refine (has_any _ _ _).mono ?_
                      rintro e w' ⟨rfl, hb⟩
                      have HX' := Lib.hid (RX.out.on hb)
                      have HY' := Lib.hid (RY.out.on hb)
                      have HZ' := Lib.hid (RZ.out.on hb)
                      have HW' := Lib.hid (RW.out.trans (hb.mono RW.out.size))
                      clear hb
                      go_wp2_with fail
                      go_roundw
                      case rel => exact ⟨n + 1, by omega, by omega, rfl, HX'.out, HY'.out, HZ'.out, HW'.out⟩
                      case measure => simp [intOf]; omega
                    · have hd0 : decide (0 ≤ n) = true := by simp; omega
                      have hd1 : decide (n ≤ 255) = false := by simp; omega
                      have hh : P.has (P.ofL zs) n = false := by rw [P.has_ofL]; simp; omega
                      have c0 := RX.out.c0
                      have c1 := RX.out.c1
                      have c2 := RX.out.c2
                      have c3 := RX.out.c3
                      clear hmem
                      go_wp2_with fail
                      refine (has_any _ _ _).mono ?_
                      rintro e w' ⟨rfl, hb⟩
                      have HX' := Lib.hid (RX.out.on hb)
                      have HY' := Lib.hid (RY.out.on hb)
                      have HZ' := Lib.hid (RZ.out.on hb)
                      have HW' := Lib.hid (RW.out.trans (hb.mono RW.out.size))
                      clear hb
                      go_wp2_with fail
                      go_roundw
                      case rel => exact ⟨n + 1, by omega, by omega, rfl, HX'.out, HY'.out, HZ'.out, HW'.out⟩
                      case measure => simp [intOf]; omega
            · have e1 := fun w => set_eq (P.ofL zs) (P.ofL zs) w
              have hdn : decide (n ≤ 256) = false := by simp; omega
              have c0 := (RX.out).c0
              have c1 := (RX.out).c1
              have c2 := (RX.out).c2
              have c3 := (RX.out).c3
              have d0 := (RY.out).c0
              have d1 := (RY.out).c1
              have d2 := (RY.out).c2
              have d3 := (RY.out).c3
              have g0 := (RZ.out).c0
              have g1 := (RZ.out).c1
              have g2 := (RZ.out).c2
              have g3 := (RZ.out).c3
              go_wp2_with fail
              go_ret
              exact ⟨rfl, RW.out⟩
    · obtain ⟨j, rfl⟩ : ∃ j, k = j + 1 := ⟨k - 1, by omega⟩
      obtain rfl : x = (j : Int) := by omega
      have hj : j < zs.length := by omega
      have HD := Lib.hid (P.drop_one zs j hj)
      clear hx hk hk0
      have hcell : wr.cell? ⟨b, off + j, none⟩ = some (.int .i64 (zs.getD j 0)) := (RW.out.cell (p := ⟨b, off + j, none⟩) hbz).trans (hc.out j hj)
      obtain ⟨y, hy⟩ : ∃ y, zs.getD j 0 = y := ⟨_, rfl⟩
      rw [hy] at hcell
      have HY := Lib.hid hy
      clear hy
      have hj0 : (0 : Int) ≤ (j : Int) := Int.natCast_nonneg _
      have hj1 : (j : Int) < (zs.length : Int) := by omega
      have c0 := (RY.out).c0
      have c1 := (RY.out).c1
      have c2 := (RY.out).c2
      have c3 := (RY.out).c3
      go_wp2_with fail
      go_region_with (go_at_call 30; refine (with_any _ _ _).mono ?_; rintro e w' ⟨rfl, hb⟩; have hb := below_drew hb; have hB := RY.out.on hb; have f0 := hB.free 0; have f1 := hB.free 1; have f2 := hB.free 2; have f3 := hB.free 3; have d0 := hB.c0; have d1 := hB.c1; have d2 := hB.c2; have d3 := hB.c3; have HHB := Lib.hid hB; have HHb := Lib.hid hb; clear hB hb)
      all_goals
        go_wp2_with fail
        go_roundw
        case rel =>
          have hw2' := RW.out.trans (HHb.out.mono RW.out.size)
          have e := HD.out
          rw [HY.out] at e
          refine ⟨j, _, rfl, rfl, by omega, ((RX.out.on HHb.out).store_other (by omega) _), ?_, ((RZ.out.on HHb.out).store_other (by omega) _), below_store hw2' (by omega) _⟩
          rw [e, P.ofL_cons]
          exact HHB.out.store _
        case measure => simp [intOf]
end W
end Go.Proofs.YtoopjgajpooehaaDoor
