/- The same of a list without numbers. -/
import Derived.Test.YtoopjgajpooehaaDoorWays
namespace Go.Proofs.YtoopjgajpooehaaDoor
open Go.RowKit Go.Sort
namespace W

set_option maxRecDepth 100000 in
set_option maxHeartbeats 2000000 in
theorem ways_none (a : Option Addr) (cap : Nat) (w : World) (hT : Hid (Tab w)) :
    Calls Tryd.prog 10 #[.slice a 0 cap] w fun e w' => e = .returned (.bool true) ∧ Below w.heap.size w w' := by
  go_enter Tryd.func10, Tryd.ntmps10
  go_wp2_with fail
  refine (shown_any _ hT.out).mono ?_
  rintro e w1 ⟨rfl, hb⟩
  have X1 := Lib.hid hb
  clear hb
  go_wp2_with fail
  refine (of_none _ _ _).mono ?_
  rintro e w2 ⟨rfl, hb⟩
  have X2 := Lib.hid (X1.out.trans (hb.mono X1.out.size))
  clear hb X1
  go_wp2_with fail
  obtain ⟨W0, hW0⟩ : ∃ X : World, X = ((w2.alloc (.cells #[.int .u64 (P.wrd 0#256 0), .int .u64 (P.wrd 0#256 1), .int .u64 (P.wrd 0#256 2), .int .u64 (P.wrd 0#256 3)] 26)).alloc (.cells #[.int .u64 0, .int .u64 0, .int .u64 0, .int .u64 0] 26)).alloc (.cells #[.int .u64 0, .int .u64 0, .int .u64 0, .int .u64 0] 26) := ⟨_, rfl⟩
  have hbx : Below w2.heap.size w2 W0 := by rw [hW0]; exact ((((Below.refl _ _).alloc (Nat.le_refl _) _).alloc (by simp) _).alloc (by simp <;> omega) _)
  have BX := Lib.hid (show Blk W0 w2.heap.size 0#256 26 by rw [hW0]; exact ((Blk.new w2 0#256 26).on ((Below.refl _ _).alloc (Nat.le_refl _) _)).on ((Below.refl _ _).alloc (Nat.le_refl _) _))
  have BY := Lib.hid (show Blk W0 (w2.heap.size + 1) 0#256 26 by rw [hW0]; have h := heap_alloc2_old (w2.alloc (.cells #[.int .u64 (P.wrd 0#256 0), .int .u64 (P.wrd 0#256 1), .int .u64 (P.wrd 0#256 2), .int .u64 (P.wrd 0#256 3)] 26)) (.cells #[.int .u64 0, .int .u64 0, .int .u64 0, .int .u64 0] 26) (.cells #[.int .u64 0, .int .u64 0, .int .u64 0, .int .u64 0] 26); exact Blk.zero (by simpa using h))
  have BZ := Lib.hid (show Blk W0 (w2.heap.size + 1 + 1) 0#256 26 by rw [hW0]; have h := heap_alloc2_new (w2.alloc (.cells #[.int .u64 (P.wrd 0#256 0), .int .u64 (P.wrd 0#256 1), .int .u64 (P.wrd 0#256 2), .int .u64 (P.wrd 0#256 3)] 26)) (.cells #[.int .u64 0, .int .u64 0, .int .u64 0, .int .u64 0] 26) (.cells #[.int .u64 0, .int .u64 0, .int .u64 0, .int .u64 0] 26); exact Blk.zero (by simpa using h))
  have X3 := Lib.hid (X2.out.trans (hbx.mono X2.out.size))
  rw [← hW0]
  clear hW0 hbx X2
  refine wp_loop_rounds 1 ?_
  rw [rounds_succ]
  go_wp2_with fail
  refine wp_loop_rounds 1 ?_
  rw [rounds_succ]
  go_wp2_with fail
  go_loopw [9] (fun i wr => ∃ n : Int, -1 ≤ n ∧ n ≤ 257 ∧ i = .int .i64 n ∧ Blk wr w2.heap.size 0#256 26 ∧ Blk wr (w2.heap.size + 1) 0#256 26 ∧ Blk wr (w2.heap.size + 1 + 1) 0#256 26 ∧ Below w.heap.size w wr) (fun i _ => (257 - intOf i).toNat)
  case atStart => exact ⟨-1, by omega, by omega, rfl, BX.out, BY.out, BZ.out, X3.out⟩
  case round =>
    obtain ⟨n, hn0, hn1, rfl, hx1, hy1, hz1, hw1⟩ := hrel
    have RX := Lib.hid hx1
    have RY := Lib.hid hy1
    have RZ := Lib.hid hz1
    have RW := Lib.hid hw1
    clear hx1 hy1 hz1 hw1
    by_cases hn : n ≤ 256
    · have hdn : decide (n ≤ 256) = true := by simp; omega
      go_wp2_with fail
      refine wp_loop_rounds 1 ?_
      rw [rounds_succ]
      have hh : P.has (0#256) n = false := by unfold P.has; simp
      have c0 := RX.out.c0
      have c1 := RX.out.c1
      have c2 := RX.out.c2
      have c3 := RX.out.c3
      go_wp2_with fail
      refine (has_any _ _ _).mono ?_
      rintro e w' ⟨rfl, hb⟩
      have HX' := Lib.hid (RX.out.on hb)
      have HY' := Lib.hid (RY.out.on hb)
      have HZ' := Lib.hid (RZ.out.on hb)
      have HW' := Lib.hid (RW.out.trans (hb.mono RW.out.size))
      clear hb
      go_wp2_with fail
      go_roundw
      case rel => exact ⟨n + 1, by omega, by omega, rfl, HX'.out, HY'.out, HZ'.out, HW'.out⟩
      case measure => simp [intOf]; omega
    · have e1 := fun w => set_eq 0#256 0#256 w
      have hdn : decide (n ≤ 256) = false := by simp; omega
      have c0 := (RX.out).c0
      have c1 := (RX.out).c1
      have c2 := (RX.out).c2
      have c3 := (RX.out).c3
      have d0 := (RY.out).c0
      have d1 := (RY.out).c1
      have d2 := (RY.out).c2
      have d3 := (RY.out).c3
      have g0 := (RZ.out).c0
      have g1 := (RZ.out).c1
      have g2 := (RZ.out).c2
      have g3 := (RZ.out).c3
      go_wp2_with fail
      go_ret
      exact ⟨rfl, RW.out⟩
theorem ways_all (v : Value) (zs : List Int) (w : World) (hT : Tab w) (hv : Ints w v zs) : Calls Tryd.prog 10 #[v] w fun e w' => e = .returned (.bool true) ∧ Below w.heap.size w w' := by
  have hv' := hv
  obtain ⟨a, cap, rfl, hm, h⟩ := hv
  rcases h with h | ⟨b, off, rfl, hb, hc⟩
  · rw [h]; exact ways_none a cap w (Lib.hid hT)
  · by_cases hz : zs.length = 0
    · rw [hz]; exact ways_none _ cap w (Lib.hid hT)
    · exact ways_any _ zs w (Lib.hid hT) (Lib.hid hv') b off cap rfl (by omega) hb (Lib.hid hc) hm
end W
end Go.Proofs.YtoopjgajpooehaaDoor
