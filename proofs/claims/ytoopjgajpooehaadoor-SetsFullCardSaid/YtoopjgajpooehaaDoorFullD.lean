/- What is in the set of all numbers below n, and where it ends; taken from the least one on nothing is left: the walk of the law, in whatever memory. -/
import Derived.Test.YtoopjgajpooehaaDoorTaken
import Derived.Test.YtoopjgajpooehaaDoorFul
import Derived.Test.YtoopjgajpooehaaDoorFullA
namespace Go.Proofs.YtoopjgajpooehaaDoor
open Go.RowKit Go.Sort
namespace W

set_option maxRecDepth 100000 in
set_option maxHeartbeats 4000000 in
theorem full_top_zero (n m : Int) (w : World) (hT : Hid (Tab w)) (n1 : 256 < n) (m0 : 0 ≤ m) (m1 : m ≤ 0) : Calls Tryd.prog 9 #[.int .i64 n, .int .i64 m] w fun e w' => e = .returned (.bool true) ∧ Below w.heap.size w w' := by
  go_enter Tryd.func9, Tryd.ntmps9
  go_wp2_with fail
  refine (shown_any _ hT.out).mono ?_
  rintro e w1 ⟨rfl, hb⟩
  have HW1 := Lib.hid hb
  clear hb
  go_wp2_with fail
  refine (full_any _ _).mono ?_
  rintro e w2 ⟨rfl, hb⟩
  have HW2 := Lib.hid (HW1.out.trans (hb.mono HW1.out.size))
  clear hb HW1
  go_wp2_with fail
  obtain ⟨W, hW⟩ : ∃ W : World, W = w2.alloc (.cells #[.int .u64 (P.wrd (P.full n) 0), .int .u64 (P.wrd (P.full n) 1), .int .u64 (P.wrd (P.full n) 2), .int .u64 (P.wrd (P.full n) 3)] 26) := ⟨_, rfl⟩
  have H0 := Lib.hid (show Blk W w2.heap.size (P.full n) 26 by rw [hW]; exact Blk.new w2 (P.full n) 26)
  have HW := Lib.hid (show Below w.heap.size w W by rw [hW]; exact HW2.out.alloc HW2.out.size _)
  have HT := Lib.hid (hT.out.on HW.out)
  rw [← hW]
  have hw2 : w.heap.size ≤ w2.heap.size := HW2.out.size
  have HZ2 := Lib.hid hw2
  clear hW HW2 hw2
  have gn : P.full n = P.full 256 := P.full_most (by omega)
  have gm : P.full m = P.full 0 := P.full_least (by omega)
  have HL := Lib.hid (P.lst_full gn (by omega) (by omega))
  have hl := P.len_full gn (by omega) (by omega)
  have hin := P.in_full gn (by omega) (by omega) gm (by omega) (by omega)
  have hh : P.has (P.full n) m = decide (m < 256) := P.has_full gn (by omega) (by omega)
  clear gn gm
  have hd : decide (0 ≤ m) = true := by simp; omega
  have k0 := fun d os => (H0.out.grown d os).c0
  have k1 := fun d os => (H0.out.grown d os).c1
  have k2 := fun d os => (H0.out.grown d os).c2
  have k3 := fun d os => (H0.out.grown d os).c3
  refine wp_region_quiet_below (by kernel_rfl) (by kernel_rfl) ?_
  repeat (first | go_big_quiet_step (first | (go_at_call 24; exact cLen _ _ _ _) | (go_at_call 22; exact cHas _ _ _ _ _) | (go_at_call 13; exact cFull _ _ _ _) | (go_at_call 28; exact cInB _ _ _ _ hin _ _)) | quiet_step (first | (go_at_call 24; exact cLen _ _ _ _) | (go_at_call 22; exact cHas _ _ _ _ _) | (go_at_call 13; exact cFull _ _ _ _) | (go_at_call 28; exact cInB _ _ _ _ hin _ _)))
  refine wpQuiet_nil ?_
  intro _ hw'
  obtain ⟨⟨dq, osq⟩, hw''⟩ := hw'
  subst hw''
  have hb := below_regrown W dq osq
  obtain ⟨W5, hW5⟩ : ∃ W5 : World, W5 = grow (redrawn W dq) osq := ⟨_, rfl⟩
  rw [← hW5] at hb ⊢
  have H5 := Lib.hid (H0.out.on hb)
  have HW5 := Lib.hid (HW.out.trans (hb.mono HW.out.size))
  have HT5 := Lib.hid (HT.out.on hb)
  clear hW5 hb hl hin hh hd k0 k1 k2 k3
  go_wp2_with fail
  go_loopw [8] (fun i wr => ∃ (k : Nat) (t : BitVec 256), (k : Int) ≤ 256 ∧ i = .int .i64 k ∧ P.lst t = (List.range (256 : Int).toNat).drop k ∧ Blk wr w2.heap.size t 26 ∧ Below w2.heap.size W5 wr) (fun i _ => (256 : Int).toNat - (intOf i).toNat)
  case atStart => exact ⟨0, P.full n, by omega, rfl, HL.out, H5.out, Below.refl _ _⟩
  case round =>
    obtain ⟨k, t, hk, rfl, hlt, hbt, hy⟩ := hrel
    have HLT := Lib.hid hlt
    have HB := Lib.hid hbt
    have HY := Lib.hid hy
    have hw5 : w2.heap.size ≤ W5.heap.size := Nat.le_of_lt H5.out.lt
    have HTc := Lib.hid (HT5.out.below hy (Nat.lt_of_lt_of_le hT.out.size HZ2.out))
    have HWc := Lib.hid (HW5.out.trans (hy.mono HZ2.out))
    clear hlt hbt hy hw5
    by_cases hkl : (k : Int) < 256
    · have HD := Lib.hid (HLT.out.trans (P.drop_range (by omega)))
      have hl : P.least t = ((k : Nat) : Int) := by rw [P.least_lst, HD.out]; rfl
      have HX0 := Lib.hid (Below.refl wr.heap.size wr)
      have d0 := (HB.out.on HX0.out).c0
      have d1 := (HB.out.on HX0.out).c1
      have d2 := (HB.out.on HX0.out).c2
      have d3 := (HB.out.on HX0.out).c3
      go_wp2_with fail
      refine (least_any _ _ HTc.out).mono ?_
      rintro e w' ⟨rfl, hb⟩
      have HX1 := Lib.hid (HX0.out.trans (hb.mono HX0.out.size))
      clear hb d0 d1 d2 d3
      have d0 := (HB.out.on HX1.out).c0
      have d1 := (HB.out.on HX1.out).c1
      have d2 := (HB.out.on HX1.out).c2
      have d3 := (HB.out.on HX1.out).c3
      go_wp2_with fail
      refine (less_any _ _ _).mono ?_
      rintro e w' ⟨rfl, hb⟩
      have HX2 := Lib.hid (HX1.out.trans (hb.mono HX1.out.size))
      clear hb d0 d1 d2 d3
      have d0 := (HB.out.on HX2.out).c0
      have d1 := (HB.out.on HX2.out).c1
      have d2 := (HB.out.on HX2.out).c2
      have d3 := (HB.out.on HX2.out).c3
      have f0 := (HB.out.on HX2.out).free 0
      have f1 := (HB.out.on HX2.out).free 1
      have f2 := (HB.out.on HX2.out).free 2
      have f3 := (HB.out.on HX2.out).free 3
      go_wp2_with fail
      go_roundw
      case rel =>
        have hz : w2.heap.size ≤ w2.heap.size := Nat.le_refl _
        have hbel := HY.out.trans (HX2.out.mono (Nat.le_of_lt HB.out.lt))
        first
          | exact ⟨k + 1, t &&& ~~~P.bit ((k : Nat) : Int), by omega, by go_num, P.lst_less HD.out, (HB.out.on HX2.out).store _, (((hbel.setCell hz _).setCell hz _).setCell hz _).setCell hz _⟩
          | ((repeat apply Exists.intro); exact ⟨⟨k + 1, t &&& ~~~P.bit ((k : Nat) : Int), by omega, by go_num, P.lst_less HD.out, (HB.out.on HX2.out).store _, (((hbel.setCell hz _).setCell hz _).setCell hz _).setCell hz _⟩, rfl⟩)
      case measure => simp [intOf]; omega
    · have hkz : (k : Int) = 256 := by omega
      have ht : t = 0#256 := P.lst_nil (by rw [HLT.out]; apply List.drop_eq_nil_of_le; simp; omega)
      subst ht
      clear hkz
      have e1 := eq_zero
      have e2 := least_zero
      have d0 := HB.out.c0
      have d1 := HB.out.c1
      have d2 := HB.out.c2
      have d3 := HB.out.c3
      go_wp2_with fail
      refine (least_any _ _ HTc.out).mono ?_
      rintro e w' ⟨rfl, hb⟩
      have HX1 := Lib.hid (HWc.out.trans (hb.mono HWc.out.size))
      have HB1 := Lib.hid (HB.out.on hb)
      have HT1 := Lib.hid (HTc.out.on hb)
      clear hb d0 d1 d2 d3
      have d0 := HB1.out.c0
      have d1 := HB1.out.c1
      have d2 := HB1.out.c2
      have d3 := HB1.out.c3
      go_wp2_with fail
      refine (list_zero _ HT1.out).mono ?_
      rintro e w3 ⟨v3, rfl, hown3, hb3⟩
      obtain ⟨o3, cap3, rfl⟩ : ∃ o cap, v3 = .slice o 0 cap := by
        rcases hown3.2 with ⟨h, _⟩ | ⟨g, cap, cur, h, _⟩
        · exact ⟨none, 0, h⟩
        · exact ⟨some ⟨g, 0, none⟩, cap, h⟩
      have HX2 := Lib.hid (HX1.out.trans (hb3.mono HX1.out.size))
      clear hown3 hb3 d0 d1 d2 d3
      go_wp2_with fail
      go_ret
      exact ⟨rfl, HX2.out⟩

set_option maxRecDepth 100000 in
set_option maxHeartbeats 4000000 in
theorem full_top_mid (n m : Int) (w : World) (hT : Hid (Tab w)) (n1 : 256 < n) (m0 : 0 < m) (m1 : m ≤ 256) : Calls Tryd.prog 9 #[.int .i64 n, .int .i64 m] w fun e w' => e = .returned (.bool true) ∧ Below w.heap.size w w' := by
  go_enter Tryd.func9, Tryd.ntmps9
  go_wp2_with fail
  refine (shown_any _ hT.out).mono ?_
  rintro e w1 ⟨rfl, hb⟩
  have HW1 := Lib.hid hb
  clear hb
  go_wp2_with fail
  refine (full_any _ _).mono ?_
  rintro e w2 ⟨rfl, hb⟩
  have HW2 := Lib.hid (HW1.out.trans (hb.mono HW1.out.size))
  clear hb HW1
  go_wp2_with fail
  obtain ⟨W, hW⟩ : ∃ W : World, W = w2.alloc (.cells #[.int .u64 (P.wrd (P.full n) 0), .int .u64 (P.wrd (P.full n) 1), .int .u64 (P.wrd (P.full n) 2), .int .u64 (P.wrd (P.full n) 3)] 26) := ⟨_, rfl⟩
  have H0 := Lib.hid (show Blk W w2.heap.size (P.full n) 26 by rw [hW]; exact Blk.new w2 (P.full n) 26)
  have HW := Lib.hid (show Below w.heap.size w W by rw [hW]; exact HW2.out.alloc HW2.out.size _)
  have HT := Lib.hid (hT.out.on HW.out)
  rw [← hW]
  have hw2 : w.heap.size ≤ w2.heap.size := HW2.out.size
  have HZ2 := Lib.hid hw2
  clear hW HW2 hw2
  have gn : P.full n = P.full 256 := P.full_most (by omega)
  have gm : P.full m = P.full m := rfl
  have HL := Lib.hid (P.lst_full gn (by omega) (by omega))
  have hl := P.len_full gn (by omega) (by omega)
  have hin := P.in_full gn (by omega) (by omega) gm (by omega) (by omega)
  have hh : P.has (P.full n) m = decide (m < 256) := P.has_full gn (by omega) (by omega)
  clear gn gm
  have hd : decide (0 ≤ m) = true := by simp; omega
  have k0 := fun d os => (H0.out.grown d os).c0
  have k1 := fun d os => (H0.out.grown d os).c1
  have k2 := fun d os => (H0.out.grown d os).c2
  have k3 := fun d os => (H0.out.grown d os).c3
  refine wp_region_quiet_below (by kernel_rfl) (by kernel_rfl) ?_
  repeat (first | go_big_quiet_step (first | (go_at_call 24; exact cLen _ _ _ _) | (go_at_call 22; exact cHas _ _ _ _ _) | (go_at_call 13; exact cFull _ _ _ _) | (go_at_call 28; exact cInB _ _ _ _ hin _ _)) | quiet_step (first | (go_at_call 24; exact cLen _ _ _ _) | (go_at_call 22; exact cHas _ _ _ _ _) | (go_at_call 13; exact cFull _ _ _ _) | (go_at_call 28; exact cInB _ _ _ _ hin _ _)))
  refine wpQuiet_nil ?_
  intro _ hw'
  obtain ⟨⟨dq, osq⟩, hw''⟩ := hw'
  subst hw''
  have hb := below_regrown W dq osq
  obtain ⟨W5, hW5⟩ : ∃ W5 : World, W5 = grow (redrawn W dq) osq := ⟨_, rfl⟩
  rw [← hW5] at hb ⊢
  have H5 := Lib.hid (H0.out.on hb)
  have HW5 := Lib.hid (HW.out.trans (hb.mono HW.out.size))
  have HT5 := Lib.hid (HT.out.on hb)
  clear hW5 hb hl hin hh hd k0 k1 k2 k3
  go_wp2_with fail
  go_loopw [8] (fun i wr => ∃ (k : Nat) (t : BitVec 256), (k : Int) ≤ 256 ∧ i = .int .i64 k ∧ P.lst t = (List.range (256 : Int).toNat).drop k ∧ Blk wr w2.heap.size t 26 ∧ Below w2.heap.size W5 wr) (fun i _ => (256 : Int).toNat - (intOf i).toNat)
  case atStart => exact ⟨0, P.full n, by omega, rfl, HL.out, H5.out, Below.refl _ _⟩
  case round =>
    obtain ⟨k, t, hk, rfl, hlt, hbt, hy⟩ := hrel
    have HLT := Lib.hid hlt
    have HB := Lib.hid hbt
    have HY := Lib.hid hy
    have hw5 : w2.heap.size ≤ W5.heap.size := Nat.le_of_lt H5.out.lt
    have HTc := Lib.hid (HT5.out.below hy (Nat.lt_of_lt_of_le hT.out.size HZ2.out))
    have HWc := Lib.hid (HW5.out.trans (hy.mono HZ2.out))
    clear hlt hbt hy hw5
    by_cases hkl : (k : Int) < 256
    · have HD := Lib.hid (HLT.out.trans (P.drop_range (by omega)))
      have hl : P.least t = ((k : Nat) : Int) := by rw [P.least_lst, HD.out]; rfl
      have HX0 := Lib.hid (Below.refl wr.heap.size wr)
      have d0 := (HB.out.on HX0.out).c0
      have d1 := (HB.out.on HX0.out).c1
      have d2 := (HB.out.on HX0.out).c2
      have d3 := (HB.out.on HX0.out).c3
      go_wp2_with fail
      refine (least_any _ _ HTc.out).mono ?_
      rintro e w' ⟨rfl, hb⟩
      have HX1 := Lib.hid (HX0.out.trans (hb.mono HX0.out.size))
      clear hb d0 d1 d2 d3
      have d0 := (HB.out.on HX1.out).c0
      have d1 := (HB.out.on HX1.out).c1
      have d2 := (HB.out.on HX1.out).c2
      have d3 := (HB.out.on HX1.out).c3
      go_wp2_with fail
      refine (less_any _ _ _).mono ?_
      rintro e w' ⟨rfl, hb⟩
      have HX2 := Lib.hid (HX1.out.trans (hb.mono HX1.out.size))
      clear hb d0 d1 d2 d3
      have d0 := (HB.out.on HX2.out).c0
      have d1 := (HB.out.on HX2.out).c1
      have d2 := (HB.out.on HX2.out).c2
      have d3 := (HB.out.on HX2.out).c3
      have f0 := (HB.out.on HX2.out).free 0
      have f1 := (HB.out.on HX2.out).free 1
      have f2 := (HB.out.on HX2.out).free 2
      have f3 := (HB.out.on HX2.out).free 3
      go_wp2_with fail
      go_roundw
      case rel =>
        have hz : w2.heap.size ≤ w2.heap.size := Nat.le_refl _
        have hbel := HY.out.trans (HX2.out.mono (Nat.le_of_lt HB.out.lt))
        first
          | exact ⟨k + 1, t &&& ~~~P.bit ((k : Nat) : Int), by omega, by go_num, P.lst_less HD.out, (HB.out.on HX2.out).store _, (((hbel.setCell hz _).setCell hz _).setCell hz _).setCell hz _⟩
          | ((repeat apply Exists.intro); exact ⟨⟨k + 1, t &&& ~~~P.bit ((k : Nat) : Int), by omega, by go_num, P.lst_less HD.out, (HB.out.on HX2.out).store _, (((hbel.setCell hz _).setCell hz _).setCell hz _).setCell hz _⟩, rfl⟩)
      case measure => simp [intOf]; omega
    · have hkz : (k : Int) = 256 := by omega
      have ht : t = 0#256 := P.lst_nil (by rw [HLT.out]; apply List.drop_eq_nil_of_le; simp; omega)
      subst ht
      clear hkz
      have e1 := eq_zero
      have e2 := least_zero
      have d0 := HB.out.c0
      have d1 := HB.out.c1
      have d2 := HB.out.c2
      have d3 := HB.out.c3
      go_wp2_with fail
      refine (least_any _ _ HTc.out).mono ?_
      rintro e w' ⟨rfl, hb⟩
      have HX1 := Lib.hid (HWc.out.trans (hb.mono HWc.out.size))
      have HB1 := Lib.hid (HB.out.on hb)
      have HT1 := Lib.hid (HTc.out.on hb)
      clear hb d0 d1 d2 d3
      have d0 := HB1.out.c0
      have d1 := HB1.out.c1
      have d2 := HB1.out.c2
      have d3 := HB1.out.c3
      go_wp2_with fail
      refine (list_zero _ HT1.out).mono ?_
      rintro e w3 ⟨v3, rfl, hown3, hb3⟩
      obtain ⟨o3, cap3, rfl⟩ : ∃ o cap, v3 = .slice o 0 cap := by
        rcases hown3.2 with ⟨h, _⟩ | ⟨g, cap, cur, h, _⟩
        · exact ⟨none, 0, h⟩
        · exact ⟨some ⟨g, 0, none⟩, cap, h⟩
      have HX2 := Lib.hid (HX1.out.trans (hb3.mono HX1.out.size))
      clear hown3 hb3 d0 d1 d2 d3
      go_wp2_with fail
      go_ret
      exact ⟨rfl, HX2.out⟩

set_option maxRecDepth 100000 in
set_option maxHeartbeats 4000000 in
theorem full_top_top (n m : Int) (w : World) (hT : Hid (Tab w)) (n1 : 256 < n) (m1 : 256 < m) : Calls Tryd.prog 9 #[.int .i64 n, .int .i64 m] w fun e w' => e = .returned (.bool true) ∧ Below w.heap.size w w' := by
  go_enter Tryd.func9, Tryd.ntmps9
  go_wp2_with fail
  refine (shown_any _ hT.out).mono ?_
  rintro e w1 ⟨rfl, hb⟩
  have HW1 := Lib.hid hb
  clear hb
  go_wp2_with fail
  refine (full_any _ _).mono ?_
  rintro e w2 ⟨rfl, hb⟩
  have HW2 := Lib.hid (HW1.out.trans (hb.mono HW1.out.size))
  clear hb HW1
  go_wp2_with fail
  obtain ⟨W, hW⟩ : ∃ W : World, W = w2.alloc (.cells #[.int .u64 (P.wrd (P.full n) 0), .int .u64 (P.wrd (P.full n) 1), .int .u64 (P.wrd (P.full n) 2), .int .u64 (P.wrd (P.full n) 3)] 26) := ⟨_, rfl⟩
  have H0 := Lib.hid (show Blk W w2.heap.size (P.full n) 26 by rw [hW]; exact Blk.new w2 (P.full n) 26)
  have HW := Lib.hid (show Below w.heap.size w W by rw [hW]; exact HW2.out.alloc HW2.out.size _)
  have HT := Lib.hid (hT.out.on HW.out)
  rw [← hW]
  have hw2 : w.heap.size ≤ w2.heap.size := HW2.out.size
  have HZ2 := Lib.hid hw2
  clear hW HW2 hw2
  have gn : P.full n = P.full 256 := P.full_most (by omega)
  have gm : P.full m = P.full 256 := P.full_most (by omega)
  have HL := Lib.hid (P.lst_full gn (by omega) (by omega))
  have hl := P.len_full gn (by omega) (by omega)
  have hin := P.in_full gn (by omega) (by omega) gm (by omega) (by omega)
  have hh : P.has (P.full n) m = decide (m < 256) := P.has_full gn (by omega) (by omega)
  clear gn gm
  have hd : decide (0 ≤ m) = true := by simp; omega
  have k0 := fun d os => (H0.out.grown d os).c0
  have k1 := fun d os => (H0.out.grown d os).c1
  have k2 := fun d os => (H0.out.grown d os).c2
  have k3 := fun d os => (H0.out.grown d os).c3
  refine wp_region_quiet_below (by kernel_rfl) (by kernel_rfl) ?_
  repeat (first | go_big_quiet_step (first | (go_at_call 24; exact cLen _ _ _ _) | (go_at_call 22; exact cHas _ _ _ _ _) | (go_at_call 13; exact cFull _ _ _ _) | (go_at_call 28; exact cInB _ _ _ _ hin _ _)) | quiet_step (first | (go_at_call 24; exact cLen _ _ _ _) | (go_at_call 22; exact cHas _ _ _ _ _) | (go_at_call 13; exact cFull _ _ _ _) | (go_at_call 28; exact cInB _ _ _ _ hin _ _)))
  refine wpQuiet_nil ?_
  intro _ hw'
  obtain ⟨⟨dq, osq⟩, hw''⟩ := hw'
  subst hw''
  have hb := below_regrown W dq osq
  obtain ⟨W5, hW5⟩ : ∃ W5 : World, W5 = grow (redrawn W dq) osq := ⟨_, rfl⟩
  rw [← hW5] at hb ⊢
  have H5 := Lib.hid (H0.out.on hb)
  have HW5 := Lib.hid (HW.out.trans (hb.mono HW.out.size))
  have HT5 := Lib.hid (HT.out.on hb)
  clear hW5 hb hl hin hh hd k0 k1 k2 k3
  go_wp2_with fail
  go_loopw [8] (fun i wr => ∃ (k : Nat) (t : BitVec 256), (k : Int) ≤ 256 ∧ i = .int .i64 k ∧ P.lst t = (List.range (256 : Int).toNat).drop k ∧ Blk wr w2.heap.size t 26 ∧ Below w2.heap.size W5 wr) (fun i _ => (256 : Int).toNat - (intOf i).toNat)
  case atStart => exact ⟨0, P.full n, by omega, rfl, HL.out, H5.out, Below.refl _ _⟩
  case round =>
    obtain ⟨k, t, hk, rfl, hlt, hbt, hy⟩ := hrel
    have HLT := Lib.hid hlt
    have HB := Lib.hid hbt
    have HY := Lib.hid hy
    have hw5 : w2.heap.size ≤ W5.heap.size := Nat.le_of_lt H5.out.lt
    have HTc := Lib.hid (HT5.out.below hy (Nat.lt_of_lt_of_le hT.out.size HZ2.out))
    have HWc := Lib.hid (HW5.out.trans (hy.mono HZ2.out))
    clear hlt hbt hy hw5
    by_cases hkl : (k : Int) < 256
    · have HD := Lib.hid (HLT.out.trans (P.drop_range (by omega)))
      have hl : P.least t = ((k : Nat) : Int) := by rw [P.least_lst, HD.out]; rfl
      have HX0 := Lib.hid (Below.refl wr.heap.size wr)
      have d0 := (HB.out.on HX0.out).c0
      have d1 := (HB.out.on HX0.out).c1
      have d2 := (HB.out.on HX0.out).c2
      have d3 := (HB.out.on HX0.out).c3
      go_wp2_with fail
      refine (least_any _ _ HTc.out).mono ?_
      rintro e w' ⟨rfl, hb⟩
      have HX1 := Lib.hid (HX0.out.trans (hb.mono HX0.out.size))
      clear hb d0 d1 d2 d3
      have d0 := (HB.out.on HX1.out).c0
      have d1 := (HB.out.on HX1.out).c1
      have d2 := (HB.out.on HX1.out).c2
      have d3 := (HB.out.on HX1.out).c3
      go_wp2_with fail
      refine (less_any _ _ _).mono ?_
      rintro e w' ⟨rfl, hb⟩
      have HX2 := Lib.hid (HX1.out.trans (hb.mono HX1.out.size))
      clear hb d0 d1 d2 d3
      have d0 := (HB.out.on HX2.out).c0
      have d1 := (HB.out.on HX2.out).c1
      have d2 := (HB.out.on HX2.out).c2
      have d3 := (HB.out.on HX2.out).c3
      have f0 := (HB.out.on HX2.out).free 0
      have f1 := (HB.out.on HX2.out).free 1
      have f2 := (HB.out.on HX2.out).free 2
      have f3 := (HB.out.on HX2.out).free 3
      go_wp2_with fail
      go_roundw
      case rel =>
        have hz : w2.heap.size ≤ w2.heap.size := Nat.le_refl _
        have hbel := HY.out.trans (HX2.out.mono (Nat.le_of_lt HB.out.lt))
        first
          | exact ⟨k + 1, t &&& ~~~P.bit ((k : Nat) : Int), by omega, by go_num, P.lst_less HD.out, (HB.out.on HX2.out).store _, (((hbel.setCell hz _).setCell hz _).setCell hz _).setCell hz _⟩
          | ((repeat apply Exists.intro); exact ⟨⟨k + 1, t &&& ~~~P.bit ((k : Nat) : Int), by omega, by go_num, P.lst_less HD.out, (HB.out.on HX2.out).store _, (((hbel.setCell hz _).setCell hz _).setCell hz _).setCell hz _⟩, rfl⟩)
      case measure => simp [intOf]; omega
    · have hkz : (k : Int) = 256 := by omega
      have ht : t = 0#256 := P.lst_nil (by rw [HLT.out]; apply List.drop_eq_nil_of_le; simp; omega)
      subst ht
      clear hkz
      have e1 := eq_zero
      have e2 := least_zero
      have d0 := HB.out.c0
      have d1 := HB.out.c1
      have d2 := HB.out.c2
      have d3 := HB.out.c3
      go_wp2_with fail
      refine (least_any _ _ HTc.out).mono ?_
      rintro e w' ⟨rfl, hb⟩
      have HX1 := Lib.hid (HWc.out.trans (hb.mono HWc.out.size))
      have HB1 := Lib.hid (HB.out.on hb)
      have HT1 := Lib.hid (HTc.out.on hb)
      clear hb d0 d1 d2 d3
      have d0 := HB1.out.c0
      have d1 := HB1.out.c1
      have d2 := HB1.out.c2
      have d3 := HB1.out.c3
      go_wp2_with fail
      refine (list_zero _ HT1.out).mono ?_
      rintro e w3 ⟨v3, rfl, hown3, hb3⟩
      obtain ⟨o3, cap3, rfl⟩ : ∃ o cap, v3 = .slice o 0 cap := by
        rcases hown3.2 with ⟨h, _⟩ | ⟨g, cap, cur, h, _⟩
        · exact ⟨none, 0, h⟩
        · exact ⟨some ⟨g, 0, none⟩, cap, h⟩
      have HX2 := Lib.hid (HX1.out.trans (hb3.mono HX1.out.size))
      clear hown3 hb3 d0 d1 d2 d3
      go_wp2_with fail
      go_ret
      exact ⟨rfl, HX2.out⟩
end W
end Go.Proofs.YtoopjgajpooehaaDoor
