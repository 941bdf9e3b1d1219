/- How many numbers there are in one of two sets and in both together, with and without a number: the walk of the law, for every two sets and number, in whatever memory. -/
import Derived.Test.YtoopjgajpooehaaDoorClass
import Derived.Test.YtoopjgajpooehaaDoorCnt
namespace Go.Proofs.YtoopjgajpooehaaDoor
open Go.RowKit Go.Sort
namespace W

set_option maxRecDepth 100000 in
set_option maxHeartbeats 4000000 in
theorem counts_in (a b : BitVec 256) (n : Int) (w : World) (hT : Hid (Tab w)) (h0 : 0 ≤ n) (h1 : n < 256) (hs : P.has a n = true) : Calls Tryd.prog 7 #[.agg #[.int .u64 (P.wrd a 0), .int .u64 (P.wrd a 1), .int .u64 (P.wrd a 2), .int .u64 (P.wrd a 3)], .agg #[.int .u64 (P.wrd b 0), .int .u64 (P.wrd b 1), .int .u64 (P.wrd b 2), .int .u64 (P.wrd b 3)], .int .i64 n] w fun e w' => e = .returned (.bool true) ∧ Below w.heap.size w w' := by
  have hh : P.has a n = true := hs
  go_enter Tryd.func7, Tryd.ntmps7
  go_wp2_with fail
  refine (shown_any _ ?_).mono ?_
  · exact ((hT.out.on ((Below.refl _ _).alloc (Nat.le_refl _) _)).on ((Below.refl _ _).alloc (Nat.le_refl _) _))
  rintro e w1 ⟨rfl, hb⟩
  have hz : w.heap.size + 2 ≤ w1.heap.size := by have := hb.size; simp at this; omega
  have HB := Lib.hid (show Below w.heap.size w w1 from (((Below.refl w.heap.size w).alloc (by simp) (.cells #[.int .u64 (P.wrd a 0), .int .u64 (P.wrd a 1), .int .u64 (P.wrd a 2), .int .u64 (P.wrd a 3)] 25)).alloc (by simp <;> omega) (.cells #[.int .u64 (P.wrd b 0), .int .u64 (P.wrd b 1), .int .u64 (P.wrd b 2), .int .u64 (P.wrd b 3)] 25)).trans (hb.mono (by simp <;> omega)))
  have k0 : ∀ i, w1.cell? ⟨w.heap.size, i, none⟩ = #[.int .u64 (P.wrd a 0), .int .u64 (P.wrd a 1), .int .u64 (P.wrd a 2), .int .u64 (P.wrd a 3)][i]? := fun i => by rw [hb.cell (by show w.heap.size < _; simp <;> omega), World.cell?_alloc_past _ _ _ (by simp <;> omega), World.cell?_alloc_at _ _ _ _ rfl]
  have k1 : ∀ i, w1.cell? ⟨w.heap.size + 1, i, none⟩ = #[.int .u64 (P.wrd b 0), .int .u64 (P.wrd b 1), .int .u64 (P.wrd b 2), .int .u64 (P.wrd b 3)][i]? := fun i => by rw [hb.cell (by show w.heap.size + 1 < _; simp <;> omega), World.cell?_alloc_at _ _ _ _ (by simp)]
  clear hb
  have h00 : w.heap.size < w1.heap.size := by omega
  have h01 : w.heap.size + 1 < w1.heap.size := by omega
  have k00 : w1.cell? ⟨w.heap.size, 0, none⟩ = some (.int .u64 (P.wrd a 0)) := (k0 0).trans rfl
  have k01 : w1.cell? ⟨w.heap.size, 1, none⟩ = some (.int .u64 (P.wrd a 1)) := (k0 1).trans rfl
  have k02 : w1.cell? ⟨w.heap.size, 2, none⟩ = some (.int .u64 (P.wrd a 2)) := (k0 2).trans rfl
  have k03 : w1.cell? ⟨w.heap.size, 3, none⟩ = some (.int .u64 (P.wrd a 3)) := (k0 3).trans rfl
  have k10 : w1.cell? ⟨w.heap.size + 1, 0, none⟩ = some (.int .u64 (P.wrd b 0)) := (k1 0).trans rfl
  have k11 : w1.cell? ⟨w.heap.size + 1, 1, none⟩ = some (.int .u64 (P.wrd b 1)) := (k1 1).trans rfl
  have k12 : w1.cell? ⟨w.heap.size + 1, 2, none⟩ = some (.int .u64 (P.wrd b 2)) := (k1 2).trans rfl
  have k13 : w1.cell? ⟨w.heap.size + 1, 3, none⟩ = some (.int .u64 (P.wrd b 3)) := (k1 3).trans rfl
  clear k0 k1
  go_wp2_with fail
  obtain ⟨W, hW⟩ : ∃ W : World, W = ((w1.alloc (.cells #[.int .u64 (P.wrd a 0), .int .u64 (P.wrd a 1), .int .u64 (P.wrd a 2), .int .u64 (P.wrd a 3)] 26)).alloc (.cells #[.int .u64 (P.wrd b 0), .int .u64 (P.wrd b 1), .int .u64 (P.wrd b 2), .int .u64 (P.wrd b 3)] 26)) := ⟨_, rfl⟩
  have H0 := Lib.hid (show Blk W (w1.heap.size) a 26 by rw [hW]; have h := ((Blk.new w1 a 26).on ((Below.refl _ _).alloc (Nat.le_refl _) (.cells #[.int .u64 (P.wrd b 0), .int .u64 (P.wrd b 1), .int .u64 (P.wrd b 2), .int .u64 (P.wrd b 3)] 26))); simpa using h)
  have H1 := Lib.hid (show Blk W (w1.heap.size + 1) b 26 by rw [hW]; have h := (Blk.new (w1.alloc (.cells #[.int .u64 (P.wrd a 0), .int .u64 (P.wrd a 1), .int .u64 (P.wrd a 2), .int .u64 (P.wrd a 3)] 26)) b 26); simpa using h)
  have HW := Lib.hid (show Below w.heap.size w W by rw [hW]; exact ((HB.out.alloc (by omega) (.cells #[.int .u64 (P.wrd a 0), .int .u64 (P.wrd a 1), .int .u64 (P.wrd a 2), .int .u64 (P.wrd a 3)] 26)).alloc (by simp <;> omega) (.cells #[.int .u64 (P.wrd b 0), .int .u64 (P.wrd b 1), .int .u64 (P.wrd b 2), .int .u64 (P.wrd b 3)] 26)))
  have HT := Lib.hid (hT.out.on HW.out)
  rw [← hW]
  clear hW HB hz h00 h01 k00 k01 k02 k03 k10 k11 k12 k13
  have HX0 := Lib.hid (Below.refl W.heap.size W)
  have c00 := (H0.out).c0
  have c01 := (H0.out).c1
  have c02 := (H0.out).c2
  have c03 := (H0.out).c3
  have c10 := (H1.out).c0
  have c11 := (H1.out).c1
  have c12 := (H1.out).c2
  have c13 := (H1.out).c3
  go_wp2_with fail
  refine (has_any _ _ _).mono ?_
  rintro e w' ⟨rfl, hb⟩
  have HX1 := Lib.hid (HX0.out.trans (hb.mono HX0.out.size))
  clear hb HX0 c00 c01 c02 c03 c10 c11 c12 c13
  have c00 := (H0.out.on HX1.out).c0
  have c01 := (H0.out.on HX1.out).c1
  have c02 := (H0.out.on HX1.out).c2
  have c03 := (H0.out.on HX1.out).c3
  have c10 := (H1.out.on HX1.out).c0
  have c11 := (H1.out.on HX1.out).c1
  have c12 := (H1.out.on HX1.out).c2
  have c13 := (H1.out.on HX1.out).c3
  go_wp2_with fail
  refine (has_any _ _ _).mono ?_
  rintro e w' ⟨rfl, hb⟩
  have HX2 := Lib.hid (HX1.out.trans (hb.mono HX1.out.size))
  clear hb HX1 c00 c01 c02 c03 c10 c11 c12 c13
  have c00 := (H0.out.on HX2.out).c0
  have c01 := (H0.out.on HX2.out).c1
  have c02 := (H0.out.on HX2.out).c2
  have c03 := (H0.out.on HX2.out).c3
  have c10 := (H1.out.on HX2.out).c0
  have c11 := (H1.out.on HX2.out).c1
  have c12 := (H1.out.on HX2.out).c2
  have c13 := (H1.out.on HX2.out).c3
  go_wp2_with fail
  clear c00 c01 c02 c03 c10 c11 c12 c13
  obtain ⟨WW, hWW⟩ : ∃ WW : World, WW = w' := ⟨_, rfl⟩
  have HA := Lib.hid (H0.out.on HX2.out)
  have HBB := Lib.hid (H1.out.on HX2.out)
  have HXX := Lib.hid (HW.out.trans (HX2.out.mono HW.out.size))
  have kA0 := fun d os => (HA.out.grown d os).c0
  have kA1 := fun d os => (HA.out.grown d os).c1
  have kA2 := fun d os => (HA.out.grown d os).c2
  have kA3 := fun d os => (HA.out.grown d os).c3
  have kB0 := fun d os => (HBB.out.grown d os).c0
  have kB1 := fun d os => (HBB.out.grown d os).c1
  have kB2 := fun d os => (HBB.out.grown d os).c2
  have kB3 := fun d os => (HBB.out.grown d os).c3
  obtain ⟨u0, v0⟩ : (0 : Int) ≤ ((P.len (a ||| b) : Nat) : Int) ∧ ((P.len (a ||| b) : Nat) : Int) ≤ 256 := by have := P.len_le (a ||| b); omega
  obtain ⟨u1, v1⟩ : (0 : Int) ≤ ((P.len (a &&& b) : Nat) : Int) ∧ ((P.len (a &&& b) : Nat) : Int) ≤ 256 := by have := P.len_le (a &&& b); omega
  obtain ⟨u2, v2⟩ : (0 : Int) ≤ ((P.len (a) : Nat) : Int) ∧ ((P.len (a) : Nat) : Int) ≤ 256 := by have := P.len_le (a); omega
  obtain ⟨u3, v3⟩ : (0 : Int) ≤ ((P.len (b) : Nat) : Int) ∧ ((P.len (b) : Nat) : Int) ≤ 256 := by have := P.len_le (b); omega
  obtain ⟨u4, v4⟩ : (0 : Int) ≤ ((P.len (a &&& ~~~b) : Nat) : Int) ∧ ((P.len (a &&& ~~~b) : Nat) : Int) ≤ 256 := by have := P.len_le (a &&& ~~~b); omega
  obtain ⟨u5, v5⟩ : (0 : Int) ≤ ((P.len (a ||| P.bit n) : Nat) : Int) ∧ ((P.len (a ||| P.bit n) : Nat) : Int) ≤ 256 := by have := P.len_le (a ||| P.bit n); omega
  obtain ⟨u6, v6⟩ : (0 : Int) ≤ ((P.len (a &&& ~~~P.bit n) : Nat) : Int) ∧ ((P.len (a &&& ~~~P.bit n) : Nat) : Int) ≤ 256 := by have := P.len_le (a &&& ~~~P.bit n); omega
  have t1 : (((P.len (a ||| b) : Nat) : Int) + ((P.len (a &&& b) : Nat) : Int) == ((P.len a : Nat) : Int) + ((P.len b : Nat) : Int)) = true := by have := P.len_or_and a b; rw [beq_iff_eq]; omega
  have t2 : (((P.len (a &&& ~~~b) : Nat) : Int) == ((P.len a : Nat) : Int) - ((P.len (a &&& b) : Nat) : Int)) = true := by have := P.len_minus a b; rw [beq_iff_eq]; omega
  have t3 : (((P.len (a ||| P.bit n) : Nat) : Int) == ((P.len a : Nat) : Int)) = true := by have := P.len_with_has hs; rw [beq_iff_eq]; omega
  have t4 : (((P.len (a &&& ~~~P.bit n) : Nat) : Int) == ((P.len a : Nat) : Int) - 1) = true := by have := P.len_less_has h0 h1 hs; rw [beq_iff_eq]; omega
  clear hWW
  simp only [List.append]
  refine wp_region_quiet_below (by kernel_rfl) (by kernel_rfl) ?_
  repeat (first | go_big_quiet_step (first | (go_at_call 33; exact cOr _ _ _ _ _) | (go_at_call 35; exact cAnd _ _ _ _ _) | (go_at_call 37; exact cMinus _ _ _ _ _) | (go_at_call 30; exact cWith _ _ _ _ _) | (go_at_call 32; exact cLess _ _ _ _ _) | (go_at_call 24; exact cLen _ _ _ _)) | quiet_step (first | (go_at_call 33; exact cOr _ _ _ _ _) | (go_at_call 35; exact cAnd _ _ _ _ _) | (go_at_call 37; exact cMinus _ _ _ _ _) | (go_at_call 30; exact cWith _ _ _ _ _) | (go_at_call 32; exact cLess _ _ _ _ _) | (go_at_call 24; exact cLen _ _ _ _)))
  refine wpQuiet_nil ?_
  intro _ hw'
  obtain ⟨⟨dq, osq⟩, hw''⟩ := hw'
  subst hw''
  go_wp2_with fail
  go_ret
  exact ⟨rfl, HXX.out.trans ((below_regrown _ dq osq).mono HXX.out.size)⟩
end W
end Go.Proofs.YtoopjgajpooehaaDoor
