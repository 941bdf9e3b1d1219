/- Sets are a lattice: the walk of the law, for every three sets and in whatever memory. -/
import Derived.Test.YtoopjgajpooehaaDoorClass
namespace Go.Proofs.YtoopjgajpooehaaDoor
open Go.RowKit Go.Sort
namespace P
theorem ext {s t : BitVec 256} (h : ∀ i, i < 256 → s.getLsbD i = t.getLsbD i) : s = t := BitVec.eq_of_getLsbD_eq h
theorem getLsbD_minus (s t : BitVec 256) (i : Nat) (hi : i < 256) : (s &&& ~~~t).getLsbD i = (s.getLsbD i && !t.getLsbD i) := by simp [hi]
theorem al1 (a b : BitVec 256) : a ||| b = b ||| a := BitVec.or_comm _ _
theorem al2 (a b : BitVec 256) : a &&& b = b &&& a := BitVec.and_comm _ _
theorem al3 (a b c : BitVec 256) : a ||| (b ||| c) = a ||| b ||| c := (BitVec.or_assoc _ _ _).symm
theorem al4 (a b c : BitVec 256) : a &&& (b &&& c) = a &&& b &&& c := (BitVec.and_assoc _ _ _).symm
theorem al5 (a b c : BitVec 256) : a &&& (b ||| c) = (a &&& b) ||| (a &&& c) := ext fun i _ => by simp only [BitVec.getLsbD_and, BitVec.getLsbD_or]; cases a.getLsbD i <;> simp
theorem al6 (a b c : BitVec 256) : a ||| (b &&& c) = (a ||| b) &&& (a ||| c) := ext fun i _ => by simp only [BitVec.getLsbD_and, BitVec.getLsbD_or]; cases a.getLsbD i <;> simp
theorem al7 (a b : BitVec 256) : a ||| (a &&& b) = a := ext fun i _ => by simp only [BitVec.getLsbD_and, BitVec.getLsbD_or]; cases a.getLsbD i <;> simp
theorem al8 (a b : BitVec 256) : a &&& (a ||| b) = a := ext fun i _ => by simp only [BitVec.getLsbD_and, BitVec.getLsbD_or]; cases a.getLsbD i <;> simp
theorem al9 (a b : BitVec 256) : a &&& ~~~b = a &&& ~~~(a &&& b) := ext fun i hi => by rw [getLsbD_minus _ _ _ hi, getLsbD_minus _ _ _ hi, BitVec.getLsbD_and]; cases a.getLsbD i <;> simp
theorem al10 (a b : BitVec 256) : (a &&& ~~~b) &&& b = 0#256 := ext fun i hi => by rw [BitVec.getLsbD_and, getLsbD_minus _ _ _ hi, BitVec.getLsbD_zero]; cases a.getLsbD i <;> simp
theorem al11 (a b : BitVec 256) : (a &&& ~~~b) ||| (a &&& b) = a := ext fun i hi => by rw [BitVec.getLsbD_or, getLsbD_minus _ _ _ hi, BitVec.getLsbD_and]; cases a.getLsbD i <;> simp
theorem al12 (a b c : BitVec 256) : a &&& ~~~(b ||| c) = (a &&& ~~~b) &&& ~~~c := ext fun i hi => by rw [getLsbD_minus _ _ _ hi, getLsbD_minus _ _ _ hi, getLsbD_minus _ _ _ hi, BitVec.getLsbD_or]; cases a.getLsbD i <;> simp
theorem al13 (a b : BitVec 256) : decide (a &&& b = a) = decide (a ||| b = b) := by
  apply Bool.eq_iff_iff.2
  simp only [decide_eq_true_iff]
  constructor
  · intro h; rw [← h, BitVec.or_comm, BitVec.and_comm]; exact al7 b a
  · intro h; rw [← h]; exact al8 a b
theorem al14 (a b : BitVec 256) : (a &&& b) ||| a = a := by rw [BitVec.or_comm]; exact al7 a b
theorem al15 (a b : BitVec 256) : a ||| (a ||| b) = a ||| b := by rw [← BitVec.or_assoc, BitVec.or_self]
end P
namespace W

set_option maxRecDepth 100000 in
set_option maxHeartbeats 4000000 in
theorem algebra_any (a b c : BitVec 256) (w : World) (hT : Tab w) : Calls Tryd.prog 6 #[.agg #[.int .u64 (P.wrd a 0), .int .u64 (P.wrd a 1), .int .u64 (P.wrd a 2), .int .u64 (P.wrd a 3)], .agg #[.int .u64 (P.wrd b 0), .int .u64 (P.wrd b 1), .int .u64 (P.wrd b 2), .int .u64 (P.wrd b 3)], .agg #[.int .u64 (P.wrd c 0), .int .u64 (P.wrd c 1), .int .u64 (P.wrd c 2), .int .u64 (P.wrd c 3)]] w fun e w' => e = .returned (.bool true) ∧ Below w.heap.size w w' := by
  have HT := Lib.hid hT
  clear hT
  go_enter Tryd.func6, Tryd.ntmps6
  go_wp2_with fail
  refine (shown_any _ ?_).mono ?_
  · exact ((HT.out.on ((Below.refl _ _).alloc (Nat.le_refl _) _)).on ((Below.refl _ _).alloc (Nat.le_refl _) _)).on ((Below.refl _ _).alloc (Nat.le_refl _) _)
  rintro e w1 ⟨rfl, hb⟩
  have hz : w.heap.size + 3 ≤ w1.heap.size := by have := hb.size; simp at this; omega
  have HB := Lib.hid (show Below w.heap.size w w1 from ((((Below.refl _ _).alloc (Nat.le_refl _) _).alloc (by simp) _).alloc (by simp; omega) _).trans (hb.mono (by simp; omega)))
  have kA : ∀ i, w1.cell? ⟨w.heap.size, i, none⟩ = #[.int .u64 (P.wrd a 0), .int .u64 (P.wrd a 1), .int .u64 (P.wrd a 2), .int .u64 (P.wrd a 3)][i]? := fun i => by rw [hb.cell (by show w.heap.size < _; simp; omega), World.cell?_alloc_past _ _ _ (by simp; omega), World.cell?_alloc_past _ _ _ (by simp), World.cell?_alloc_at _ _ _ _ rfl]
  have kB : ∀ i, w1.cell? ⟨w.heap.size + 1, i, none⟩ = #[.int .u64 (P.wrd b 0), .int .u64 (P.wrd b 1), .int .u64 (P.wrd b 2), .int .u64 (P.wrd b 3)][i]? := fun i => by rw [hb.cell (by show w.heap.size + 1 < _; simp), World.cell?_alloc_past _ _ _ (by simp), World.cell?_alloc_at _ _ _ _ (by simp)]
  have kC : ∀ i, w1.cell? ⟨w.heap.size + 1 + 1, i, none⟩ = #[.int .u64 (P.wrd c 0), .int .u64 (P.wrd c 1), .int .u64 (P.wrd c 2), .int .u64 (P.wrd c 3)][i]? := fun i => by rw [hb.cell (by show w.heap.size + 1 + 1 < _; simp), World.cell?_alloc_at _ _ _ _ (by simp)]
  clear hb
  have h01 : w.heap.size < w1.heap.size := by omega
  have h02 : w.heap.size + 1 < w1.heap.size := by omega
  have h03 : w.heap.size + 1 + 1 < w1.heap.size := by omega
  have kA0 : w1.cell? ⟨w.heap.size, 0, none⟩ = some (.int .u64 (P.wrd a 0)) := (kA 0).trans rfl
  have kA1 : w1.cell? ⟨w.heap.size, 1, none⟩ = some (.int .u64 (P.wrd a 1)) := (kA 1).trans rfl
  have kA2 : w1.cell? ⟨w.heap.size, 2, none⟩ = some (.int .u64 (P.wrd a 2)) := (kA 2).trans rfl
  have kA3 : w1.cell? ⟨w.heap.size, 3, none⟩ = some (.int .u64 (P.wrd a 3)) := (kA 3).trans rfl
  have kB0 : w1.cell? ⟨w.heap.size + 1, 0, none⟩ = some (.int .u64 (P.wrd b 0)) := (kB 0).trans rfl
  have kB1 : w1.cell? ⟨w.heap.size + 1, 1, none⟩ = some (.int .u64 (P.wrd b 1)) := (kB 1).trans rfl
  have kB2 : w1.cell? ⟨w.heap.size + 1, 2, none⟩ = some (.int .u64 (P.wrd b 2)) := (kB 2).trans rfl
  have kB3 : w1.cell? ⟨w.heap.size + 1, 3, none⟩ = some (.int .u64 (P.wrd b 3)) := (kB 3).trans rfl
  have kC0 : w1.cell? ⟨w.heap.size + 1 + 1, 0, none⟩ = some (.int .u64 (P.wrd c 0)) := (kC 0).trans rfl
  have kC1 : w1.cell? ⟨w.heap.size + 1 + 1, 1, none⟩ = some (.int .u64 (P.wrd c 1)) := (kC 1).trans rfl
  have kC2 : w1.cell? ⟨w.heap.size + 1 + 1, 2, none⟩ = some (.int .u64 (P.wrd c 2)) := (kC 2).trans rfl
  have kC3 : w1.cell? ⟨w.heap.size + 1 + 1, 3, none⟩ = some (.int .u64 (P.wrd c 3)) := (kC 3).trans rfl
  clear kA kB kC
  go_wp2_with fail
  obtain ⟨W, hW⟩ : ∃ W : World, W = ((w1.alloc (.cells #[.int .u64 (P.wrd a 0), .int .u64 (P.wrd a 1), .int .u64 (P.wrd a 2), .int .u64 (P.wrd a 3)] 26)).alloc (.cells #[.int .u64 (P.wrd b 0), .int .u64 (P.wrd b 1), .int .u64 (P.wrd b 2), .int .u64 (P.wrd b 3)] 26)).alloc (.cells #[.int .u64 (P.wrd c 0), .int .u64 (P.wrd c 1), .int .u64 (P.wrd c 2), .int .u64 (P.wrd c 3)] 26) := ⟨_, rfl⟩
  have HA := Lib.hid (show Blk W w1.heap.size a 26 by rw [hW]; exact ((Blk.new w1 a 26).on ((Below.refl _ _).alloc (Nat.le_refl _) _)).on ((Below.refl _ _).alloc (Nat.le_refl _) _))
  have HBB := Lib.hid (show Blk W (w1.heap.size + 1) b 26 by rw [hW]; have h := (Blk.new (w1.alloc (.cells #[.int .u64 (P.wrd a 0), .int .u64 (P.wrd a 1), .int .u64 (P.wrd a 2), .int .u64 (P.wrd a 3)] 26)) b 26).on ((Below.refl _ _).alloc (Nat.le_refl _) (.cells #[.int .u64 (P.wrd c 0), .int .u64 (P.wrd c 1), .int .u64 (P.wrd c 2), .int .u64 (P.wrd c 3)] 26)); simpa using h)
  have HC := Lib.hid (show Blk W (w1.heap.size + 1 + 1) c 26 by rw [hW]; have h := Blk.new ((w1.alloc (.cells #[.int .u64 (P.wrd a 0), .int .u64 (P.wrd a 1), .int .u64 (P.wrd a 2), .int .u64 (P.wrd a 3)] 26)).alloc (.cells #[.int .u64 (P.wrd b 0), .int .u64 (P.wrd b 1), .int .u64 (P.wrd b 2), .int .u64 (P.wrd b 3)] 26)) c 26; simpa using h)
  have HW := Lib.hid (show Below w.heap.size w W by rw [hW]; exact (((HB.out.alloc (by omega) _).alloc (by simp; omega) _).alloc (by simp; omega) _))
  rw [← hW]
  clear hW HB hz h01 h02 h03 kA0 kA1 kA2 kA3 kB0 kB1 kB2 kB3 kC0 kC1 kC2 kC3
  have q0 : ∀ w : World, (binOp .eql 26 (.agg #[.int .u64 (P.wrd (a ||| b) 0), .int .u64 (P.wrd (a ||| b) 1), .int .u64 (P.wrd (a ||| b) 2), .int .u64 (P.wrd (a ||| b) 3)]) (.agg #[.int .u64 (P.wrd (b ||| a) 0), .int .u64 (P.wrd (b ||| a) 1), .int .u64 (P.wrd (b ||| a) 2), .int .u64 (P.wrd (b ||| a) 3)])).run Tryd.prog w = .ok (.bool true) w := fun w => by rw [set_eq, decide_eq_true (P.al1 a b)]
  have q1 : ∀ w : World, (binOp .eql 26 (.agg #[.int .u64 (P.wrd (a &&& b) 0), .int .u64 (P.wrd (a &&& b) 1), .int .u64 (P.wrd (a &&& b) 2), .int .u64 (P.wrd (a &&& b) 3)]) (.agg #[.int .u64 (P.wrd (b &&& a) 0), .int .u64 (P.wrd (b &&& a) 1), .int .u64 (P.wrd (b &&& a) 2), .int .u64 (P.wrd (b &&& a) 3)])).run Tryd.prog w = .ok (.bool true) w := fun w => by rw [set_eq, decide_eq_true (P.al2 a b)]
  have q2 : ∀ w : World, (binOp .eql 26 (.agg #[.int .u64 (P.wrd (a ||| (b ||| c)) 0), .int .u64 (P.wrd (a ||| (b ||| c)) 1), .int .u64 (P.wrd (a ||| (b ||| c)) 2), .int .u64 (P.wrd (a ||| (b ||| c)) 3)]) (.agg #[.int .u64 (P.wrd (a ||| b ||| c) 0), .int .u64 (P.wrd (a ||| b ||| c) 1), .int .u64 (P.wrd (a ||| b ||| c) 2), .int .u64 (P.wrd (a ||| b ||| c) 3)])).run Tryd.prog w = .ok (.bool true) w := fun w => by rw [set_eq, decide_eq_true (P.al3 a b c)]
  have q3 : ∀ w : World, (binOp .eql 26 (.agg #[.int .u64 (P.wrd (a &&& (b &&& c)) 0), .int .u64 (P.wrd (a &&& (b &&& c)) 1), .int .u64 (P.wrd (a &&& (b &&& c)) 2), .int .u64 (P.wrd (a &&& (b &&& c)) 3)]) (.agg #[.int .u64 (P.wrd (a &&& b &&& c) 0), .int .u64 (P.wrd (a &&& b &&& c) 1), .int .u64 (P.wrd (a &&& b &&& c) 2), .int .u64 (P.wrd (a &&& b &&& c) 3)])).run Tryd.prog w = .ok (.bool true) w := fun w => by rw [set_eq, decide_eq_true (P.al4 a b c)]
  have kA0 := fun d os => (HA.out.grown d os).c0
  have kA1 := fun d os => (HA.out.grown d os).c1
  have kA2 := fun d os => (HA.out.grown d os).c2
  have kA3 := fun d os => (HA.out.grown d os).c3
  have kB0 := fun d os => (HBB.out.grown d os).c0
  have kB1 := fun d os => (HBB.out.grown d os).c1
  have kB2 := fun d os => (HBB.out.grown d os).c2
  have kB3 := fun d os => (HBB.out.grown d os).c3
  have kC0 := fun d os => (HC.out.grown d os).c0
  have kC1 := fun d os => (HC.out.grown d os).c1
  have kC2 := fun d os => (HC.out.grown d os).c2
  have kC3 := fun d os => (HC.out.grown d os).c3
  refine wp_region_quiet_below (by kernel_rfl) (by kernel_rfl) ?_
  repeat (first | go_big_quiet_step (first | (go_at_call 33; exact cOr _ _ _ _ _) | (go_at_call 35; exact cAnd _ _ _ _ _) | (go_at_call 37; exact cMinus _ _ _ _ _)) | quiet_step (first | (go_at_call 33; exact cOr _ _ _ _ _) | (go_at_call 35; exact cAnd _ _ _ _ _) | (go_at_call 37; exact cMinus _ _ _ _ _)))
  refine wpQuiet_nil ?_
  intro _ hw'
  obtain ⟨⟨dq, osq⟩, hw''⟩ := hw'
  subst hw''
  have hb := below_regrown W dq osq
  obtain ⟨W5, hW5⟩ : ∃ W5 : World, W5 = grow (redrawn W dq) osq := ⟨_, rfl⟩
  rw [← hW5] at hb ⊢
  have HA5 := Lib.hid (HA.out.on hb)
  have HBB5 := Lib.hid (HBB.out.on hb)
  have HC5 := Lib.hid (HC.out.on hb)
  have HW5 := Lib.hid (HW.out.trans (hb.mono HW.out.size))
  clear hW5 hb HA HBB HC HW q0 q1 q2 q3 kA0 kA1 kA2 kA3 kB0 kB1 kB2 kB3 kC0 kC1 kC2 kC3
  go_wp2_with fail
  have q0 : ∀ w : World, (binOp .eql 26 (.agg #[.int .u64 (P.wrd (a &&& (b ||| c)) 0), .int .u64 (P.wrd (a &&& (b ||| c)) 1), .int .u64 (P.wrd (a &&& (b ||| c)) 2), .int .u64 (P.wrd (a &&& (b ||| c)) 3)]) (.agg #[.int .u64 (P.wrd ((a &&& b) ||| (a &&& c)) 0), .int .u64 (P.wrd ((a &&& b) ||| (a &&& c)) 1), .int .u64 (P.wrd ((a &&& b) ||| (a &&& c)) 2), .int .u64 (P.wrd ((a &&& b) ||| (a &&& c)) 3)])).run Tryd.prog w = .ok (.bool true) w := fun w => by rw [set_eq, decide_eq_true (P.al5 a b c)]
  have q1 : ∀ w : World, (binOp .eql 26 (.agg #[.int .u64 (P.wrd (a ||| (b &&& c)) 0), .int .u64 (P.wrd (a ||| (b &&& c)) 1), .int .u64 (P.wrd (a ||| (b &&& c)) 2), .int .u64 (P.wrd (a ||| (b &&& c)) 3)]) (.agg #[.int .u64 (P.wrd ((a ||| b) &&& (a ||| c)) 0), .int .u64 (P.wrd ((a ||| b) &&& (a ||| c)) 1), .int .u64 (P.wrd ((a ||| b) &&& (a ||| c)) 2), .int .u64 (P.wrd ((a ||| b) &&& (a ||| c)) 3)])).run Tryd.prog w = .ok (.bool true) w := fun w => by rw [set_eq, decide_eq_true (P.al6 a b c)]
  have q2 : ∀ w : World, (binOp .eql 26 (.agg #[.int .u64 (P.wrd (a ||| (a &&& b)) 0), .int .u64 (P.wrd (a ||| (a &&& b)) 1), .int .u64 (P.wrd (a ||| (a &&& b)) 2), .int .u64 (P.wrd (a ||| (a &&& b)) 3)]) (.agg #[.int .u64 (P.wrd (a) 0), .int .u64 (P.wrd (a) 1), .int .u64 (P.wrd (a) 2), .int .u64 (P.wrd (a) 3)])).run Tryd.prog w = .ok (.bool true) w := fun w => by rw [set_eq, decide_eq_true (P.al7 a b)]
  have q3 : ∀ w : World, (binOp .eql 26 (.agg #[.int .u64 (P.wrd (a &&& (a ||| b)) 0), .int .u64 (P.wrd (a &&& (a ||| b)) 1), .int .u64 (P.wrd (a &&& (a ||| b)) 2), .int .u64 (P.wrd (a &&& (a ||| b)) 3)]) (.agg #[.int .u64 (P.wrd (a) 0), .int .u64 (P.wrd (a) 1), .int .u64 (P.wrd (a) 2), .int .u64 (P.wrd (a) 3)])).run Tryd.prog w = .ok (.bool true) w := fun w => by rw [set_eq, decide_eq_true (P.al8 a b)]
  have kA0 := fun d os => (HA5.out.grown d os).c0
  have kA1 := fun d os => (HA5.out.grown d os).c1
  have kA2 := fun d os => (HA5.out.grown d os).c2
  have kA3 := fun d os => (HA5.out.grown d os).c3
  have kB0 := fun d os => (HBB5.out.grown d os).c0
  have kB1 := fun d os => (HBB5.out.grown d os).c1
  have kB2 := fun d os => (HBB5.out.grown d os).c2
  have kB3 := fun d os => (HBB5.out.grown d os).c3
  have kC0 := fun d os => (HC5.out.grown d os).c0
  have kC1 := fun d os => (HC5.out.grown d os).c1
  have kC2 := fun d os => (HC5.out.grown d os).c2
  have kC3 := fun d os => (HC5.out.grown d os).c3
  refine wp_region_quiet_below (by kernel_rfl) (by kernel_rfl) ?_
  repeat (first | go_big_quiet_step (first | (go_at_call 33; exact cOr _ _ _ _ _) | (go_at_call 35; exact cAnd _ _ _ _ _) | (go_at_call 37; exact cMinus _ _ _ _ _)) | quiet_step (first | (go_at_call 33; exact cOr _ _ _ _ _) | (go_at_call 35; exact cAnd _ _ _ _ _) | (go_at_call 37; exact cMinus _ _ _ _ _)))
  refine wpQuiet_nil ?_
  intro _ hw'
  obtain ⟨⟨dq, osq⟩, hw''⟩ := hw'
  subst hw''
  have hb := below_regrown W5 dq osq
  obtain ⟨W6, hW6⟩ : ∃ W6 : World, W6 = grow (redrawn W5 dq) osq := ⟨_, rfl⟩
  rw [← hW6] at hb ⊢
  have HA6 := Lib.hid (HA5.out.on hb)
  have HBB6 := Lib.hid (HBB5.out.on hb)
  have HC6 := Lib.hid (HC5.out.on hb)
  have HW6 := Lib.hid (HW5.out.trans (hb.mono HW5.out.size))
  clear hW6 hb HA5 HBB5 HC5 HW5 q0 q1 q2 q3 kA0 kA1 kA2 kA3 kB0 kB1 kB2 kB3 kC0 kC1 kC2 kC3
  go_wp2_with fail
  have q0 : ∀ w : World, (binOp .eql 26 (.agg #[.int .u64 (P.wrd (a &&& ~~~b) 0), .int .u64 (P.wrd (a &&& ~~~b) 1), .int .u64 (P.wrd (a &&& ~~~b) 2), .int .u64 (P.wrd (a &&& ~~~b) 3)]) (.agg #[.int .u64 (P.wrd (a &&& ~~~(a &&& b)) 0), .int .u64 (P.wrd (a &&& ~~~(a &&& b)) 1), .int .u64 (P.wrd (a &&& ~~~(a &&& b)) 2), .int .u64 (P.wrd (a &&& ~~~(a &&& b)) 3)])).run Tryd.prog w = .ok (.bool true) w := fun w => by rw [set_eq, decide_eq_true (P.al9 a b)]
  have q1 : ∀ w : World, (binOp .eql 26 (.agg #[.int .u64 (P.wrd ((a &&& ~~~b) &&& b) 0), .int .u64 (P.wrd ((a &&& ~~~b) &&& b) 1), .int .u64 (P.wrd ((a &&& ~~~b) &&& b) 2), .int .u64 (P.wrd ((a &&& ~~~b) &&& b) 3)]) (.agg #[.int .u64 0, .int .u64 0, .int .u64 0, .int .u64 0])).run Tryd.prog w = .ok (.bool true) w := fun w => by rw [alz (P.al10 a b)]
  have q2 : ∀ w : World, (binOp .eql 26 (.agg #[.int .u64 (P.wrd ((a &&& ~~~b) ||| (a &&& b)) 0), .int .u64 (P.wrd ((a &&& ~~~b) ||| (a &&& b)) 1), .int .u64 (P.wrd ((a &&& ~~~b) ||| (a &&& b)) 2), .int .u64 (P.wrd ((a &&& ~~~b) ||| (a &&& b)) 3)]) (.agg #[.int .u64 (P.wrd (a) 0), .int .u64 (P.wrd (a) 1), .int .u64 (P.wrd (a) 2), .int .u64 (P.wrd (a) 3)])).run Tryd.prog w = .ok (.bool true) w := fun w => by rw [set_eq, decide_eq_true (P.al11 a b)]
  have q3 : ∀ w : World, (binOp .eql 26 (.agg #[.int .u64 (P.wrd (a &&& ~~~(b ||| c)) 0), .int .u64 (P.wrd (a &&& ~~~(b ||| c)) 1), .int .u64 (P.wrd (a &&& ~~~(b ||| c)) 2), .int .u64 (P.wrd (a &&& ~~~(b ||| c)) 3)]) (.agg #[.int .u64 (P.wrd ((a &&& ~~~b) &&& ~~~c) 0), .int .u64 (P.wrd ((a &&& ~~~b) &&& ~~~c) 1), .int .u64 (P.wrd ((a &&& ~~~b) &&& ~~~c) 2), .int .u64 (P.wrd ((a &&& ~~~b) &&& ~~~c) 3)])).run Tryd.prog w = .ok (.bool true) w := fun w => by rw [set_eq, decide_eq_true (P.al12 a b c)]
  have kA0 := fun d os => (HA6.out.grown d os).c0
  have kA1 := fun d os => (HA6.out.grown d os).c1
  have kA2 := fun d os => (HA6.out.grown d os).c2
  have kA3 := fun d os => (HA6.out.grown d os).c3
  have kB0 := fun d os => (HBB6.out.grown d os).c0
  have kB1 := fun d os => (HBB6.out.grown d os).c1
  have kB2 := fun d os => (HBB6.out.grown d os).c2
  have kB3 := fun d os => (HBB6.out.grown d os).c3
  have kC0 := fun d os => (HC6.out.grown d os).c0
  have kC1 := fun d os => (HC6.out.grown d os).c1
  have kC2 := fun d os => (HC6.out.grown d os).c2
  have kC3 := fun d os => (HC6.out.grown d os).c3
  refine wp_region_quiet_below (by kernel_rfl) (by kernel_rfl) ?_
  repeat (first | go_big_quiet_step (first | (go_at_call 33; exact cOr _ _ _ _ _) | (go_at_call 35; exact cAnd _ _ _ _ _) | (go_at_call 37; exact cMinus _ _ _ _ _)) | quiet_step (first | (go_at_call 33; exact cOr _ _ _ _ _) | (go_at_call 35; exact cAnd _ _ _ _ _) | (go_at_call 37; exact cMinus _ _ _ _ _)))
  refine wpQuiet_nil ?_
  intro _ hw'
  obtain ⟨⟨dq, osq⟩, hw''⟩ := hw'
  subst hw''
  have hb := below_regrown W6 dq osq
  obtain ⟨W7, hW7⟩ : ∃ W7 : World, W7 = grow (redrawn W6 dq) osq := ⟨_, rfl⟩
  rw [← hW7] at hb ⊢
  have HA7 := Lib.hid (HA6.out.on hb)
  have HBB7 := Lib.hid (HBB6.out.on hb)
  have HC7 := Lib.hid (HC6.out.on hb)
  have HW7 := Lib.hid (HW6.out.trans (hb.mono HW6.out.size))
  clear hW7 hb HA6 HBB6 HC6 HW6 q0 q1 q2 q3 kA0 kA1 kA2 kA3 kB0 kB1 kB2 kB3 kC0 kC1 kC2 kC3
  go_wp2_with fail
  have q0 := fun w => set_eq (a ||| b) b w
  have q1 : ∀ w : World, (binOp .eql 26 (.agg #[.int .u64 (P.wrd (a &&& b) 0), .int .u64 (P.wrd (a &&& b) 1), .int .u64 (P.wrd (a &&& b) 2), .int .u64 (P.wrd (a &&& b) 3)]) (.agg #[.int .u64 (P.wrd a 0), .int .u64 (P.wrd a 1), .int .u64 (P.wrd a 2), .int .u64 (P.wrd a 3)])).run Tryd.prog w = .ok (.bool (decide (a ||| b = b))) w := fun w => by rw [set_eq, P.al13]
  have kA0 := fun d os => (HA7.out.grown d os).c0
  have kA1 := fun d os => (HA7.out.grown d os).c1
  have kA2 := fun d os => (HA7.out.grown d os).c2
  have kA3 := fun d os => (HA7.out.grown d os).c3
  have kB0 := fun d os => (HBB7.out.grown d os).c0
  have kB1 := fun d os => (HBB7.out.grown d os).c1
  have kB2 := fun d os => (HBB7.out.grown d os).c2
  have kB3 := fun d os => (HBB7.out.grown d os).c3
  have kC0 := fun d os => (HC7.out.grown d os).c0
  have kC1 := fun d os => (HC7.out.grown d os).c1
  have kC2 := fun d os => (HC7.out.grown d os).c2
  have kC3 := fun d os => (HC7.out.grown d os).c3
  refine wp_region_quiet_below (by kernel_rfl) (by kernel_rfl) ?_
  repeat (first | go_big_quiet_step (first | (go_at_call 33; exact cOr _ _ _ _ _) | (go_at_call 35; exact cAnd _ _ _ _ _) | (go_at_call 28; first | with_reducible exact cInYes W7 (a &&& b) a (P.al14 a b) _ _ | with_reducible exact cInYes W7 a (a ||| c) (P.al15 a c) _ _ | with_reducible exact cIn W7 a b _ _)) | quiet_step (first | (go_at_call 33; exact cOr _ _ _ _ _) | (go_at_call 35; exact cAnd _ _ _ _ _) | (go_at_call 28; first | with_reducible exact cInYes W7 (a &&& b) a (P.al14 a b) _ _ | with_reducible exact cInYes W7 a (a ||| c) (P.al15 a c) _ _ | with_reducible exact cIn W7 a b _ _)))
  refine wpQuiet_nil ?_
  intro _ hw'
  obtain ⟨⟨dq, osq⟩, hw''⟩ := hw'
  subst hw''
  go_wp2_with fail
  go_ret
  exact ⟨rfl, HW7.out.trans ((below_regrown W7 dq osq).mono HW7.out.size)⟩
end W
end Go.Proofs.YtoopjgajpooehaaDoor
