/- With, Less, Or, And and Minus of every two sets and number are the document's: the walk of the law, in whatever memory. -/
import Derived.Test.YtoopjgajpooehaaDoorClass
import Derived.Test.YtoopjgajpooehaaDoorRefPut
import Derived.Test.YtoopjgajpooehaaDoorRefOr
import Derived.Test.YtoopjgajpooehaaDoorRefAnd
import Derived.Test.YtoopjgajpooehaaDoorRefMinus
import Derived.Test.YtoopjgajpooehaaDoorRefFrom
import Derived.Test.YtoopjgajpooehaaDoorRefWords
namespace Go.Proofs.YtoopjgajpooehaaDoor
open Go.RowKit Go.Sort
namespace W
theorem cPutIn (W : World) (s : BitVec 256) (n : Int) (d : Nat) (os : Array Obj) : Calls Tryd.prog 31 #[.agg (P.truths s), .int .i64 n, .bool true] (grow (redrawn W d) os) fun e w'' => e = .returned (.agg (P.truths (s ||| P.bit n))) ∧ ∃ p : Regrown, w'' = grow (redrawn W p.d) p.os := Calls.regrown_of (put_in s n _)
theorem cPutOut (W : World) (s : BitVec 256) (n : Int) (d : Nat) (os : Array Obj) : Calls Tryd.prog 31 #[.agg (P.truths s), .int .i64 n, .bool false] (grow (redrawn W d) os) fun e w'' => e = .returned (.agg (P.truths (s &&& ~~~P.bit n))) ∧ ∃ p : Regrown, w'' = grow (redrawn W p.d) p.os := Calls.regrown_of (put_out s n _)
theorem cROr (W : World) (s t : BitVec 256) (d : Nat) (os : Array Obj) : Calls Tryd.prog 34 #[.agg (P.truths s), .agg (P.truths t)] (grow (redrawn W d) os) fun e w'' => e = .returned (.agg (P.truths (s ||| t))) ∧ ∃ p : Regrown, w'' = grow (redrawn W p.d) p.os := Calls.regrown_of (ref_or s t _)
theorem cRAnd (W : World) (s t : BitVec 256) (d : Nat) (os : Array Obj) : Calls Tryd.prog 36 #[.agg (P.truths s), .agg (P.truths t)] (grow (redrawn W d) os) fun e w'' => e = .returned (.agg (P.truths (s &&& t))) ∧ ∃ p : Regrown, w'' = grow (redrawn W p.d) p.os := Calls.regrown_of (ref_and s t _)
theorem cRMinus (W : World) (s t : BitVec 256) (d : Nat) (os : Array Obj) : Calls Tryd.prog 38 #[.agg (P.truths s), .agg (P.truths t)] (grow (redrawn W d) os) fun e w'' => e = .returned (.agg (P.truths (s &&& ~~~t))) ∧ ∃ p : Regrown, w'' = grow (redrawn W p.d) p.os := Calls.regrown_of (ref_minus s t _)
theorem cSame (W : World) (t s : BitVec 256) (d : Nat) (os : Array Obj) : Calls Tryd.prog 16 #[.agg #[.int .u64 (P.wrd t 0), .int .u64 (P.wrd t 1), .int .u64 (P.wrd t 2), .int .u64 (P.wrd t 3)], .agg (P.truths s)] (grow (redrawn W d) os) fun e w'' => e = .returned (.bool (decide (t = s))) ∧ ∃ p : Regrown, w'' = grow (redrawn W p.d) p.os := Calls.regrown_of (same_any t s _)

set_option maxRecDepth 100000 in
set_option maxHeartbeats 4000000 in
theorem changes_any (a b : BitVec 256) (n : Int) (w : World) (hT : Hid (Tab w)) : Calls Tryd.prog 5 #[.agg #[.int .u64 (P.wrd a 0), .int .u64 (P.wrd a 1), .int .u64 (P.wrd a 2), .int .u64 (P.wrd a 3)], .agg #[.int .u64 (P.wrd b 0), .int .u64 (P.wrd b 1), .int .u64 (P.wrd b 2), .int .u64 (P.wrd b 3)], .int .i64 n] w fun e w' => e = .returned (.bool true) ∧ Below w.heap.size w w' := by
  go_enter Tryd.func5, Tryd.ntmps5
  go_wp2_with fail
  refine (shown_any _ ?_).mono ?_
  · exact ((hT.out.on ((Below.refl _ _).alloc (Nat.le_refl _) _)).on ((Below.refl _ _).alloc (Nat.le_refl _) _))
  rintro e w1 ⟨rfl, hb⟩
  have hz : w.heap.size + 2 ≤ w1.heap.size := by have := hb.size; simp at this; omega
  have HB := Lib.hid (show Below w.heap.size w w1 from (((Below.refl w.heap.size w).alloc (by simp) (.cells #[.int .u64 (P.wrd a 0), .int .u64 (P.wrd a 1), .int .u64 (P.wrd a 2), .int .u64 (P.wrd a 3)] 25)).alloc (by simp <;> omega) (.cells #[.int .u64 (P.wrd b 0), .int .u64 (P.wrd b 1), .int .u64 (P.wrd b 2), .int .u64 (P.wrd b 3)] 25)).trans (hb.mono (by simp <;> omega)))
  have k0 : ∀ i, w1.cell? ⟨w.heap.size, i, none⟩ = #[.int .u64 (P.wrd a 0), .int .u64 (P.wrd a 1), .int .u64 (P.wrd a 2), .int .u64 (P.wrd a 3)][i]? := fun i => by rw [hb.cell (by show w.heap.size < _; simp <;> omega), World.cell?_alloc_past _ _ _ (by simp <;> omega), World.cell?_alloc_at _ _ _ _ rfl]
  have k1 : ∀ i, w1.cell? ⟨w.heap.size + 1, i, none⟩ = #[.int .u64 (P.wrd b 0), .int .u64 (P.wrd b 1), .int .u64 (P.wrd b 2), .int .u64 (P.wrd b 3)][i]? := fun i => by rw [hb.cell (by show w.heap.size + 1 < _; simp <;> omega), World.cell?_alloc_at _ _ _ _ (by simp)]
  have HK0 := Lib.hid (show Blk w1 (w.heap.size) a 25 by have h := ((Blk.new w a 25).on ((Below.refl _ _).alloc (Nat.le_refl _) (.cells #[.int .u64 (P.wrd b 0), .int .u64 (P.wrd b 1), .int .u64 (P.wrd b 2), .int .u64 (P.wrd b 3)] 25))).on hb; simpa using h)
  have HK1 := Lib.hid (show Blk w1 (w.heap.size + 1) b 25 by have h := (Blk.new (w.alloc (.cells #[.int .u64 (P.wrd a 0), .int .u64 (P.wrd a 1), .int .u64 (P.wrd a 2), .int .u64 (P.wrd a 3)] 25)) b 25).on hb; simpa using h)
  clear hb
  have h00 : w.heap.size < w1.heap.size := by omega
  have h01 : w.heap.size + 1 < w1.heap.size := by omega
  have k00 : w1.cell? ⟨w.heap.size, 0, none⟩ = some (.int .u64 (P.wrd a 0)) := (k0 0).trans rfl
  have k01 : w1.cell? ⟨w.heap.size, 1, none⟩ = some (.int .u64 (P.wrd a 1)) := (k0 1).trans rfl
  have k02 : w1.cell? ⟨w.heap.size, 2, none⟩ = some (.int .u64 (P.wrd a 2)) := (k0 2).trans rfl
  have k03 : w1.cell? ⟨w.heap.size, 3, none⟩ = some (.int .u64 (P.wrd a 3)) := (k0 3).trans rfl
  have k10 : w1.cell? ⟨w.heap.size + 1, 0, none⟩ = some (.int .u64 (P.wrd b 0)) := (k1 0).trans rfl
  have k11 : w1.cell? ⟨w.heap.size + 1, 1, none⟩ = some (.int .u64 (P.wrd b 1)) := (k1 1).trans rfl
  have k12 : w1.cell? ⟨w.heap.size + 1, 2, none⟩ = some (.int .u64 (P.wrd b 2)) := (k1 2).trans rfl
  have k13 : w1.cell? ⟨w.heap.size + 1, 3, none⟩ = some (.int .u64 (P.wrd b 3)) := (k1 3).trans rfl
  clear k0 k1
  go_wp2_with fail
  obtain ⟨W, hW⟩ : ∃ W : World, W = ((w1.alloc (.cells #[.int .u64 (P.wrd a 0), .int .u64 (P.wrd a 1), .int .u64 (P.wrd a 2), .int .u64 (P.wrd a 3)] 26)).alloc (.cells #[.int .u64 (P.wrd b 0), .int .u64 (P.wrd b 1), .int .u64 (P.wrd b 2), .int .u64 (P.wrd b 3)] 26)) := ⟨_, rfl⟩
  have H0 := Lib.hid (show Blk W (w1.heap.size) a 26 by rw [hW]; have h := ((Blk.new w1 a 26).on ((Below.refl _ _).alloc (Nat.le_refl _) (.cells #[.int .u64 (P.wrd b 0), .int .u64 (P.wrd b 1), .int .u64 (P.wrd b 2), .int .u64 (P.wrd b 3)] 26))); simpa using h)
  have H1 := Lib.hid (show Blk W (w1.heap.size + 1) b 26 by rw [hW]; have h := (Blk.new (w1.alloc (.cells #[.int .u64 (P.wrd a 0), .int .u64 (P.wrd a 1), .int .u64 (P.wrd a 2), .int .u64 (P.wrd a 3)] 26)) b 26); simpa using h)
  have HR0 := Lib.hid (show Blk W (w.heap.size) a 25 by rw [hW]; exact HK0.out.on (((Below.refl w1.heap.size w1).alloc (by simp <;> omega) (.cells #[.int .u64 (P.wrd a 0), .int .u64 (P.wrd a 1), .int .u64 (P.wrd a 2), .int .u64 (P.wrd a 3)] 26)).alloc (by simp <;> omega) (.cells #[.int .u64 (P.wrd b 0), .int .u64 (P.wrd b 1), .int .u64 (P.wrd b 2), .int .u64 (P.wrd b 3)] 26)))
  have HR1 := Lib.hid (show Blk W (w.heap.size + 1) b 25 by rw [hW]; exact HK1.out.on (((Below.refl w1.heap.size w1).alloc (by simp <;> omega) (.cells #[.int .u64 (P.wrd a 0), .int .u64 (P.wrd a 1), .int .u64 (P.wrd a 2), .int .u64 (P.wrd a 3)] 26)).alloc (by simp <;> omega) (.cells #[.int .u64 (P.wrd b 0), .int .u64 (P.wrd b 1), .int .u64 (P.wrd b 2), .int .u64 (P.wrd b 3)] 26)))
  have HW := Lib.hid (show Below w.heap.size w W by rw [hW]; exact ((HB.out.alloc (by omega) (.cells #[.int .u64 (P.wrd a 0), .int .u64 (P.wrd a 1), .int .u64 (P.wrd a 2), .int .u64 (P.wrd a 3)] 26)).alloc (by simp <;> omega) (.cells #[.int .u64 (P.wrd b 0), .int .u64 (P.wrd b 1), .int .u64 (P.wrd b 2), .int .u64 (P.wrd b 3)] 26)))
  have HT := Lib.hid (hT.out.on HW.out)
  rw [← hW]
  clear hW HB hz h00 h01 k00 k01 k02 k03 k10 k11 k12 k13
  have hz := fun w => zero_ref w
  refine (from_any _ _).mono ?_
  rintro e w2 ⟨rfl, hb⟩
  have HX1 := Lib.hid (HW.out.trans (hb.mono HW.out.size))
  have A1 := Lib.hid (H0.out.on hb)
  have B1 := Lib.hid (H1.out.on hb)
  have P1 := Lib.hid (HR0.out.on hb)
  have Q1 := Lib.hid (HR1.out.on hb)
  clear hb H0 H1 HR0 HR1 HW
  have c0 := Q1.out.c0
  have c1 := Q1.out.c1
  have c2 := Q1.out.c2
  have c3 := Q1.out.c3
  have hq1 := Q1.out.lt
  clear c0 c1 c2 c3 hq1
  go_upto_region 5 with (refine wpList_store_row (o := ⟨none, _, _, _, _, _⟩) rfl 32 (.tmp 10) (.tmp 18) rfl w2.heap.size (P.truths a) rfl rfl 32 (P.truths 0#256) (heap_alloc_new w2 _) (ref_size _) (truths_both _ _) (truths_one _) ?_)
  obtain ⟨W3, hW3⟩ : ∃ X : World, X = (w2.alloc (.cells (P.truths 0#256) 32)).setRow w2.heap.size (P.truths a) := ⟨_, rfl⟩
  have hb : Below w2.heap.size w2 W3 := by rw [hW3]; exact below_setRow ((Below.refl _ _).alloc (Nat.le_refl _) _) (Nat.le_refl _) _
  have T3 := Lib.hid (show Tr W3 w2.heap.size a by rw [hW3]; exact (Tr.new w2 0#256).row a)
  rw [← hW3]
  have HX3 := Lib.hid (HX1.out.trans (hb.mono HX1.out.size))
  have A3 := Lib.hid (A1.out.on hb)
  have B3 := Lib.hid (B1.out.on hb)
  have P3 := Lib.hid (P1.out.on hb)
  have Q3 := Lib.hid (Q1.out.on hb)
  clear hW3 hb A1 B1 P1 Q1 HX1
  have c0 := Q3.out.c0
  have c1 := Q3.out.c1
  have c2 := Q3.out.c2
  have c3 := Q3.out.c3
  go_wp2_with fail
  refine (from_any _ _).mono ?_
  rintro e w4 ⟨rfl, hb⟩
  have HX4 := Lib.hid (HX3.out.trans (hb.mono HX3.out.size))
  have A4 := Lib.hid (A3.out.on hb)
  have B4 := Lib.hid (B3.out.on hb)
  have P4 := Lib.hid (P3.out.on hb)
  have Q4 := Lib.hid (Q3.out.on hb)
  have T4 := Lib.hid (T3.out.on hb)
  clear hb A3 B3 P3 Q3 T3 HX3 c0 c1 c2 c3
  go_upto_region 6 with (refine wpList_store_row (o := ⟨none, _, _, _, _, _⟩) rfl 32 (.tmp 11) (.tmp 20) rfl w4.heap.size (P.truths b) rfl rfl 32 (P.truths 0#256) (heap_alloc_new w4 _) (ref_size _) (truths_both _ _) (truths_one _) ?_)
  obtain ⟨WW, hWW⟩ : ∃ X : World, X = (w4.alloc (.cells (P.truths 0#256) 32)).setRow w4.heap.size (P.truths b) := ⟨_, rfl⟩
  have hb : Below w4.heap.size w4 WW := by rw [hWW]; exact below_setRow ((Below.refl _ _).alloc (Nat.le_refl _) _) (Nat.le_refl _) _
  have TB := Lib.hid (show Tr WW w4.heap.size b by rw [hWW]; exact (Tr.new w4 0#256).row b)
  rw [← hWW]
  have HX := Lib.hid (HX4.out.trans (hb.mono HX4.out.size))
  have HA := Lib.hid (A4.out.on hb)
  have HB := Lib.hid (B4.out.on hb)
  have RA := Lib.hid (P4.out.on hb)
  have RB := Lib.hid (Q4.out.on hb)
  have TA := Lib.hid (T4.out.on hb)
  clear hWW hb A4 B4 P4 Q4 T4 HX4 hz
  have kA0 := fun d os => (HA.out.grown d os).c0
  have kA1 := fun d os => (HA.out.grown d os).c1
  have kA2 := fun d os => (HA.out.grown d os).c2
  have kA3 := fun d os => (HA.out.grown d os).c3
  have kB0 := fun d os => (HB.out.grown d os).c0
  have kB1 := fun d os => (HB.out.grown d os).c1
  have kB2 := fun d os => (HB.out.grown d os).c2
  have kB3 := fun d os => (HB.out.grown d os).c3
  refine wp_region_quiet_below (by kernel_rfl) (by kernel_rfl) ?_
  repeat (first | (go_big_quiet_want; refine quiet_load_ref _ rfl _ _ rfl TA.out.all ?_; go_big_quiet_on; simp only [Act.put, List.setIfInBounds_toArray, List.set_cons_succ, List.set_cons_zero]) | go_big_quiet_step (first | (go_at_call 30; exact cWith _ _ _ _ _) | (go_at_call 32; exact cLess _ _ _ _ _) | (go_at_call 31; first | with_reducible exact cPutIn _ _ _ _ _ | with_reducible exact cPutOut _ _ _ _ _) | (go_at_call 16; exact cSame _ _ _ _ _)) | quiet_step (first | (go_at_call 30; exact cWith _ _ _ _ _) | (go_at_call 32; exact cLess _ _ _ _ _) | (go_at_call 31; first | with_reducible exact cPutIn _ _ _ _ _ | with_reducible exact cPutOut _ _ _ _ _) | (go_at_call 16; exact cSame _ _ _ _ _)))
  refine wpQuiet_nil ?_
  intro _ hw'
  obtain ⟨⟨dq, osq⟩, hw''⟩ := hw'
  subst hw''
  have hb := below_regrown WW dq osq
  obtain ⟨WW6, hWW⟩ : ∃ X : World, X = grow (redrawn WW dq) osq := ⟨_, rfl⟩
  rw [← hWW] at hb ⊢
  have HA6 := Lib.hid (HA.out.on hb)
  have HB6 := Lib.hid (HB.out.on hb)
  have RA6 := Lib.hid (RA.out.on hb)
  have RB6 := Lib.hid (RB.out.on hb)
  have TA6 := Lib.hid (TA.out.on hb)
  have TB6 := Lib.hid (TB.out.on hb)
  have HX6 := Lib.hid (HX.out.trans (hb.mono HX.out.size))
  clear hWW hb HA HB RA RB TA TB HX kA0 kA1 kA2 kA3 kB0 kB1 kB2 kB3
  go_wp2_with fail
  have kA0 := fun d os => (HA6.out.grown d os).c0
  have kA1 := fun d os => (HA6.out.grown d os).c1
  have kA2 := fun d os => (HA6.out.grown d os).c2
  have kA3 := fun d os => (HA6.out.grown d os).c3
  have kB0 := fun d os => (HB6.out.grown d os).c0
  have kB1 := fun d os => (HB6.out.grown d os).c1
  have kB2 := fun d os => (HB6.out.grown d os).c2
  have kB3 := fun d os => (HB6.out.grown d os).c3
  refine wp_region_quiet_below (by kernel_rfl) (by kernel_rfl) ?_
  repeat (first | (go_big_quiet_want; refine quiet_load_ref _ rfl _ _ rfl TA6.out.all ?_; go_big_quiet_on; simp only [Act.put, List.setIfInBounds_toArray, List.set_cons_succ, List.set_cons_zero]) | (go_big_quiet_want; refine quiet_load_ref _ rfl _ _ rfl TB6.out.all ?_; go_big_quiet_on; simp only [Act.put, List.setIfInBounds_toArray, List.set_cons_succ, List.set_cons_zero]) | go_big_quiet_step (first | (go_at_call 33; exact cOr _ _ _ _ _) | (go_at_call 35; exact cAnd _ _ _ _ _) | (go_at_call 37; exact cMinus _ _ _ _ _) | (go_at_call 34; exact cROr _ _ _ _ _) | (go_at_call 36; exact cRAnd _ _ _ _ _) | (go_at_call 38; exact cRMinus _ _ _ _ _) | (go_at_call 16; exact cSame _ _ _ _ _)) | quiet_step (first | (go_at_call 33; exact cOr _ _ _ _ _) | (go_at_call 35; exact cAnd _ _ _ _ _) | (go_at_call 37; exact cMinus _ _ _ _ _) | (go_at_call 34; exact cROr _ _ _ _ _) | (go_at_call 36; exact cRAnd _ _ _ _ _) | (go_at_call 38; exact cRMinus _ _ _ _ _) | (go_at_call 16; exact cSame _ _ _ _ _)))
  refine wpQuiet_nil ?_
  intro _ hw'
  obtain ⟨⟨dq, osq⟩, hw''⟩ := hw'
  subst hw''
  have hb := below_regrown WW6 dq osq
  obtain ⟨WW7, hWW⟩ : ∃ X : World, X = grow (redrawn WW6 dq) osq := ⟨_, rfl⟩
  rw [← hWW] at hb ⊢
  have HA7 := Lib.hid (HA6.out.on hb)
  have HB7 := Lib.hid (HB6.out.on hb)
  have RA7 := Lib.hid (RA6.out.on hb)
  have RB7 := Lib.hid (RB6.out.on hb)
  have TA7 := Lib.hid (TA6.out.on hb)
  have TB7 := Lib.hid (TB6.out.on hb)
  have HX7 := Lib.hid (HX6.out.trans (hb.mono HX6.out.size))
  clear hWW hb HA6 HB6 RA6 RB6 TA6 TB6 HX6 kA0 kA1 kA2 kA3 kB0 kB1 kB2 kB3
  have e1 := fun w => set_eq a a w
  have e2 := fun w => set_eq b b w
  have cA0 := HA7.out.c0
  have cA1 := HA7.out.c1
  have cA2 := HA7.out.c2
  have cA3 := HA7.out.c3
  have cB0 := HB7.out.c0
  have cB1 := HB7.out.c1
  have cB2 := HB7.out.c2
  have cB3 := HB7.out.c3
  have cP0 := RA7.out.c0
  have cP1 := RA7.out.c1
  have cP2 := RA7.out.c2
  have cP3 := RA7.out.c3
  have cQ0 := RB7.out.c0
  have cQ1 := RB7.out.c1
  have cQ2 := RB7.out.c2
  have cQ3 := RB7.out.c3
  go_wp2_with fail
  go_ret
  exact ⟨rfl, HX7.out⟩
end W
end Go.Proofs.YtoopjgajpooehaaDoor
