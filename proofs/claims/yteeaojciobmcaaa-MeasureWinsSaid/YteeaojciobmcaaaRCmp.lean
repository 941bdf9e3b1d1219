/- The document's Compare. -/
import Derived.Test.YteeaojciobmcaaaUpA
import Derived.Deep.Cut
import Derived.Lib.Hide
import Derived.Deep.QuietTactic
import Derived.BigQuiet
namespace Go.Proofs.Yteeaojciobmcaaa
open Go.RowKit
namespace W

set_option maxRecDepth 100000 in
set_option maxHeartbeats 1000000 in
theorem rcompare_any (s t : P.Tup) (p : Int) (w : World) : Calls Try.prog 15 #[.agg (tc s), .agg (tc t), .int .i64 p] w fun e w' => e = .returned (.int .i64 (P.Tup.cmp s t p)) ∧ Below w.heap.size w w' := by
  obtain ⟨st, sa, sb, sc, sd⟩ := s
  obtain ⟨tt, ta, tb, tc_, td⟩ := t
  cases st
  · cases tt
    · obtain ⟨s, hs⟩ : ∃ s, P.Tup.mk false sa sb sc sd = s := ⟨_, rfl⟩
      obtain ⟨t, ht⟩ : ∃ t, P.Tup.mk false ta tb tc_ td = t := ⟨_, rfl⟩
      have hst : s.top = false := by rw [← hs]
      have htt : t.top = false := by rw [← ht]
      have vs : tc ⟨false, sa, sb, sc, sd⟩ = #[.bool false, .int .i64 sa, .int .i64 sb, .int .i64 sc, .int .i64 sd] := rfl
      have vt : tc ⟨false, ta, tb, tc_, td⟩ = #[.bool false, .int .i64 ta, .int .i64 tb, .int .i64 tc_, .int .i64 td] := rfl
      rw [vs, vt, hs, ht]
      have hcs : #[.bool false, .int .i64 sa, .int .i64 sb, .int .i64 sc, .int .i64 sd] = tc s := by rw [← hs]; rfl
      have hct : #[.bool false, .int .i64 ta, .int .i64 tb, .int .i64 tc_, .int .i64 td] = tc t := by rw [← ht]; rfl
      have HST := Lib.hid hst
      have HTT := Lib.hid htt
      have HCS := Lib.hid hcs
      have HCT := Lib.hid hct
      clear hs ht vs vt hst htt hcs hct
      go_enter Try.func15, Try.ntmps15
      go_wp2_with fail
      rw [HCS.out, HCT.out]
      have bx0 : Box ((w.alloc (.cells (tc s) 24)).alloc (.cells (tc t) 24)) (w.heap.size) 24 (tc s) := Box.alloc (Box.new w 24 (tc s)) (.cells (tc t) 24)
      have bx1 : Box ((w.alloc (.cells (tc s) 24)).alloc (.cells (tc t) 24)) (w.heap.size + 1) 24 (tc t) := by
        have := Box.new (w.alloc (.cells (tc s) 24)) 24 (tc t)
        simpa using this
      have hbq : Below w.heap.size w ((w.alloc (.cells (tc s) 24)).alloc (.cells (tc t) 24)) := ((Below.refl _ w).alloc (Nat.le_refl _) _).alloc (by simp) _
      have lt0 : w.heap.size < w.heap.size + 1 := Nat.lt_succ_self _
      have hle0 : w.heap.size ≤ w.heap.size := Nat.le_refl _
      generalize ((w.alloc (.cells (tc s) 24)).alloc (.cells (tc t) 24)) = w0 at bx0 bx1 hbq  ⊢
      have BQs := Lib.hid bx0
      have BQt := Lib.hid bx1
      have W := Lib.hid hbq
      have LTst := Lib.hid lt0
      have LEs := Lib.hid hle0
      clear hbq hle0 bx0 bx1 lt0
      generalize w.heap.size + 1 = qt at BQt LTst ⊢
      obtain ⟨qs, hqs⟩ : ∃ qs, w.heap.size = qs := ⟨_, rfl⟩
      rw [hqs] at BQs LTst ⊢
      have LEs : Hid (w.heap.size ≤ qs) := Lib.hid (by omega)
      clear hqs
      go_loopw [7] (fun i wr => ∃ k : Nat, k ≤ 4 ∧ i = .int .i64 ((k : Int) - 1) ∧ P.Tup.cmp s t p = crest s t p k ∧ Below w0.heap.size w0 wr) (fun i _ => (intOf i + 1).toNat)
      case atStart => exact ⟨4, Nat.le_refl _, rfl, (crest4 s t p HST.out HTT.out).symm, Below.refl _ _⟩
      case round =>
        obtain ⟨k, hk, rfl, he, hb⟩ := hrel
        have HE := Lib.hid he
        have HB := Lib.hid hb
        replace BQs := Lib.hid (BQs.out.keep (grown_of_below hb none))
        replace BQt := Lib.hid (BQt.out.keep (grown_of_below hb none))
        replace W := Lib.hid (W.out.trans (hb.mono W.out.size))
        clear he hb
        cases k with
        | zero =>
          have e0 : ((0 : Nat) : Int) - 1 = -1 := rfl
          rw [e0]
          clear e0
          go_wp2_with fail
          go_ret
          exact ⟨by rw [HE.out]; rfl, W.out⟩
        | succ j =>
          have e0 : ((j + 1 : Nat) : Int) - 1 = (j : Int) := by omega
          rw [e0]
          clear e0
          have hj0 : (0 : Int) ≤ (j : Int) := Int.natCast_nonneg _
          have fj : decide ((0 : Int) ≤ (j : Int)) = true := decide_eq_true hj0
          by_cases hp : 2 * (j : Int) + 1 < p
          · have fp : decide (2 * (j : Int) + 1 < p) = true := decide_eq_true hp
            have HF := Lib.hid (show P.Tup.cmp s t p = 0 by rw [HE.out, crest, P.Tup.dig, if_pos (by omega)])
            go_wp2_with fail
            go_ret
            exact ⟨by rw [HF.out]; rfl, W.out⟩
          · have fp : decide (2 * (j : Int) + 1 < p) = false := decide_eq_false hp
            have hj4 : (j : Int) < 4 := by omega
            go_upto_region 9 with (fail)
            have k0 := BQs.out.counter j (by omega)
            have k1 := BQt.out.counter j (by omega)
            obtain ⟨x, hx⟩ : ∃ x, ct s j = x := ⟨_, rfl⟩
            obtain ⟨y, hy⟩ : ∃ y, ct t j = y := ⟨_, rfl⟩
            rw [hx] at k0
            rw [hy] at k1
            have HX := Lib.hid hx
            have HY := Lib.hid hy
            clear hx hy
            go_quiet (fail)
            have W2 := Lib.hid (below_drewN W.out nq)
            have HB2 := Lib.hid (below_drewN HB.out nq)
            have B2s := Lib.hid (BQs.out.keep (grown_of_below (below_drewN (Below.refl _ wr) nq) none))
            have B2t := Lib.hid (BQt.out.keep (grown_of_below (below_drewN (Below.refl _ wr) nq) none))
            clear k0 k1
            generalize wr.drewN nq = w1 at W2 HB2 B2s B2t ⊢
            by_cases h1 : x < y
            · have f1 : decide (x < y) = true := decide_eq_true h1
              have HF := Lib.hid (show P.Tup.cmp s t p = -1 by
                rw [HE.out, crest, P.Tup.dig, if_neg (by omega)]
                rw [HX.out, HY.out, if_pos h1]
              )
              go_wp2_with fail
              go_ret
              exact ⟨by rw [HF.out]; rfl, W2.out⟩
            · have f1 : decide (x < y) = false := decide_eq_false h1
              go_upto_region 9 with (fail)
              have k0 := B2s.out.counter j (by omega)
              have k1 := B2t.out.counter j (by omega)
              rw [HX.out] at k0
              rw [HY.out] at k1
              go_quiet (fail)
              have W3 := Lib.hid (below_drewN W2.out nq)
              have HB3 := Lib.hid (below_drewN HB2.out nq)
              clear k0 k1
              by_cases h2 : y < x
              · have f2 : decide (y < x) = true := decide_eq_true h2
                have HF := Lib.hid (show P.Tup.cmp s t p = 1 by
                  rw [HE.out, crest, P.Tup.dig, if_neg (by omega)]
                  rw [HX.out, HY.out, if_neg (show ¬ x < y by omega), if_pos h2]
                )
                go_wp2_with fail
                go_ret
                exact ⟨by rw [HF.out]; rfl, W3.out⟩
              · have f2 : decide (y < x) = false := decide_eq_false h2
                have HF := Lib.hid (show P.Tup.cmp s t p = crest s t p j by
                  rw [HE.out, crest, P.Tup.dig, if_neg (by omega), HX.out, HY.out, if_neg (show ¬ x < y by omega), if_neg (show ¬ y < x by omega)])
                go_wp2_with fail
                go_roundw
                case rel => exact ⟨j, by omega, by first | rfl | go_num, HF.out, HB3.out⟩
                case measure => simp [intOf]
    · have f0 : P.Tup.cmp ⟨false, sa, sb, sc, sd⟩ ⟨true, ta, tb, tc_, td⟩ p = -1 := rfl
      rw [f0]
      unfold tc
      go_enter Try.func15, Try.ntmps15
      go_wp2
      go_ret
      exact ⟨rfl, ((Below.refl _ w).alloc (Nat.le_refl _) _).alloc (by simp) _⟩
  · cases tt
    · have f0 : P.Tup.cmp ⟨true, sa, sb, sc, sd⟩ ⟨false, ta, tb, tc_, td⟩ p = 1 := rfl
      rw [f0]
      unfold tc
      go_enter Try.func15, Try.ntmps15
      go_wp2
      go_ret
      exact ⟨rfl, ((Below.refl _ w).alloc (Nat.le_refl _) _).alloc (by simp) _⟩
    · have f0 : P.Tup.cmp ⟨true, sa, sb, sc, sd⟩ ⟨true, ta, tb, tc_, td⟩ p = 0 := rfl
      rw [f0]
      unfold tc
      go_enter Try.func15, Try.ntmps15
      go_wp2
      go_ret
      exact ⟨rfl, ((Below.refl _ w).alloc (Nat.le_refl _) _).alloc (by simp) _⟩
end W
end Go.Proofs.Yteeaojciobmcaaa
