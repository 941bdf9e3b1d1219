/- Compare: the program's, the document's. -/
import Derived.Test.YteeaojciobmcaaaMeaR
import Derived.Test.YteeaojciobmcaaaHeap
import Derived.Test.YteeaojciobmcaaaSame
import Derived.Deep.Cut
import Derived.Lib.Hide
import Derived.Deep.QuietTactic
import Derived.BigQuiet
namespace Go.Proofs.Yteeaojciobmcaaa
open Go.RowKit
namespace W

/-- Two numbers, compared. -/
def cmpi (x y : Int) : Int := if x < y then -1 else if y < x then 1 else 0
set_option maxRecDepth 100000 in
set_option maxHeartbeats 1000000 in
theorem isnan_any (x : Int) (w : World) : Calls Try.prog 53 #[.int .i64 x] w fun e w' => e = .returned (.bool false) ∧ w' = w := by
  have f0 : (x != x) = false := by simp
  go_enter Try.func53, Try.ntmps53
  go_wp2_with fail
  go_ret
  exact ⟨rfl, rfl⟩
set_option maxRecDepth 100000 in
set_option maxHeartbeats 1000000 in
theorem cmpi_any (x y : Int) (w : World) : Calls Try.prog 37 #[.int .i64 x, .int .i64 y] w fun e w' => e = .returned (.int .i64 (cmpi x y)) ∧ w' = w := by
  go_enter Try.func37, Try.ntmps37
  go_wp2_with fail
  refine (isnan_any x w).mono ?_
  rintro e w' ⟨rfl, rfl⟩
  go_wp2_with fail
  refine (isnan_any y w').mono ?_
  rintro e w ⟨rfl, rfl⟩
  go_wp2_with fail
  all_goals go_ret
  all_goals refine ⟨?_, rfl⟩
  all_goals unfold cmpi
  all_goals simp
  all_goals (repeat' split)
  all_goals omega
set_option maxRecDepth 100000 in
set_option maxHeartbeats 1000000 in
theorem counted_any (x : Int) (w : World) (h0 : 0 ≤ x) (h1 : x < 1000000) : Calls Try.prog 36 #[.int .i64 x] w fun e w' => e = .returned (.int .i64 (2 * x + 1)) ∧ w' = w := by
  go_enter Try.func36, Try.ntmps36
  go_wp2_with fail
  go_ret
  refine ⟨?_, rfl⟩
  simp
/-- A counter by its place. -/
def ct (t : P.Tup) : Nat → Int
  | 0 => t.a
  | 1 => t.b
  | 2 => t.c
  | _ => t.d
/-- What the counters below a place say. -/
def crest (s t : P.Tup) (p : Int) : Nat → Int
  | 0 => 0
  | k + 1 => P.Tup.dig p (2 * k + 1) (ct s k) (ct t k) (crest s t p k)
theorem crest4 (s t : P.Tup) (p : Int) (hs : s.top = false) (ht : t.top = false) : crest s t p 4 = P.Tup.cmp s t p := by
  unfold P.Tup.cmp
  rw [if_neg (by rw [hs]; simp), if_neg (by rw [ht]; simp)]
  rfl
/-- A tuple's cells. -/
def tc (t : P.Tup) : Array Value := #[.bool t.top, .int .i64 t.a, .int .i64 t.b, .int .i64 t.c, .int .i64 t.d]
theorem Box.counter {w : World} {q : Nat} {ty : TypeId} {t : P.Tup} (h : Box w q ty (tc t)) (k : Nat) (hk : k < 4) : w.cell? ⟨q, 1 + k, none⟩ = some (.int .i64 (ct t k)) := by
  match k, hk with
  | 0, _ => exact h.cell 1 _ rfl
  | 1, _ => exact h.cell 2 _ rfl
  | 2, _ => exact h.cell 3 _ rfl
  | 3, _ => exact h.cell 4 _ rfl
set_option maxRecDepth 100000 in
set_option maxHeartbeats 1000000 in
theorem compare_any (s t : P.Tup) (p : Int) (w : World) : Calls Try.prog 14 #[.agg (tc s), .agg (tc t), .int .i64 p] w fun e w' => e = .returned (.int .i64 (P.Tup.cmp s t p)) ∧ Below w.heap.size w w' := by
  obtain ⟨st, sa, sb, sc, sd⟩ := s
  obtain ⟨tt, ta, tb, tc_, td⟩ := t
  cases st
  · cases tt
    · obtain ⟨s, hs⟩ : ∃ s, P.Tup.mk false sa sb sc sd = s := ⟨_, rfl⟩
      obtain ⟨t, ht⟩ : ∃ t, P.Tup.mk false ta tb tc_ td = t := ⟨_, rfl⟩
      have hst : s.top = false := by rw [← hs]
      have htt : t.top = false := by rw [← ht]
      have vs : tc ⟨false, sa, sb, sc, sd⟩ = #[.bool false, .int .i64 sa, .int .i64 sb, .int .i64 sc, .int .i64 sd] := rfl
      have vt : tc ⟨false, ta, tb, tc_, td⟩ = #[.bool false, .int .i64 ta, .int .i64 tb, .int .i64 tc_, .int .i64 td] := rfl
      rw [vs, vt, hs, ht]
      have hcs : #[.bool false, .int .i64 sa, .int .i64 sb, .int .i64 sc, .int .i64 sd] = tc s := by rw [← hs]; rfl
      have hct : #[.bool false, .int .i64 ta, .int .i64 tb, .int .i64 tc_, .int .i64 td] = tc t := by rw [← ht]; rfl
      have HST := Lib.hid hst
      have HTT := Lib.hid htt
      have HCS := Lib.hid hcs
      have HCT := Lib.hid hct
      clear hs ht vs vt hst htt hcs hct
      go_enter Try.func14, Try.ntmps14
      go_wp2_with fail
      rw [HCS.out, HCT.out]
      have bx0 : Box ((w.alloc (.cells (tc s) 26)).alloc (.cells (tc t) 26)) (w.heap.size) 26 (tc s) := Box.alloc (Box.new w 26 (tc s)) (.cells (tc t) 26)
      have bx1 : Box ((w.alloc (.cells (tc s) 26)).alloc (.cells (tc t) 26)) (w.heap.size + 1) 26 (tc t) := by
        have := Box.new (w.alloc (.cells (tc s) 26)) 26 (tc t)
        simpa using this
      have hbq : Below w.heap.size w ((w.alloc (.cells (tc s) 26)).alloc (.cells (tc t) 26)) := ((Below.refl _ w).alloc (Nat.le_refl _) _).alloc (by simp) _
      have lt0 : w.heap.size < w.heap.size + 1 := Nat.lt_succ_self _
      have hle0 : w.heap.size ≤ w.heap.size := Nat.le_refl _
      generalize ((w.alloc (.cells (tc s) 26)).alloc (.cells (tc t) 26)) = w0 at bx0 bx1 hbq  ⊢
      have BQs := Lib.hid bx0
      have BQt := Lib.hid bx1
      have W := Lib.hid hbq
      have LTst := Lib.hid lt0
      have LEs := Lib.hid hle0
      clear hbq hle0 bx0 bx1 lt0
      generalize w.heap.size + 1 = qt at BQt LTst ⊢
      obtain ⟨qs, hqs⟩ : ∃ qs, w.heap.size = qs := ⟨_, rfl⟩
      rw [hqs] at BQs LTst ⊢
      have LEs : Hid (w.heap.size ≤ qs) := Lib.hid (by omega)
      clear hqs
      go_loopw [7, 8] (fun i _ wr => ∃ k : Nat, k ≤ 4 ∧ i = .int .i64 ((k : Int) - 1) ∧ P.Tup.cmp s t p = crest s t p k ∧ Below w0.heap.size w0 wr) (fun i _ _ => (intOf i + 1).toNat)
      case atStart => exact ⟨4, Nat.le_refl _, rfl, (crest4 s t p HST.out HTT.out).symm, Below.refl _ _⟩
      case round =>
        obtain ⟨k, hk, rfl, he, hb⟩ := hrel
        have HE := Lib.hid he
        have HB := Lib.hid hb
        replace BQs := Lib.hid (BQs.out.keep (grown_of_below hb none))
        replace BQt := Lib.hid (BQt.out.keep (grown_of_below hb none))
        replace W := Lib.hid (W.out.trans (hb.mono W.out.size))
        clear he hb
        cases k with
        | zero =>
          have e0 : ((0 : Nat) : Int) - 1 = -1 := rfl
          rw [e0]
          clear e0
          go_wp2_with fail
          go_ret
          exact ⟨by rw [HE.out]; rfl, W.out⟩
        | succ j =>
          have e0 : ((j + 1 : Nat) : Int) - 1 = (j : Int) := by omega
          rw [e0]
          clear e0
          have hj0 : (0 : Int) ≤ (j : Int) := Int.natCast_nonneg _
          have fj : decide ((0 : Int) ≤ (j : Int)) = true := decide_eq_true hj0
          go_wp2_with fail
          refine (counted_any (j : Int) wr hj0 (by omega)).mono ?_
          rintro e w1 ⟨rfl, rfl⟩
          by_cases hp : p ≤ 2 * (j : Int) + 1
          · have fp : decide (p ≤ 2 * (j : Int) + 1) = true := decide_eq_true hp
            go_wp2_with fail
            have hj4 : (j : Int) < 4 := by omega
            have k0 := BQs.out.counter j (by omega)
            have k1 := BQt.out.counter j (by omega)
            go_quiet ((go_at_call 37; refine Calls.quiet_of_same (cmpi_any _ _ _)))
            have W2 := Lib.hid (below_drewN W.out nq)
            clear k0 k1
            by_cases hc : cmpi (ct s j) (ct t j) = 0
            · have fc : (cmpi (ct s j) (ct t j) != 0) = false := by rw [hc]; rfl
              have HF := Lib.hid (show P.Tup.cmp s t p = crest s t p j by
                rw [HE.out, crest, P.Tup.dig, if_neg (by omega)]
                unfold cmpi at hc
                split at hc
                · omega
                · rename_i h1
                  split at hc
                  · omega
                  · rename_i h2
                    rw [if_neg h1, if_neg h2])
              clear hc
              go_wp2_with fail
              go_roundw
              case rel => exact ⟨j, by omega, by first | rfl | go_num, HF.out, below_drewN HB.out nq⟩
              case measure => simp [intOf]
            · have fc : (cmpi (ct s j) (ct t j) != 0) = true := by rw [bne_iff_ne]; exact hc
              have HF := Lib.hid (show P.Tup.cmp s t p = cmpi (ct s j) (ct t j) by
                rw [HE.out, crest, P.Tup.dig, if_neg (by omega)]
                unfold cmpi at hc ⊢
                split
                · rfl
                · rename_i h1
                  rw [if_neg h1] at hc
                  split
                  · rfl
                  · rename_i h2
                    rw [if_neg h2] at hc
                    omega)
              clear hc
              go_wp2_with fail
              go_ret
              exact ⟨by rw [HF.out]; rfl, W2.out⟩
          · have fp : decide (p ≤ 2 * (j : Int) + 1) = false := decide_eq_false hp
            have HF := Lib.hid (show P.Tup.cmp s t p = 0 by rw [HE.out, crest, P.Tup.dig, if_pos (by omega)])
            go_wp2_with fail
            go_ret
            exact ⟨by rw [HF.out]; rfl, W.out⟩
    · have f0 : P.Tup.cmp ⟨false, sa, sb, sc, sd⟩ ⟨true, ta, tb, tc_, td⟩ p = -1 := rfl
      rw [f0]
      unfold tc
      go_enter Try.func14, Try.ntmps14
      go_wp2
      go_ret
      exact ⟨rfl, ((Below.refl _ w).alloc (Nat.le_refl _) _).alloc (by simp) _⟩
  · cases tt
    · have f0 : P.Tup.cmp ⟨true, sa, sb, sc, sd⟩ ⟨false, ta, tb, tc_, td⟩ p = 1 := rfl
      rw [f0]
      unfold tc
      go_enter Try.func14, Try.ntmps14
      go_wp2
      go_ret
      exact ⟨rfl, ((Below.refl _ w).alloc (Nat.le_refl _) _).alloc (by simp) _⟩
    · have f0 : P.Tup.cmp ⟨true, sa, sb, sc, sd⟩ ⟨true, ta, tb, tc_, td⟩ p = 0 := rfl
      rw [f0]
      unfold tc
      go_enter Try.func14, Try.ntmps14
      go_wp2
      go_ret
      exact ⟨rfl, ((Below.refl _ w).alloc (Nat.le_refl _) _).alloc (by simp) _⟩
end W
end Go.Proofs.Yteeaojciobmcaaa
