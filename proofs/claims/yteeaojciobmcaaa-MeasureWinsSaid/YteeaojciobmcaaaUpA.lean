/- Compare: the program's, the document's. What a move makes of a tuple: the program's. Lists of tuples in memory. Two tuples are equal just if all is equal. -/
import Derived.Test.YteeaojciobmcaaaMea
import Derived.Test.YteeaojciobmcaaaHep
import Derived.Test.YteeaojciobmcaaaSam
import Derived.Deep.Cut
import Derived.Lib.Hide
import Derived.Deep.QuietTactic
import Derived.BigQuiet
import Derived.Test.YteeaojciobmcaaaMoves
import Derived.Laws.StructEq
import Derived.WalkKit
import Derived.WalkLawsBesides
import Derived.ChangeKeysEq
import Derived.KernelRfl
section
namespace Go.Proofs.Yteeaojciobmcaaa
open Go.RowKit
namespace W

/-- Two numbers, compared. -/
def cmpi (x y : Int) : Int := if x < y then -1 else if y < x then 1 else 0
set_option maxRecDepth 100000 in
set_option maxHeartbeats 1000000 in
theorem isnan_any (x : Int) (w : World) : Calls Try.prog 53 #[.int .i64 x] w fun e w' => e = .returned (.bool false) ∧ w' = w := by
  have f0 : (x != x) = false := by simp
  go_enter Try.func53, Try.ntmps53
  go_wp2_with fail
  go_ret
  exact ⟨rfl, rfl⟩
set_option maxRecDepth 100000 in
set_option maxHeartbeats 1000000 in
theorem cmpi_any (x y : Int) (w : World) : Calls Try.prog 37 #[.int .i64 x, .int .i64 y] w fun e w' => e = .returned (.int .i64 (cmpi x y)) ∧ w' = w := by
  go_enter Try.func37, Try.ntmps37
  go_wp2_with fail
  refine (isnan_any x w).mono ?_
  rintro e w' ⟨rfl, rfl⟩
  go_wp2_with fail
  refine (isnan_any y w').mono ?_
  rintro e w ⟨rfl, rfl⟩
  go_wp2_with fail
  all_goals go_ret
  all_goals refine ⟨?_, rfl⟩
  all_goals unfold cmpi
  all_goals simp
  all_goals (repeat' split)
  all_goals omega
set_option maxRecDepth 100000 in
set_option maxHeartbeats 1000000 in
theorem counted_any (x : Int) (w : World) (h0 : 0 ≤ x) (h1 : x < 1000000) : Calls Try.prog 36 #[.int .i64 x] w fun e w' => e = .returned (.int .i64 (2 * x + 1)) ∧ w' = w := by
  go_enter Try.func36, Try.ntmps36
  go_wp2_with fail
  go_ret
  refine ⟨?_, rfl⟩
  simp
/-- A counter by its place. -/
def ct (t : P.Tup) : Nat → Int
  | 0 => t.a
  | 1 => t.b
  | 2 => t.c
  | _ => t.d
/-- What the counters below a place say. -/
def crest (s t : P.Tup) (p : Int) : Nat → Int
  | 0 => 0
  | k + 1 => P.Tup.dig p (2 * k + 1) (ct s k) (ct t k) (crest s t p k)
theorem crest4 (s t : P.Tup) (p : Int) (hs : s.top = false) (ht : t.top = false) : crest s t p 4 = P.Tup.cmp s t p := by
  unfold P.Tup.cmp
  rw [if_neg (by rw [hs]; simp), if_neg (by rw [ht]; simp)]
  rfl
/-- A tuple's cells. -/
def tc (t : P.Tup) : Array Value := #[.bool t.top, .int .i64 t.a, .int .i64 t.b, .int .i64 t.c, .int .i64 t.d]
theorem Box.counter {w : World} {q : Nat} {ty : TypeId} {t : P.Tup} (h : Box w q ty (tc t)) (k : Nat) (hk : k < 4) : w.cell? ⟨q, 1 + k, none⟩ = some (.int .i64 (ct t k)) := by
  match k, hk with
  | 0, _ => exact h.cell 1 _ rfl
  | 1, _ => exact h.cell 2 _ rfl
  | 2, _ => exact h.cell 3 _ rfl
  | 3, _ => exact h.cell 4 _ rfl
set_option maxRecDepth 100000 in
set_option maxHeartbeats 1000000 in
theorem compare_any (s t : P.Tup) (p : Int) (w : World) : Calls Try.prog 14 #[.agg (tc s), .agg (tc t), .int .i64 p] w fun e w' => e = .returned (.int .i64 (P.Tup.cmp s t p)) ∧ Below w.heap.size w w' := by
  obtain ⟨st, sa, sb, sc, sd⟩ := s
  obtain ⟨tt, ta, tb, tc_, td⟩ := t
  cases st
  · cases tt
    · obtain ⟨s, hs⟩ : ∃ s, P.Tup.mk false sa sb sc sd = s := ⟨_, rfl⟩
      obtain ⟨t, ht⟩ : ∃ t, P.Tup.mk false ta tb tc_ td = t := ⟨_, rfl⟩
      have hst : s.top = false := by rw [← hs]
      have htt : t.top = false := by rw [← ht]
      have vs : tc ⟨false, sa, sb, sc, sd⟩ = #[.bool false, .int .i64 sa, .int .i64 sb, .int .i64 sc, .int .i64 sd] := rfl
      have vt : tc ⟨false, ta, tb, tc_, td⟩ = #[.bool false, .int .i64 ta, .int .i64 tb, .int .i64 tc_, .int .i64 td] := rfl
      rw [vs, vt, hs, ht]
      have hcs : #[.bool false, .int .i64 sa, .int .i64 sb, .int .i64 sc, .int .i64 sd] = tc s := by rw [← hs]; rfl
      have hct : #[.bool false, .int .i64 ta, .int .i64 tb, .int .i64 tc_, .int .i64 td] = tc t := by rw [← ht]; rfl
      have HST := Lib.hid hst
      have HTT := Lib.hid htt
      have HCS := Lib.hid hcs
      have HCT := Lib.hid hct
      clear hs ht vs vt hst htt hcs hct
      go_enter Try.func14, Try.ntmps14
      go_wp2_with fail
      rw [HCS.out, HCT.out]
      have bx0 : Box ((w.alloc (.cells (tc s) 26)).alloc (.cells (tc t) 26)) (w.heap.size) 26 (tc s) := Box.alloc (Box.new w 26 (tc s)) (.cells (tc t) 26)
      have bx1 : Box ((w.alloc (.cells (tc s) 26)).alloc (.cells (tc t) 26)) (w.heap.size + 1) 26 (tc t) := by
        have := Box.new (w.alloc (.cells (tc s) 26)) 26 (tc t)
        simpa using this
      have hbq : Below w.heap.size w ((w.alloc (.cells (tc s) 26)).alloc (.cells (tc t) 26)) := ((Below.refl _ w).alloc (Nat.le_refl _) _).alloc (by simp) _
      have lt0 : w.heap.size < w.heap.size + 1 := Nat.lt_succ_self _
      have hle0 : w.heap.size ≤ w.heap.size := Nat.le_refl _
      generalize ((w.alloc (.cells (tc s) 26)).alloc (.cells (tc t) 26)) = w0 at bx0 bx1 hbq  ⊢
      have BQs := Lib.hid bx0
      have BQt := Lib.hid bx1
      have W := Lib.hid hbq
      have LTst := Lib.hid lt0
      have LEs := Lib.hid hle0
      clear hbq hle0 bx0 bx1 lt0
      generalize w.heap.size + 1 = qt at BQt LTst ⊢
      obtain ⟨qs, hqs⟩ : ∃ qs, w.heap.size = qs := ⟨_, rfl⟩
      rw [hqs] at BQs LTst ⊢
      have LEs : Hid (w.heap.size ≤ qs) := Lib.hid (by omega)
      clear hqs
      go_loopw [7, 8] (fun i _ wr => ∃ k : Nat, k ≤ 4 ∧ i = .int .i64 ((k : Int) - 1) ∧ P.Tup.cmp s t p = crest s t p k ∧ Below w0.heap.size w0 wr) (fun i _ _ => (intOf i + 1).toNat)
      case atStart => exact ⟨4, Nat.le_refl _, rfl, (crest4 s t p HST.out HTT.out).symm, Below.refl _ _⟩
      case round =>
        obtain ⟨k, hk, rfl, he, hb⟩ := hrel
        have HE := Lib.hid he
        have HB := Lib.hid hb
        replace BQs := Lib.hid (BQs.out.keep (grown_of_below hb none))
        replace BQt := Lib.hid (BQt.out.keep (grown_of_below hb none))
        replace W := Lib.hid (W.out.trans (hb.mono W.out.size))
        clear he hb
        cases k with
        | zero =>
          have e0 : ((0 : Nat) : Int) - 1 = -1 := rfl
          rw [e0]
          clear e0
          go_wp2_with fail
          go_ret
          exact ⟨by rw [HE.out]; rfl, W.out⟩
        | succ j =>
          have e0 : ((j + 1 : Nat) : Int) - 1 = (j : Int) := by omega
          rw [e0]
          clear e0
          have hj0 : (0 : Int) ≤ (j : Int) := Int.natCast_nonneg _
          have fj : decide ((0 : Int) ≤ (j : Int)) = true := decide_eq_true hj0
          go_wp2_with fail
          refine (counted_any (j : Int) wr hj0 (by omega)).mono ?_
          rintro e w1 ⟨rfl, rfl⟩
          by_cases hp : p ≤ 2 * (j : Int) + 1
          · have fp : decide (p ≤ 2 * (j : Int) + 1) = true := decide_eq_true hp
            go_wp2_with fail
            have hj4 : (j : Int) < 4 := by omega
            have k0 := BQs.out.counter j (by omega)
            have k1 := BQt.out.counter j (by omega)
            go_quiet ((go_at_call 37; refine Calls.quiet_of_same (cmpi_any _ _ _)))
            have W2 := Lib.hid (below_drewN W.out nq)
            clear k0 k1
            by_cases hc : cmpi (ct s j) (ct t j) = 0
            · have fc : (cmpi (ct s j) (ct t j) != 0) = false := by rw [hc]; rfl
              have HF := Lib.hid (show P.Tup.cmp s t p = crest s t p j by
                rw [HE.out, crest, P.Tup.dig, if_neg (by omega)]
                unfold cmpi at hc
                split at hc
                · omega
                · rename_i h1
                  split at hc
                  · omega
                  · rename_i h2
                    rw [if_neg h1, if_neg h2])
              clear hc
              go_wp2_with fail
              go_roundw
              case rel => exact ⟨j, by omega, by first | rfl | go_num, HF.out, below_drewN HB.out nq⟩
              case measure => simp [intOf]
            · have fc : (cmpi (ct s j) (ct t j) != 0) = true := by rw [bne_iff_ne]; exact hc
              have HF := Lib.hid (show P.Tup.cmp s t p = cmpi (ct s j) (ct t j) by
                rw [HE.out, crest, P.Tup.dig, if_neg (by omega)]
                unfold cmpi at hc ⊢
                split
                · rfl
                · rename_i h1
                  rw [if_neg h1] at hc
                  split
                  · rfl
                  · rename_i h2
                    rw [if_neg h2] at hc
                    omega)
              clear hc
              go_wp2_with fail
              go_ret
              exact ⟨by rw [HF.out]; rfl, W2.out⟩
          · have fp : decide (p ≤ 2 * (j : Int) + 1) = false := decide_eq_false hp
            have HF := Lib.hid (show P.Tup.cmp s t p = 0 by rw [HE.out, crest, P.Tup.dig, if_pos (by omega)])
            go_wp2_with fail
            go_ret
            exact ⟨by rw [HF.out]; rfl, W.out⟩
    · have f0 : P.Tup.cmp ⟨false, sa, sb, sc, sd⟩ ⟨true, ta, tb, tc_, td⟩ p = -1 := rfl
      rw [f0]
      unfold tc
      go_enter Try.func14, Try.ntmps14
      go_wp2
      go_ret
      exact ⟨rfl, ((Below.refl _ w).alloc (Nat.le_refl _) _).alloc (by simp) _⟩
  · cases tt
    · have f0 : P.Tup.cmp ⟨true, sa, sb, sc, sd⟩ ⟨false, ta, tb, tc_, td⟩ p = 1 := rfl
      rw [f0]
      unfold tc
      go_enter Try.func14, Try.ntmps14
      go_wp2
      go_ret
      exact ⟨rfl, ((Below.refl _ w).alloc (Nat.le_refl _) _).alloc (by simp) _⟩
    · have f0 : P.Tup.cmp ⟨true, sa, sb, sc, sd⟩ ⟨true, ta, tb, tc_, td⟩ p = 0 := rfl
      rw [f0]
      unfold tc
      go_enter Try.func14, Try.ntmps14
      go_wp2
      go_ret
      exact ⟨rfl, ((Below.refl _ w).alloc (Nat.le_refl _) _).alloc (by simp) _⟩
end W
end Go.Proofs.Yteeaojciobmcaaa
end
section
namespace Go.Proofs.Yteeaojciobmcaaa
open Go.RowKit
namespace W

theorem and_odd (p : Int) : bits .and .i64 p 1 = p % 2 := by
  have h : (BitVec.ofInt 64 p &&& BitVec.ofInt 64 1).toNat = (p % 2).toNat := by
    rw [BitVec.toNat_and, BitVec.toNat_ofInt, BitVec.toNat_ofInt]
    have e : ((1 : Int) % ((2 ^ 64 : Nat) : Int)).toNat = 1 := by decide
    rw [e, Nat.and_one_is_mod]
    have : ((2 ^ 64 : Nat) : Int) = 18446744073709551616 := by decide
    rw [this]
    omega
  show IntKind.i64.wrap (((BitVec.ofInt 64 p &&& BitVec.ofInt 64 1).toNat : Nat) : Int) = p % 2
  rw [h]
  have h2 : (((p % 2).toNat : Nat) : Int) = p % 2 := by omega
  rw [h2]
  have := Int.emod_two_eq p
  rcases this with e | e <;> rw [e] <;> decide
theorem and_odd_eq (p : Int) : (bits .and .i64 p 1 == 1) = decide (p % 2 = 1) := by
  rw [and_odd]
  rfl
/-- A counter written. -/
def cset (t : P.Tup) (k : Nat) (x : Int) : P.Tup :=
  match k with
  | 0 => { t with a := x }
  | 1 => { t with b := x }
  | 2 => { t with c := x }
  | _ => { t with d := x }
/-- 'up' from a place on; the places left. -/
def upr (n : P.Tup) (p : Int) : Nat → P.Tup → P.Tup
  | 0, t => if p % 2 = 1 then .over else t
  | j + 1, t => if 2 * (3 - j : Nat) + 1 < p then upr n p j (cset t (3 - j) 0) else if p % 2 ≠ 1 then t else if ct t (3 - j) < ct n (3 - j) then cset t (3 - j) (ct t (3 - j) + 1) else upr n p j (cset t (3 - j) 0)
theorem upr4 (n t : P.Tup) (p : Int) (ht : t.top = false) : upr n p 4 t = P.Tup.up n p t := by
  unfold P.Tup.up
  rw [if_neg (by rw [ht]; simp)]
  simp only [upr, P.Tup.up0, P.Tup.up1, P.Tup.up2, P.Tup.up3, cset, ct, Nat.sub_self, Nat.reduceSub, Nat.sub_zero]
  by_cases hp : p % 2 = 1
  · simp [hp]
  · simp [hp]
/-- What the counters may be: cells. -/
def bc (t : P.Tup) : Array Value := #[.int .i64 t.a, .int .i64 t.b, .int .i64 t.c, .int .i64 t.d]
theorem Box.bcounter {w : World} {q : Nat} {ty : TypeId} {t : P.Tup} (h : Box w q ty (bc t)) (k : Nat) (hk : k < 4) : w.cell? ⟨q, k, none⟩ = some (.int .i64 (ct t k)) := by
  match k, hk with
  | 0, _ => exact h.cell 0 _ rfl
  | 1, _ => exact h.cell 1 _ rfl
  | 2, _ => exact h.cell 2 _ rfl
  | 3, _ => exact h.cell 3 _ rfl
theorem tc_set (t : P.Tup) (k : Nat) (hk : k < 4) (x : Int) : (tc t).setIfInBounds (1 + k) (.int .i64 x) = tc (cset t k x) := by
  match k, hk with
  | 0, _ => rfl
  | 1, _ => rfl
  | 2, _ => rfl
  | 3, _ => rfl
theorem tc_inj {s t : P.Tup} (h : tc s = tc t) : s = t := by
  obtain ⟨s0, s1, s2, s3, s4⟩ := s
  obtain ⟨t0, t1, t2, t3, t4⟩ := t
  unfold tc at h
  simp at h
  simp [h]
theorem low_cset {t : P.Tup} (h : ∀ k, k < 4 → -9223372036854775808 ≤ ct t k) (k : Nat) (x : Int) (hx : -9223372036854775808 ≤ x) : ∀ i, i < 4 → -9223372036854775808 ≤ ct (cset t k x) i := by
  have h0 := h 0 (by omega)
  have h1 := h 1 (by omega)
  have h2 := h 2 (by omega)
  have h3 := h 3 (by omega)
  simp only [ct] at h0 h1 h2 h3
  intro i hi
  unfold cset
  match i, hi with
  | 0, _ => split <;> simp only [ct] <;> assumption
  | 1, _ => split <;> simp only [ct] <;> assumption
  | 2, _ => split <;> simp only [ct] <;> assumption
  | 3, _ => split <;> simp only [ct] <;> assumption
/-- A tuple written over one. -/
theorem Box.stT {w : World} {q : Nat} {ty : TypeId} {z : P.Tup} (h : Box w q ty (tc z)) (t : P.Tup) : Box (((((w.setCell ⟨q, 0, none⟩ (.bool t.top)).setCell ⟨q, 1, none⟩ (.int .i64 t.a)).setCell ⟨q, 2, none⟩ (.int .i64 t.b)).setCell ⟨q, 3, none⟩ (.int .i64 t.c)).setCell ⟨q, 4, none⟩ (.int .i64 t.d)) q ty (tc t) := ((((h.set 0 _).set 1 _).set 2 _).set 3 _).set 4 _
theorem below_stT {B : Nat} {a w : World} (h : Below B a w) {q : Nat} (hq : B ≤ q) (t : P.Tup) : Below B a (((((w.setCell ⟨q, 0, none⟩ (.bool t.top)).setCell ⟨q, 1, none⟩ (.int .i64 t.a)).setCell ⟨q, 2, none⟩ (.int .i64 t.b)).setCell ⟨q, 3, none⟩ (.int .i64 t.c)).setCell ⟨q, 4, none⟩ (.int .i64 t.d)) := ((((h.setCell hq _).setCell hq _).setCell hq _).setCell hq _).setCell hq _
set_option maxRecDepth 100000 in
set_option maxHeartbeats 1000000 in
theorem up_any (n t : P.Tup) (p : Int) (w : World) (hp : -9223372036854775808 ≤ p ∧ p < 9223372036854775808) (ht : ∀ k, k < 4 → -9223372036854775808 ≤ ct t k) (hn : ∀ k, k < 4 → ct n k ≤ 17592186043904) : Calls Try.prog 38 #[.agg (bc n), .int .i64 p, .agg (tc t)] w fun e w' => e = .returned (.agg (tc (P.Tup.up n p t))) ∧ Below w.heap.size w w' := by
  obtain ⟨tt, ta, tb, tc_, td⟩ := t
  have HN := Lib.hid hn
  have HTB := Lib.hid ht
  have HP := Lib.hid hp
  clear hn ht hp
  obtain ⟨na, hna⟩ : ∃ x, n.a = x := ⟨_, rfl⟩
  obtain ⟨nb, hnb⟩ : ∃ x, n.b = x := ⟨_, rfl⟩
  obtain ⟨nc, hnc⟩ : ∃ x, n.c = x := ⟨_, rfl⟩
  obtain ⟨nd, hnd⟩ : ∃ x, n.d = x := ⟨_, rfl⟩
  have e1 : bc n = #[.int .i64 na, .int .i64 nb, .int .i64 nc, .int .i64 nd] := by rw [← hna, ← hnb, ← hnc, ← hnd]; rfl
  have E1 := Lib.hid e1
  cases tt
  · have e0 : tc ⟨false, ta, tb, tc_, td⟩ = #[.bool false, .int .i64 ta, .int .i64 tb, .int .i64 tc_, .int .i64 td] := rfl
    rw [e0, e1]
    obtain ⟨t, ht⟩ : ∃ t, P.Tup.mk false ta tb tc_ td = t := ⟨_, rfl⟩
    rw [ht] at e0 HTB ⊢
    have E0 := Lib.hid e0
    have HTT := Lib.hid (show t.top = false by rw [← ht])
    clear e0 e1 ht hna hnb hnc hnd
    go_enter Try.func38, Try.ntmps38
    go_wp2_with fail
    rw [and_odd_eq, ← E0.out, ← E1.out, show #[.bool false, .int .i64 0, .int .i64 0, .int .i64 0, .int .i64 0] = tc .zero from rfl]
    have bx0 : Box (((w.alloc (.cells (bc n) 22)).alloc (.cells (tc t) 26)).alloc (.cells (tc .zero) 26)) (w.heap.size) 22 (bc n) := Box.alloc (Box.alloc (Box.new w 22 (bc n)) (.cells (tc t) 26)) (.cells (tc .zero) 26)
    have bx1 : Box (((w.alloc (.cells (bc n) 22)).alloc (.cells (tc t) 26)).alloc (.cells (tc .zero) 26)) (w.heap.size + 1) 26 (tc t) := by
      have := Box.alloc (Box.new (w.alloc (.cells (bc n) 22)) 26 (tc t)) (.cells (tc .zero) 26)
      simpa using this
    have bx2 : Box (((w.alloc (.cells (bc n) 22)).alloc (.cells (tc t) 26)).alloc (.cells (tc .zero) 26)) (w.heap.size + 1 + 1) 26 (tc .zero) := by
      have := Box.new ((w.alloc (.cells (bc n) 22)).alloc (.cells (tc t) 26)) 26 (tc .zero)
      simpa using this
    have hbq : Below w.heap.size w (((w.alloc (.cells (bc n) 22)).alloc (.cells (tc t) 26)).alloc (.cells (tc .zero) 26)) := (((Below.refl _ w).alloc (Nat.le_refl _) _).alloc (by simp) _).alloc (by simp; omega) _
    have lt0 : w.heap.size < w.heap.size + 1 := Nat.lt_succ_self _
    have lt1 : w.heap.size + 1 < w.heap.size + 1 + 1 := Nat.lt_succ_self _
    have hle0 : w.heap.size ≤ w.heap.size := Nat.le_refl _
    generalize (((w.alloc (.cells (bc n) 22)).alloc (.cells (tc t) 26)).alloc (.cells (tc .zero) 26)) = w0 at bx0 bx1 bx2 hbq  ⊢
    have BQn := Lib.hid bx0
    have BQt := Lib.hid bx1
    have BQr := Lib.hid bx2
    have W := Lib.hid hbq
    have LTnt := Lib.hid lt0
    have LTtr := Lib.hid lt1
    have LEn := Lib.hid hle0
    clear hbq hle0 bx0 bx1 bx2 lt0 lt1
    generalize w.heap.size + 1 + 1 = qr at BQr LTtr ⊢
    generalize w.heap.size + 1 = qt at BQt LTtr LTnt ⊢
    obtain ⟨qn, hqn⟩ : ∃ qn, w.heap.size = qn := ⟨_, rfl⟩
    rw [hqn] at BQn LTnt ⊢
    have LEn : Hid (w.heap.size ≤ qn) := Lib.hid (by omega)
    clear hqn
    have LTnr := Lib.hid (Nat.lt_trans LTnt.out LTtr.out)
    have LEr := Lib.hid (Nat.le_trans LEn.out (Nat.le_of_lt LTnr.out))
    have LEt := Lib.hid (Nat.le_trans LEn.out (Nat.le_of_lt LTnt.out))
    obtain ⟨odd, hodd⟩ : ∃ b, decide (p % 2 = 1) = b := ⟨_, rfl⟩
    have HODD := Lib.hid hodd
    rw [hodd]
    clear hodd
    go_loopw [15] (fun i wr => ∃ (j : Nat) (t' : P.Tup), j ≤ 4 ∧ i = .int .i64 ((4 : Int) - (j : Int)) ∧ P.Tup.up n p t = upr n p j t' ∧ (∀ k, k < 4 → -9223372036854775808 ≤ ct t' k) ∧ Box wr qn 22 (bc n) ∧ Box wr qt 26 (tc t') ∧ Box wr qr 26 (tc .zero) ∧ Below w.heap.size w wr) (fun i _ => (4 - intOf i).toNat)
    case atStart => exact ⟨4, t, Nat.le_refl _, rfl, (upr4 n t p HTT.out).symm, HTB.out, BQn.out, BQt.out, BQr.out, W.out⟩
    case round =>
      obtain ⟨j, t', hj, rfl, he, hl, b1, b2, b3, hb⟩ := hrel
      have HE := Lib.hid he
      have HL := Lib.hid hl
      replace BQn := Lib.hid b1
      replace BQt := Lib.hid b2
      replace BQr := Lib.hid b3
      replace W := Lib.hid hb
      clear he hl b1 b2 b3 hb
      cases j with
      | zero =>
        have e0 : (4 : Int) - ((0 : Nat) : Int) = 4 := rfl
        rw [e0]
        clear e0
        cases odd
        · have HF := Lib.hid (show P.Tup.up n p t = t' by rw [HE.out, upr, if_neg (of_decide_eq_false HODD.out)])
          have hbb := BQt.out
          have tc0 : wr.cell? ⟨qt, 0, none⟩ = some (.bool t'.top) := hbb.cell 0 _ rfl
          have tc1 : wr.cell? ⟨qt, 1, none⟩ = some (.int .i64 t'.a) := hbb.cell 1 _ rfl
          have tc2 : wr.cell? ⟨qt, 2, none⟩ = some (.int .i64 t'.b) := hbb.cell 2 _ rfl
          have tc3 : wr.cell? ⟨qt, 3, none⟩ = some (.int .i64 t'.c) := hbb.cell 3 _ rfl
          have tc4 : wr.cell? ⟨qt, 4, none⟩ = some (.int .i64 t'.d) := hbb.cell 4 _ rfl
          clear hbb
          have hbb := BQr.out
          have rc0 : wr.cell? ⟨qr, 0, none⟩ = some (.bool false) := hbb.cell 0 _ rfl
          have rc1 : wr.cell? ⟨qr, 1, none⟩ = some (.int .i64 0) := hbb.cell 1 _ rfl
          have rc2 : wr.cell? ⟨qr, 2, none⟩ = some (.int .i64 0) := hbb.cell 2 _ rfl
          have rc3 : wr.cell? ⟨qr, 3, none⟩ = some (.int .i64 0) := hbb.cell 3 _ rfl
          have rc4 : wr.cell? ⟨qr, 4, none⟩ = some (.int .i64 0) := hbb.cell 4 _ rfl
          have rf0 : wr.frozen? ⟨qr, 0, none⟩ = false := hbb.frozen 0
          have rf1 : wr.frozen? ⟨qr, 1, none⟩ = false := hbb.frozen 1
          have rf2 : wr.frozen? ⟨qr, 2, none⟩ = false := hbb.frozen 2
          have rf3 : wr.frozen? ⟨qr, 3, none⟩ = false := hbb.frozen 3
          have rf4 : wr.frozen? ⟨qr, 4, none⟩ = false := hbb.frozen 4
          clear hbb
          go_wp2_with fail
          have bz : Box (((((wr.setCell ⟨qr, 0, none⟩ (.bool t'.top)).setCell ⟨qr, 1, none⟩ (.int .i64 t'.a)).setCell ⟨qr, 2, none⟩ (.int .i64 t'.b)).setCell ⟨qr, 3, none⟩ (.int .i64 t'.c)).setCell ⟨qr, 4, none⟩ (.int .i64 t'.d)) qr 26 (tc t') := BQr.out.stT t'
          have hbz : Below w.heap.size w (((((wr.setCell ⟨qr, 0, none⟩ (.bool t'.top)).setCell ⟨qr, 1, none⟩ (.int .i64 t'.a)).setCell ⟨qr, 2, none⟩ (.int .i64 t'.b)).setCell ⟨qr, 3, none⟩ (.int .i64 t'.c)).setCell ⟨qr, 4, none⟩ (.int .i64 t'.d)) := below_stT W.out LEr.out t'
          generalize (((((wr.setCell ⟨qr, 0, none⟩ (.bool t'.top)).setCell ⟨qr, 1, none⟩ (.int .i64 t'.a)).setCell ⟨qr, 2, none⟩ (.int .i64 t'.b)).setCell ⟨qr, 3, none⟩ (.int .i64 t'.c)).setCell ⟨qr, 4, none⟩ (.int .i64 t'.d)) = wz at bz hbz ⊢
          have zc0 : wz.cell? ⟨qr, 0, none⟩ = some (.bool t'.top) := bz.cell 0 _ rfl
          have zc1 : wz.cell? ⟨qr, 1, none⟩ = some (.int .i64 t'.a) := bz.cell 1 _ rfl
          have zc2 : wz.cell? ⟨qr, 2, none⟩ = some (.int .i64 t'.b) := bz.cell 2 _ rfl
          have zc3 : wz.cell? ⟨qr, 3, none⟩ = some (.int .i64 t'.c) := bz.cell 3 _ rfl
          have zc4 : wz.cell? ⟨qr, 4, none⟩ = some (.int .i64 t'.d) := bz.cell 4 _ rfl
          refine bodyPost_ret (v := .agg (tc t')) (by simp [results, Try.results38, go_sem, zc0, zc1, zc2, zc3, zc4, tc]) rfl ⟨by rw [HF.out], hbz⟩
        · have HF := Lib.hid (show P.Tup.up n p t = .over by rw [HE.out, upr, if_pos (of_decide_eq_true HODD.out)])
          have hbb := BQr.out
          have rc0 : wr.cell? ⟨qr, 0, none⟩ = some (.bool false) := hbb.cell 0 _ rfl
          have rc1 : wr.cell? ⟨qr, 1, none⟩ = some (.int .i64 0) := hbb.cell 1 _ rfl
          have rc2 : wr.cell? ⟨qr, 2, none⟩ = some (.int .i64 0) := hbb.cell 2 _ rfl
          have rc3 : wr.cell? ⟨qr, 3, none⟩ = some (.int .i64 0) := hbb.cell 3 _ rfl
          have rc4 : wr.cell? ⟨qr, 4, none⟩ = some (.int .i64 0) := hbb.cell 4 _ rfl
          have rf0 : wr.frozen? ⟨qr, 0, none⟩ = false := hbb.frozen 0
          have rf1 : wr.frozen? ⟨qr, 1, none⟩ = false := hbb.frozen 1
          have rf2 : wr.frozen? ⟨qr, 2, none⟩ = false := hbb.frozen 2
          have rf3 : wr.frozen? ⟨qr, 3, none⟩ = false := hbb.frozen 3
          have rf4 : wr.frozen? ⟨qr, 4, none⟩ = false := hbb.frozen 4
          clear hbb
          go_wp2_with fail
          have bz : Box (((((wr.setCell ⟨qr, 0, none⟩ (.bool true)).setCell ⟨qr, 1, none⟩ (.int .i64 0)).setCell ⟨qr, 2, none⟩ (.int .i64 0)).setCell ⟨qr, 3, none⟩ (.int .i64 0)).setCell ⟨qr, 4, none⟩ (.int .i64 0)) qr 26 (tc .over) := BQr.out.stT .over
          have hbz : Below w.heap.size w (((((wr.setCell ⟨qr, 0, none⟩ (.bool true)).setCell ⟨qr, 1, none⟩ (.int .i64 0)).setCell ⟨qr, 2, none⟩ (.int .i64 0)).setCell ⟨qr, 3, none⟩ (.int .i64 0)).setCell ⟨qr, 4, none⟩ (.int .i64 0)) := below_stT W.out LEr.out .over
          generalize (((((wr.setCell ⟨qr, 0, none⟩ (.bool true)).setCell ⟨qr, 1, none⟩ (.int .i64 0)).setCell ⟨qr, 2, none⟩ (.int .i64 0)).setCell ⟨qr, 3, none⟩ (.int .i64 0)).setCell ⟨qr, 4, none⟩ (.int .i64 0)) = wz at bz hbz ⊢
          have zc0 : wz.cell? ⟨qr, 0, none⟩ = some (.bool true) := bz.cell 0 _ rfl
          have zc1 : wz.cell? ⟨qr, 1, none⟩ = some (.int .i64 0) := bz.cell 1 _ rfl
          have zc2 : wz.cell? ⟨qr, 2, none⟩ = some (.int .i64 0) := bz.cell 2 _ rfl
          have zc3 : wz.cell? ⟨qr, 3, none⟩ = some (.int .i64 0) := bz.cell 3 _ rfl
          have zc4 : wz.cell? ⟨qr, 4, none⟩ = some (.int .i64 0) := bz.cell 4 _ rfl
          refine bodyPost_ret (v := .agg (tc .over)) (by simp [results, Try.results38, go_sem, zc0, zc1, zc2, zc3, zc4, tc, P.Tup.over]) rfl ⟨by rw [HF.out], hbz⟩
      | succ j =>
        obtain ⟨k, hk⟩ : ∃ k : Nat, 3 - j = k := ⟨_, rfl⟩
        have e0 : (4 : Int) - ((j + 1 : Nat) : Int) = (k : Int) := by omega
        rw [e0]
        clear e0
        have hk0 : (0 : Int) ≤ (k : Int) := Int.natCast_nonneg _
        have hk4 : (k : Int) < 4 := by omega
        have fk : decide ((k : Int) < 4) = true := decide_eq_true hk4
        have HK := Lib.hid hk
        clear hk
        go_wp2_with fail
        refine (counted_any (k : Int) wr hk0 (by omega)).mono ?_
        rintro e w1 ⟨rfl, rfl⟩
        have hk4n : k < 4 := by omega
        have c0 := BQt.out.counter k hk4n
        have f0 : w1.frozen? ⟨qt, 1 + k, none⟩ = false := BQt.out.frozen (1 + k)
        by_cases hp1 : 2 * (k : Int) + 1 < p
        · have fp : decide (2 * (k : Int) + 1 < p) = true := decide_eq_true hp1
          have HF := Lib.hid (show P.Tup.up n p t = upr n p j (cset t' k 0) by rw [HE.out, upr, HK.out, if_pos (by omega)])
          go_wp2_with fail
          clear c0 f0
          have b2 := BQt.out.set (1 + k) (.int .i64 0)
          rw [tc_set t' k hk4n 0] at b2
          have b1 : Box (w1.setCell ⟨qt, 1 + k, none⟩ (.int .i64 0)) qn 22 (bc n) := BQn.out.far (by have := LTnt.out; simp only; omega) _
          have b3 : Box (w1.setCell ⟨qt, 1 + k, none⟩ (.int .i64 0)) qr 26 (tc .zero) := BQr.out.far (by have := LTtr.out; simp only; omega) _
          have hb := W.out.setCell (p := ⟨qt, 1 + k, none⟩) (by have := LEn.out; have := LTnt.out; simp only; omega) (.int .i64 0)
          generalize w1.setCell ⟨qt, 1 + k, none⟩ (.int .i64 0) = w2 at b1 b2 b3 hb ⊢
          go_roundw
          case rel => exact ⟨j, cset t' k 0, by omega, by have := HK.out; first | rfl | (congr 1; omega), HF.out, low_cset HL.out k 0 (by omega), b1, b2, b3, hb⟩
          case measure => have := HK.out; simp [intOf]; omega
        · have fp : decide (2 * (k : Int) + 1 < p) = false := decide_eq_false hp1
          cases odd
          · have HF := Lib.hid (show P.Tup.up n p t = t' by rw [HE.out, upr, HK.out, if_neg (by omega), if_pos (of_decide_eq_false HODD.out)])
            clear c0 f0
            have hbb := BQt.out
            have tc0 : w1.cell? ⟨qt, 0, none⟩ = some (.bool t'.top) := hbb.cell 0 _ rfl
            have tc1 : w1.cell? ⟨qt, 1, none⟩ = some (.int .i64 t'.a) := hbb.cell 1 _ rfl
            have tc2 : w1.cell? ⟨qt, 2, none⟩ = some (.int .i64 t'.b) := hbb.cell 2 _ rfl
            have tc3 : w1.cell? ⟨qt, 3, none⟩ = some (.int .i64 t'.c) := hbb.cell 3 _ rfl
            have tc4 : w1.cell? ⟨qt, 4, none⟩ = some (.int .i64 t'.d) := hbb.cell 4 _ rfl
            clear hbb
            have hbb := BQr.out
            have rc0 : w1.cell? ⟨qr, 0, none⟩ = some (.bool false) := hbb.cell 0 _ rfl
            have rc1 : w1.cell? ⟨qr, 1, none⟩ = some (.int .i64 0) := hbb.cell 1 _ rfl
            have rc2 : w1.cell? ⟨qr, 2, none⟩ = some (.int .i64 0) := hbb.cell 2 _ rfl
            have rc3 : w1.cell? ⟨qr, 3, none⟩ = some (.int .i64 0) := hbb.cell 3 _ rfl
            have rc4 : w1.cell? ⟨qr, 4, none⟩ = some (.int .i64 0) := hbb.cell 4 _ rfl
            have rf0 : w1.frozen? ⟨qr, 0, none⟩ = false := hbb.frozen 0
            have rf1 : w1.frozen? ⟨qr, 1, none⟩ = false := hbb.frozen 1
            have rf2 : w1.frozen? ⟨qr, 2, none⟩ = false := hbb.frozen 2
            have rf3 : w1.frozen? ⟨qr, 3, none⟩ = false := hbb.frozen 3
            have rf4 : w1.frozen? ⟨qr, 4, none⟩ = false := hbb.frozen 4
            clear hbb
            go_wp2_with fail
            have bz : Box (((((w1.setCell ⟨qr, 0, none⟩ (.bool t'.top)).setCell ⟨qr, 1, none⟩ (.int .i64 t'.a)).setCell ⟨qr, 2, none⟩ (.int .i64 t'.b)).setCell ⟨qr, 3, none⟩ (.int .i64 t'.c)).setCell ⟨qr, 4, none⟩ (.int .i64 t'.d)) qr 26 (tc t') := BQr.out.stT t'
            have hbz : Below w.heap.size w (((((w1.setCell ⟨qr, 0, none⟩ (.bool t'.top)).setCell ⟨qr, 1, none⟩ (.int .i64 t'.a)).setCell ⟨qr, 2, none⟩ (.int .i64 t'.b)).setCell ⟨qr, 3, none⟩ (.int .i64 t'.c)).setCell ⟨qr, 4, none⟩ (.int .i64 t'.d)) := below_stT W.out LEr.out t'
            generalize (((((w1.setCell ⟨qr, 0, none⟩ (.bool t'.top)).setCell ⟨qr, 1, none⟩ (.int .i64 t'.a)).setCell ⟨qr, 2, none⟩ (.int .i64 t'.b)).setCell ⟨qr, 3, none⟩ (.int .i64 t'.c)).setCell ⟨qr, 4, none⟩ (.int .i64 t'.d)) = wz at bz hbz ⊢
            have zc0 : wz.cell? ⟨qr, 0, none⟩ = some (.bool t'.top) := bz.cell 0 _ rfl
            have zc1 : wz.cell? ⟨qr, 1, none⟩ = some (.int .i64 t'.a) := bz.cell 1 _ rfl
            have zc2 : wz.cell? ⟨qr, 2, none⟩ = some (.int .i64 t'.b) := bz.cell 2 _ rfl
            have zc3 : wz.cell? ⟨qr, 3, none⟩ = some (.int .i64 t'.c) := bz.cell 3 _ rfl
            have zc4 : wz.cell? ⟨qr, 4, none⟩ = some (.int .i64 t'.d) := bz.cell 4 _ rfl
            refine bodyPost_ret (v := .agg (tc t')) (by simp [results, Try.results38, go_sem, zc0, zc1, zc2, zc3, zc4, tc]) rfl ⟨by rw [HF.out], hbz⟩
          · have n0 := BQn.out.bcounter k hk4n
            have hlo := HL.out k hk4n
            have hhi := HN.out k hk4n
            have hod : ¬ p % 2 ≠ 1 := fun h => h (of_decide_eq_true HODD.out)
            obtain ⟨x, hx⟩ : ∃ x, ct t' k = x := ⟨_, rfl⟩
            obtain ⟨y, hy⟩ : ∃ y, ct n k = y := ⟨_, rfl⟩
            rw [hx] at c0 hlo
            rw [hy] at n0 hhi
            have HX := Lib.hid hx
            have HY := Lib.hid hy
            clear hx hy
            go_upto_region 9 with (fail)
            go_quiet (fail)
            have hb := below_drewN (Below.refl w1.heap.size w1) nq
            replace BQn := Lib.hid (BQn.out.keep (grown_of_below hb none))
            replace BQt := Lib.hid (BQt.out.keep (grown_of_below hb none))
            replace BQr := Lib.hid (BQr.out.keep (grown_of_below hb none))
            replace W := Lib.hid (W.out.trans (hb.mono W.out.size))
            clear hb c0 f0 n0
            generalize w1.drewN nq = w2 at BQn BQt BQr W ⊢
            have c0 := BQt.out.counter k hk4n
            rw [HX.out] at c0
            have f0 : w2.frozen? ⟨qt, 1 + k, none⟩ = false := BQt.out.frozen (1 + k)
            by_cases hxy : x < y
            · have fx : decide (x < y) = true := decide_eq_true hxy
              have HF := Lib.hid (show P.Tup.up n p t = cset t' k (x + 1) by rw [HE.out, upr, HK.out, if_neg (by omega), if_neg hod, HX.out, HY.out, if_pos hxy])
              have b2 := BQt.out.set (1 + k) (.int .i64 (x + 1))
              rw [tc_set t' k hk4n (x + 1)] at b2
              have b3 : Box (w2.setCell ⟨qt, 1 + k, none⟩ (.int .i64 (x + 1))) qr 26 (tc .zero) := BQr.out.far (by have := LTtr.out; simp only; omega) _
              have hb := W.out.setCell (p := ⟨qt, 1 + k, none⟩) LEt.out (.int .i64 (x + 1))
              obtain ⟨z, hz⟩ : ∃ z, cset t' k (x + 1) = z := ⟨_, rfl⟩
              rw [hz] at b2 HF
              have B2 := Lib.hid b2
              have B3 := Lib.hid b3
              have W3 := Lib.hid hb
              clear b2 b3 hb hz
              have hbb := B2.out
              have tc0 : (w2.setCell ⟨qt, 1 + k, none⟩ (.int .i64 (x + 1))).cell? ⟨qt, 0, none⟩ = some (.bool z.top) := hbb.cell 0 _ rfl
              have tc1 : (w2.setCell ⟨qt, 1 + k, none⟩ (.int .i64 (x + 1))).cell? ⟨qt, 1, none⟩ = some (.int .i64 z.a) := hbb.cell 1 _ rfl
              have tc2 : (w2.setCell ⟨qt, 1 + k, none⟩ (.int .i64 (x + 1))).cell? ⟨qt, 2, none⟩ = some (.int .i64 z.b) := hbb.cell 2 _ rfl
              have tc3 : (w2.setCell ⟨qt, 1 + k, none⟩ (.int .i64 (x + 1))).cell? ⟨qt, 3, none⟩ = some (.int .i64 z.c) := hbb.cell 3 _ rfl
              have tc4 : (w2.setCell ⟨qt, 1 + k, none⟩ (.int .i64 (x + 1))).cell? ⟨qt, 4, none⟩ = some (.int .i64 z.d) := hbb.cell 4 _ rfl
              clear hbb
              have hbb := B3.out
              have rc0 : (w2.setCell ⟨qt, 1 + k, none⟩ (.int .i64 (x + 1))).cell? ⟨qr, 0, none⟩ = some (.bool false) := hbb.cell 0 _ rfl
              have rc1 : (w2.setCell ⟨qt, 1 + k, none⟩ (.int .i64 (x + 1))).cell? ⟨qr, 1, none⟩ = some (.int .i64 0) := hbb.cell 1 _ rfl
              have rc2 : (w2.setCell ⟨qt, 1 + k, none⟩ (.int .i64 (x + 1))).cell? ⟨qr, 2, none⟩ = some (.int .i64 0) := hbb.cell 2 _ rfl
              have rc3 : (w2.setCell ⟨qt, 1 + k, none⟩ (.int .i64 (x + 1))).cell? ⟨qr, 3, none⟩ = some (.int .i64 0) := hbb.cell 3 _ rfl
              have rc4 : (w2.setCell ⟨qt, 1 + k, none⟩ (.int .i64 (x + 1))).cell? ⟨qr, 4, none⟩ = some (.int .i64 0) := hbb.cell 4 _ rfl
              have rf0 : (w2.setCell ⟨qt, 1 + k, none⟩ (.int .i64 (x + 1))).frozen? ⟨qr, 0, none⟩ = false := hbb.frozen 0
              have rf1 : (w2.setCell ⟨qt, 1 + k, none⟩ (.int .i64 (x + 1))).frozen? ⟨qr, 1, none⟩ = false := hbb.frozen 1
              have rf2 : (w2.setCell ⟨qt, 1 + k, none⟩ (.int .i64 (x + 1))).frozen? ⟨qr, 2, none⟩ = false := hbb.frozen 2
              have rf3 : (w2.setCell ⟨qt, 1 + k, none⟩ (.int .i64 (x + 1))).frozen? ⟨qr, 3, none⟩ = false := hbb.frozen 3
              have rf4 : (w2.setCell ⟨qt, 1 + k, none⟩ (.int .i64 (x + 1))).frozen? ⟨qr, 4, none⟩ = false := hbb.frozen 4
              clear hbb
              go_wp2_with fail
              have bz : Box ((((((w2.setCell ⟨qt, 1 + k, none⟩ (.int .i64 (x + 1))).setCell ⟨qr, 0, none⟩ (.bool z.top)).setCell ⟨qr, 1, none⟩ (.int .i64 z.a)).setCell ⟨qr, 2, none⟩ (.int .i64 z.b)).setCell ⟨qr, 3, none⟩ (.int .i64 z.c)).setCell ⟨qr, 4, none⟩ (.int .i64 z.d)) qr 26 (tc z) := B3.out.stT z
              have hbz : Below w.heap.size w ((((((w2.setCell ⟨qt, 1 + k, none⟩ (.int .i64 (x + 1))).setCell ⟨qr, 0, none⟩ (.bool z.top)).setCell ⟨qr, 1, none⟩ (.int .i64 z.a)).setCell ⟨qr, 2, none⟩ (.int .i64 z.b)).setCell ⟨qr, 3, none⟩ (.int .i64 z.c)).setCell ⟨qr, 4, none⟩ (.int .i64 z.d)) := below_stT W3.out LEr.out z
              generalize ((((((w2.setCell ⟨qt, 1 + k, none⟩ (.int .i64 (x + 1))).setCell ⟨qr, 0, none⟩ (.bool z.top)).setCell ⟨qr, 1, none⟩ (.int .i64 z.a)).setCell ⟨qr, 2, none⟩ (.int .i64 z.b)).setCell ⟨qr, 3, none⟩ (.int .i64 z.c)).setCell ⟨qr, 4, none⟩ (.int .i64 z.d)) = wz at bz hbz ⊢
              have zc0 : wz.cell? ⟨qr, 0, none⟩ = some (.bool z.top) := bz.cell 0 _ rfl
              have zc1 : wz.cell? ⟨qr, 1, none⟩ = some (.int .i64 z.a) := bz.cell 1 _ rfl
              have zc2 : wz.cell? ⟨qr, 2, none⟩ = some (.int .i64 z.b) := bz.cell 2 _ rfl
              have zc3 : wz.cell? ⟨qr, 3, none⟩ = some (.int .i64 z.c) := bz.cell 3 _ rfl
              have zc4 : wz.cell? ⟨qr, 4, none⟩ = some (.int .i64 z.d) := bz.cell 4 _ rfl
              refine bodyPost_ret (v := .agg (tc z)) (by simp [results, Try.results38, go_sem, zc0, zc1, zc2, zc3, zc4, tc]) rfl ⟨by rw [HF.out], hbz⟩
            · have fx : decide (x < y) = false := decide_eq_false hxy
              have HF := Lib.hid (show P.Tup.up n p t = upr n p j (cset t' k 0) by rw [HE.out, upr, HK.out, if_neg (by omega), if_neg hod, HX.out, HY.out, if_neg hxy])
              go_wp2_with fail
              clear c0 f0
              have b2 := BQt.out.set (1 + k) (.int .i64 0)
              rw [tc_set t' k hk4n 0] at b2
              have b1 : Box (w2.setCell ⟨qt, 1 + k, none⟩ (.int .i64 0)) qn 22 (bc n) := BQn.out.far (by have := LTnt.out; simp only; omega) _
              have b3 : Box (w2.setCell ⟨qt, 1 + k, none⟩ (.int .i64 0)) qr 26 (tc .zero) := BQr.out.far (by have := LTtr.out; simp only; omega) _
              have hb := W.out.setCell (p := ⟨qt, 1 + k, none⟩) (by have := LEn.out; have := LTnt.out; simp only; omega) (.int .i64 0)
              generalize w2.setCell ⟨qt, 1 + k, none⟩ (.int .i64 0) = w3 at b1 b2 b3 hb ⊢
              go_roundw
              case rel => exact ⟨j, cset t' k 0, by omega, by have := HK.out; first | rfl | (congr 1; omega), HF.out, low_cset HL.out k 0 (by omega), b1, b2, b3, hb⟩
              case measure => have := HK.out; simp [intOf]; omega
  · have e0 : tc ⟨true, ta, tb, tc_, td⟩ = #[.bool true, .int .i64 ta, .int .i64 tb, .int .i64 tc_, .int .i64 td] := rfl
    rw [e0, e1]
    clear e0 e1
    go_enter Try.func38, Try.ntmps38
    go_wp2_with fail
    refine bodyPost_ret (v := .agg #[.bool true, .int .i64 0, .int .i64 0, .int .i64 0, .int .i64 0]) (by simp [results, Try.results38, go_sem]) rfl ⟨rfl, (((Below.refl _ w).alloc (Nat.le_refl _) _).alloc (by simp) _).alloc (by simp; omega) _⟩
end W
end Go.Proofs.Yteeaojciobmcaaa
end
section
namespace Go.Proofs.Yteeaojciobmcaaa
open Go.RowKit
namespace W

def tl (t : P.Tup) : List Value := [.bool t.top, .int .i64 t.a, .int .i64 t.b, .int .i64 t.c, .int .i64 t.d]
def flatL (l : List P.Tup) : List Value := l.flatMap tl
def flatT (l : List P.Tup) : Array Value := (flatL l).toArray
theorem flatL_cons (t : P.Tup) (l : List P.Tup) : flatL (t :: l) = tl t ++ flatL l := rfl
theorem flatL_len : ∀ l : List P.Tup, (flatL l).length = l.length * 5
  | [] => rfl
  | t :: l => by
    rw [flatL_cons, List.length_append, flatL_len l, List.length_cons]
    show 5 + l.length * 5 = (l.length + 1) * 5
    omega
theorem flatL_at : ∀ (l : List P.Tup) (j i : Nat), j < l.length → i < 5 → (flatL l)[j * 5 + i]? = (tl (l.getD j .zero))[i]?
  | [], j, i, h, _ => nomatch h
  | t :: l, 0, i, _, hi => by
    rw [flatL_cons, Nat.zero_mul, Nat.zero_add, List.getElem?_append_left (by show i < 5; exact hi)]
    rfl
  | t :: l, j + 1, i, h, hi => by
    have e : (j + 1) * 5 + i - (tl t).length = j * 5 + i := by
      show (j + 1) * 5 + i - 5 = j * 5 + i
      omega
    rw [flatL_cons, List.getElem?_append_right (by show 5 ≤ (j + 1) * 5 + i; omega), e, flatL_at l j i (by simpa using h) hi, List.getD_cons_succ]
theorem flatL_set (t : P.Tup) : ∀ (l : List P.Tup) (j : Nat), j < l.length → ((((((flatL l).set (j * 5) (.bool t.top)).set (j * 5 + 1) (.int .i64 t.a)).set (j * 5 + 2) (.int .i64 t.b)).set (j * 5 + 3) (.int .i64 t.c)).set (j * 5 + 4) (.int .i64 t.d)) = flatL (l.set j t)
  | [], j, h => nomatch h
  | u :: l, 0, _ => by
    rw [flatL_cons, List.set_cons_zero, flatL_cons]
    rfl
  | u :: l, j + 1, h => by
    have key : ∀ (i : Nat) (v : Value) (L : List Value), i < 5 → (tl u ++ L).set ((j + 1) * 5 + i) v = tl u ++ L.set (j * 5 + i) v := by
      intro i v L hi
      rw [List.set_append, if_neg (by show ¬ (j + 1) * 5 + i < 5; omega)]
      congr 2
      show (j + 1) * 5 + i - 5 = j * 5 + i
      omega
    have k0 := fun v L => key 0 v L (by omega)
    simp only [Nat.add_zero] at k0
    rw [flatL_cons, List.set_cons_succ, flatL_cons, k0, key 1 _ _ (by omega), key 2 _ _ (by omega), key 3 _ _ (by omega), key 4 _ _ (by omega), flatL_set t l j (by simpa using h)]
/-- A list of tuples, wherever it lies. -/
def TupsV (w : World) (v : Value) (l : List P.Tup) : Prop := ∃ ao cap, v = .slice ao l.length cap ∧ l.length ≤ 17592186043904 ∧ (l = [] ∨ ∃ b off, ao = some ⟨b, off, none⟩ ∧ b < w.heap.size ∧ ∀ j, j < l.length → ∀ i u, (tl (l.getD j .zero))[i]? = some u → w.cell? ⟨b, off + j * 5 + i, none⟩ = some u)
theorem TupsV.on {w w' : World} {v : Value} {l : List P.Tup} (h : TupsV w v l) (hb : Below w.heap.size w w') : TupsV w' v l := by
  obtain ⟨ao, cap, rfl, h1, h2⟩ := h
  refine ⟨ao, cap, rfl, h1, ?_⟩
  rcases h2 with h2 | ⟨b, off, h3, h4, h5⟩
  · exact .inl h2
  · exact .inr ⟨b, off, h3, Nat.lt_of_lt_of_le h4 hb.size, fun j hj i u hu => by rw [hb.cell (p := ⟨b, off + j * 5 + i, none⟩) h4]; exact h5 j hj i u hu⟩
/-- Its cells, at any later world. -/
theorem TupsV.open_ {w : World} {v : Value} {l : List P.Tup} (h : TupsV w v l) {n : Nat} (hn : l.length = n) (h0 : 0 < n) : ∃ b off cap, v = .slice (some ⟨b, off, none⟩) n cap ∧ b < w.heap.size ∧ ∀ w', Below w.heap.size w w' → ∀ j, j < n → ∀ i u, (tl (l.getD j .zero))[i]? = some u → w'.cell? ⟨b, off + j * 5 + i, none⟩ = some u := by
  obtain ⟨ao, cap, rfl, h1, h2⟩ := h
  obtain ⟨b, off, rfl, h4, h5⟩ := h2.resolve_left (fun e => by rw [e] at hn; simp at hn; omega)
  subst hn
  exact ⟨b, off, cap, rfl, h4, fun w' hb j hj i u hu => by rw [hb.cell (p := ⟨b, off + j * 5 + i, none⟩) h4]; exact h5 j hj i u hu⟩
theorem Box.tups {w : World} {q : Nat} {ty : TypeId} {l : List P.Tup} (h : Box w q ty (flatT l)) (hl : l.length ≤ 17592186043904) (k : Nat) : TupsV w (.slice (some ⟨q, 0, none⟩) l.length k) l :=
  ⟨_, k, rfl, hl, .inr ⟨q, 0, rfl, h.lt, fun j hj i u hu => by
    have hi : i < 5 := by
      have := (List.getElem?_eq_some_iff.1 hu).1
      exact this
    refine h.cell _ u ?_
    rw [Nat.zero_add]
    unfold flatT
    rw [List.getElem?_toArray, flatL_at l j i hj hi]
    exact hu⟩⟩
/-- A tuple of an own list written over. -/
theorem Box.setAt {w : World} {q : Nat} {ty : TypeId} {l : List P.Tup} (h : Box w q ty (flatT l)) (j : Nat) (hj : j < l.length) (t : P.Tup) : Box (((((w.setCell ⟨q, j * 5, none⟩ (.bool t.top)).setCell ⟨q, j * 5 + 1, none⟩ (.int .i64 t.a)).setCell ⟨q, j * 5 + 2, none⟩ (.int .i64 t.b)).setCell ⟨q, j * 5 + 3, none⟩ (.int .i64 t.c)).setCell ⟨q, j * 5 + 4, none⟩ (.int .i64 t.d)) q ty (flatT (l.set j t)) := by
  have e : flatT (l.set j t) = ((((((flatT l).setIfInBounds (j * 5) (.bool t.top)).setIfInBounds (j * 5 + 1) (.int .i64 t.a)).setIfInBounds (j * 5 + 2) (.int .i64 t.b)).setIfInBounds (j * 5 + 3) (.int .i64 t.c)).setIfInBounds (j * 5 + 4) (.int .i64 t.d)) := by
    unfold flatT
    rw [← flatL_set t l j hj]
    simp only [List.setIfInBounds_toArray]
  rw [e]
  exact ((((h.set _ _).set _ _).set _ _).set _ _).set _ _
theorem flat_zero (n : Nat) : flatL (List.replicate n .zero) = (List.replicate n (tl .zero)).flatten := by
  unfold flatL
  rw [List.flatMap_def, List.map_replicate]
end W
end Go.Proofs.Yteeaojciobmcaaa
end
section
namespace Go.Proofs.Yteeaojciobmcaaa
open Go.RowKit
namespace W

def tupF : List Field := [⟨"Top", 4, 0, false, "", "", 0⟩, ⟨"C", 22, 1, false, "", "", 8⟩]
theorem tup_fields : (Try.prog.fieldsOf 26).toList = tupF := by
  unfold Program.fieldsOf
  rw [Try.underlying26]
  rfl
theorem tup_under : Try.prog.underlying 26 = some (.struct (Try.prog.fieldsOf 26)) := by
  unfold Program.fieldsOf
  rw [Try.underlying26]
theorem tup_held : Try.prog.stoodInHeld 26 = false := by kernel_rfl
theorem tup_partT (x0 x1 x2 x3 x4 : Value) (w : World) : (part 4 #[x0, x1, x2, x3, x4] 0).run Try.prog w = .ok x0 w := by kernel_rfl
theorem tup_partC (x0 : Value) (a0 a1 a2 a3 : Int) (w : World) : (part 22 #[x0, .int .i64 a0, .int .i64 a1, .int .i64 a2, .int .i64 a3] 1).run Try.prog w = .ok (.agg #[.int .i64 a0, .int .i64 a1, .int .i64 a2, .int .i64 a3]) w := by kernel_rfl
theorem arr_info : (Try.prog.info? 3).map (fun i => (i.size)) = some 1 := by kernel_rfl
theorem arr_cells : Try.prog.cellsOf 3 = 1 := by kernel_rfl
theorem arr_part0 (x0 x1 x2 x3 : Value) (w : World) : (part 3 #[x0, x1, x2, x3] 0).run Try.prog w = .ok x0 w := by kernel_rfl
theorem arr_part1 (x0 x1 x2 x3 : Value) (w : World) : (part 3 #[x0, x1, x2, x3] 1).run Try.prog w = .ok x1 w := by kernel_rfl
theorem arr_part2 (x0 x1 x2 x3 : Value) (w : World) : (part 3 #[x0, x1, x2, x3] 2).run Try.prog w = .ok x2 w := by kernel_rfl
theorem arr_part3 (x0 x1 x2 x3 : Value) (w : World) : (part 3 #[x0, x1, x2, x3] 3).run Try.prog w = .ok x3 w := by kernel_rfl
theorem int_eq (e : Nat) (x y : Int) (w : World) : (Op.equalIn (e + 1) 3 (.int .i64 x) (.int .i64 y)).run Try.prog w = .ok (x == y) w := by
  simp [Op.equalIn, run_underlying Try.underlying3]
theorem bool_eq (e : Nat) (x y : Bool) (w : World) : (Op.equalIn (e + 1) 4 (.bool x) (.bool y)).run Try.prog w = .ok (x == y) w := run_equalIn_bool w e 4 x y Try.underlying4
theorem arr_eq (d : Nat) (a0 a1 a2 a3 b0 b1 b2 b3 : Int) (w : World) : (Op.equalIn (d + 2) 22 (.agg #[.int .i64 a0, .int .i64 a1, .int .i64 a2, .int .i64 a3]) (.agg #[.int .i64 b0, .int .i64 b1, .int .i64 b2, .int .i64 b3])).run Try.prog w = .ok (a0 == b0 && a1 == b1 && a2 == b2 && a3 == b3) w := by
  obtain ⟨i, hi⟩ : ∃ i, Try.prog.info? 3 = some i := by
    have := arr_info
    cases h : Try.prog.info? 3 with
    | none => simp [h] at this
    | some i => exact ⟨i, rfl⟩
  rw [run_equalIn_array w (d + 1) _ _ Try.underlying22 hi, arr_cells]
  have r4 : List.range 4 = [0, 1, 2, 3] := rfl
  rw [r4]
  simp only [Op.eqItems, Sem.run_bind, Nat.mul_one, arr_part0, arr_part1, arr_part2, arr_part3, int_eq, Result.andThen_ok, Sem.run_ite, Sem.run_pure]
  generalize (a0 == b0) = ra, (a1 == b1) = rb, (a2 == b2) = rc, (a3 == b3) = rd
  cases ra <;> cases rb <;> cases rc <;> cases rd <;> rfl
theorem tup_in (s t : P.Tup) (w : World) : (Op.equalIn 10000 26 (.agg (tc s)) (.agg (tc t))).run Try.prog w = .ok (decide (s = t)) w := by
  obtain ⟨p, a0, a1, a2, a3⟩ := s
  obtain ⟨q, b0, b1, b2, b3⟩ := t
  unfold tc
  rw [run_equalIn_struct w 9999 26 _ _ tup_under tup_held, tup_fields]
  unfold tupF
  simp only [Op.eqFields, show ("Top" ≠ "_") = True from by simp, show ("C" ≠ "_") = True from by simp, if_true, Sem.run_bind, tup_partT, tup_partC, bool_eq 9998, arr_eq 9997, Result.andThen_ok, Sem.run_ite, Sem.run_pure]
  have e : decide ((⟨p, a0, a1, a2, a3⟩ : P.Tup) = ⟨q, b0, b1, b2, b3⟩) = ((p == q) && (a0 == b0 && a1 == b1 && a2 == b2 && a3 == b3)) := by
    apply Bool.eq_iff_iff.2
    simp only [decide_eq_true_iff, P.Tup.mk.injEq, Bool.and_eq_true, beq_iff_eq]
    constructor
    · rintro ⟨h1, h2, h3, h4, h5⟩
      exact ⟨h1, ⟨⟨h2, h3⟩, h4⟩, h5⟩
    · rintro ⟨h1, ⟨⟨h2, h3⟩, h4⟩, h5⟩
      exact ⟨h1, h2, h3, h4, h5⟩
  rw [e]
  generalize (p == q) = ra, (a0 == b0 && a1 == b1 && a2 == b2 && a3 == b3) = rb
  cases ra <;> cases rb <;> rfl
theorem tup_eql (s t : P.Tup) (w : World) : (binOp .eql 26 (.agg (tc s)) (.agg (tc t))).run Try.prog w = .ok (.bool (decide (s = t))) w := by
  simp only [binOp]
  simp [Op.equal, Op.maxDepth, tup_in]
theorem tup_neq (s t : P.Tup) (w : World) : (binOp .neq 26 (.agg (tc s)) (.agg (tc t))).run Try.prog w = .ok (.bool (!decide (s = t))) w := by
  simp only [binOp]
  simp [Op.equal, Op.maxDepth, tup_in]
end W
end Go.Proofs.Yteeaojciobmcaaa
end
