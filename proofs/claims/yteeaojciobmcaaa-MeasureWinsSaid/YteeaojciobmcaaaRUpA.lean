/- How often a priority comes: the document's many. What a move makes of a tuple: the document's. -/
import Derived.Test.YteeaojciobmcaaaBounds
import Derived.Deep.Cut
import Derived.Lib.Hide
import Derived.Deep.QuietTactic
import Derived.BigQuiet
import Derived.Test.YteeaojciobmcaaaMoves
import Derived.Test.YteeaojciobmcaaaReg
section
namespace Go.Proofs.Yteeaojciobmcaaa
open Go.RowKit
namespace W

theorem take_count (prio : List Int) (q : Int) (j : Nat) (hj : j < prio.length) : (prio.take (j + 1)).count q = (prio.take j).count q + (if prio.getD j 0 = q then 1 else 0) := by
  rw [List.take_add_one, List.count_append, List.getElem?_eq_getElem hj]
  have e : prio.getD j 0 = prio[j] := by rw [List.getD_eq_getElem?_getD, List.getElem?_eq_getElem hj]; rfl
  rw [e, Option.toList_some, List.count_singleton]
  by_cases h : prio[j] = q
  · rw [if_pos h, if_pos (by rw [beq_iff_eq]; exact h)]
  · rw [if_neg h, if_neg (by rw [beq_iff_eq]; exact h)]
set_option maxRecDepth 100000 in
set_option maxHeartbeats 1000000 in
theorem many_any (g : P.G) (q : Int) (v : Value) (w : World) (hv : GameV w v g) : Calls Try.prog 40 #[v, .int .i64 q] w fun e w' => e = .returned (.int .i64 (g.prio.count q : Int)) ∧ Below w.heap.size w w' := by
  obtain ⟨a, b, c, rfl, -, hb, -⟩ := hv
  obtain ⟨prio, hprio⟩ : ∃ l, g.prio = l := ⟨_, rfl⟩
  rw [hprio] at hb ⊢
  clear hprio
  obtain ⟨bo, bk, rfl, hlen, hc⟩ := hb
  obtain ⟨n, hn⟩ : ∃ n, prio.length = n := ⟨_, rfl⟩
  rw [hn] at hlen ⊢
  have HC := Lib.hid hc
  have HN := Lib.hid hn
  clear hn hc
  go_enter Try.func40, Try.ntmps40
  go_wp2_with fail
  have bx0 : Box (w.alloc (.cells #[a, .slice bo n bk, c] 33)) (w.heap.size) 33 #[a, .slice bo n bk, c] := Box.new w 33 #[a, .slice bo n bk, c]
  have hbq : Below w.heap.size w (w.alloc (.cells #[a, .slice bo n bk, c] 33)) := (Below.refl _ w).alloc (Nat.le_refl _) _
  have hle0 : w.heap.size ≤ w.heap.size := Nat.le_refl _
  generalize (w.alloc (.cells #[a, .slice bo n bk, c] 33)) = w0 at bx0 hbq  ⊢
  have BQg := Lib.hid bx0
  have W := Lib.hid hbq
  have LEg := Lib.hid hle0
  clear hbq hle0 bx0 
  obtain ⟨qg, hqg⟩ : ∃ qg, w.heap.size = qg := ⟨_, rfl⟩
  rw [hqg] at BQg ⊢
  have LEg : Hid (w.heap.size ≤ qg) := Lib.hid (by omega)
  clear hqg
  have g1 := BQg.out.cell 1 _ rfl
  go_loopw [5, 6] (fun cv iv wr => ∃ j : Nat, j ≤ n ∧ iv = .int .i64 (j : Int) ∧ cv = .int .i64 ((prio.take j).count q : Int) ∧ wr = w0) (fun _ iv _ => n - (intOf iv).toNat)
  case atStart => exact ⟨0, Nat.zero_le _, rfl, by simp, by first | trivial | rfl⟩
  case round =>
    obtain ⟨j, hj, rfl, rfl, hw⟩ := hrel
    obtain rfl : w0 = wr := hw.symm
    clear hw
    have hj0 : (0 : Int) ≤ (j : Int) := Int.natCast_nonneg _
    have hcl : (prio.take j).count q ≤ n := Nat.le_trans List.count_le_length (by rw [List.length_take, HN.out]; omega)
    obtain ⟨x, hx⟩ : ∃ x, (prio.take j).count q = x := ⟨_, rfl⟩
    rw [hx] at hcl ⊢
    have HX := Lib.hid hx
    clear hx
    by_cases hlt : j < n
    · have fj : decide ((j : Int) < (n : Int)) = true := decide_eq_true (by omega)
      have hji : (j : Int) < (n : Int) := by omega
      obtain ⟨b, off, rfl, hbl, hc⟩ := HC.out.resolve_left (fun e => by have := HN.out; rw [e] at this; simp at this; omega)
      have hcj := hc j (by have := HN.out; omega)
      rw [← W.out.cell (p := ⟨b, off + j, none⟩) hbl] at hcj
      have htc := take_count prio q j (by have := HN.out; omega)
      obtain ⟨z, hz⟩ : ∃ z, prio.getD j 0 = z := ⟨_, rfl⟩
      rw [hz] at hcj htc
      rw [HX.out] at htc
      clear hz hc hbl
      by_cases hzq : z = q
      · have fz : (z == q) = true := by rw [beq_iff_eq]; exact hzq
        have HT := Lib.hid (show (prio.take (j + 1)).count q = x + 1 by rw [htc, if_pos hzq])
        clear htc hzq
        go_wp2_with fail
        go_roundw
        case rel => exact ⟨j + 1, by omega, by first | rfl | go_num, by rw [HT.out]; first | rfl | go_num, by first | trivial | rfl⟩
        case measure => simp [intOf]; omega
      · have fz : (z == q) = false := by rw [beq_eq_false_iff_ne]; exact hzq
        have HT := Lib.hid (show (prio.take (j + 1)).count q = x by rw [htc, if_neg hzq]; rfl)
        clear htc hzq
        go_wp2_with fail
        go_roundw
        case rel => exact ⟨j + 1, by omega, by first | rfl | go_num, by rw [HT.out], by first | trivial | rfl⟩
        case measure => simp [intOf]; omega
    · have fj : decide ((j : Int) < (n : Int)) = false := decide_eq_false (by omega)
      have HF := Lib.hid (show prio.count q = x by rw [← HX.out, List.take_of_length_le (by have := HN.out; omega)])
      go_wp2_with fail
      go_ret
      exact ⟨by rw [HF.out]; rfl, W.out⟩
end W
end Go.Proofs.Yteeaojciobmcaaa
end
section
namespace Go.Proofs.Yteeaojciobmcaaa
open Go.RowKit
namespace W

/-- A tuple's lower counters struck, those that count taken over; up to a place. -/
def lz (p : Int) (t : P.Tup) (k : Nat) : P.Tup := ⟨false, if 0 < k ∧ p ≤ 1 then t.a else 0, if 1 < k ∧ p ≤ 3 then t.b else 0, if 2 < k ∧ p ≤ 5 then t.c else 0, if 3 < k ∧ p ≤ 7 then t.d else 0⟩
theorem lz_take {p : Int} {t : P.Tup} {k : Nat} (hk : k < 4) (h : p ≤ 2 * (k : Int) + 1) : cset (lz p t k) k (ct t k) = lz p t (k + 1) := by
  match k, hk with
  | 0, _ => simp [cset, lz, ct, show p ≤ 1 by omega]
  | 1, _ => simp [cset, lz, ct, show p ≤ 3 by omega]
  | 2, _ => simp [cset, lz, ct, show p ≤ 5 by omega]
  | 3, _ => simp [cset, lz, ct, show p ≤ 7 by omega]
theorem lz_pass {p : Int} {t : P.Tup} {k : Nat} (hk : k < 4) (h : ¬ p ≤ 2 * (k : Int) + 1) : lz p t k = lz p t (k + 1) := by
  match k, hk with
  | 0, _ => simp [lz, show ¬ p ≤ 1 by omega]
  | 1, _ => simp [lz, show ¬ p ≤ 3 by omega]
  | 2, _ => simp [lz, show ¬ p ≤ 5 by omega]
  | 3, _ => simp [lz, show ¬ p ≤ 7 by omega]
theorem lz_low (p : Int) (t : P.Tup) (k : Nat) (hk : k < 4) (h : 2 * (k : Int) + 1 < p) : ct (lz p t 4) k = 0 := by
  match k, hk with
  | 0, _ => simp [lz, ct, show ¬ p ≤ 1 by omega]
  | 1, _ => simp [lz, ct, show ¬ p ≤ 3 by omega]
  | 2, _ => simp [lz, ct, show ¬ p ≤ 5 by omega]
  | 3, _ => simp [lz, ct, show ¬ p ≤ 7 by omega]
theorem lz_even {n t : P.Tup} {p : Int} (ht : t.top = false) (hp : ¬ p % 2 = 1) : P.Tup.up n p t = lz p t 4 := by
  obtain ⟨t0, t1, t2, t3, t4⟩ := t
  simp only at ht
  subst ht
  unfold P.Tup.up P.Tup.up0 P.Tup.up1 P.Tup.up2 P.Tup.up3 lz
  simp only [hp, Bool.false_eq_true, if_false, ne_eq, not_false_eq_true, if_true]
  repeat' split
  all_goals simp
  all_goals omega
theorem lz_odd {n t : P.Tup} {p : Int} (ht : t.top = false) (hp : p % 2 = 1) : P.Tup.up n p t = upr n p 4 (lz p t 4) := by
  rw [upr4 n _ p rfl]
  obtain ⟨t0, t1, t2, t3, t4⟩ := t
  simp only at ht
  subst ht
  unfold P.Tup.up P.Tup.up0 P.Tup.up1 P.Tup.up2 P.Tup.up3 lz
  simp only [hp, Bool.false_eq_true, if_false, ne_eq, not_true_eq_false]
  by_cases q7 : 7 < p
  · simp [q7, show 5 < p by omega, show 3 < p by omega, show 1 < p by omega]
  by_cases q5 : 5 < p
  · simp [q7, q5, show 3 < p by omega, show 1 < p by omega, show p ≤ 7 by omega]
  by_cases q3 : 3 < p
  · simp [q7, q5, q3, show 1 < p by omega, show p ≤ 7 by omega, show p ≤ 5 by omega]
  by_cases q1 : 1 < p
  · simp [q7, q5, q3, q1, show p ≤ 7 by omega, show p ≤ 5 by omega, show p ≤ 3 by omega]
  simp [q7, q5, q3, q1, show p ≤ 7 by omega, show p ≤ 5 by omega, show p ≤ 3 by omega, show p ≤ 1 by omega]
theorem cset_zero {t : P.Tup} {k : Nat} (hk : k < 4) (h : ct t k = 0) : cset t k 0 = t := by
  obtain ⟨t0, t1, t2, t3, t4⟩ := t
  match k, hk with
  | 0, _ | 1, _ | 2, _ | 3, _ => simp only [ct] at h; subst h; rfl
theorem ct_other {t : P.Tup} {k i : Nat} (hk : k < 4) (hi : i < 4) (x : Int) (h : i ≠ k) : ct (cset t k x) i = ct t i := by
  match k, i, hk, hi with
  | 0, 0, _, _ | 1, 1, _, _ | 2, 2, _, _ | 3, 3, _, _ => exact absurd rfl h
  | 0, 1, _, _ | 0, 2, _, _ | 0, 3, _, _ | 1, 0, _, _ | 1, 2, _, _ | 1, 3, _, _ | 2, 0, _, _ | 2, 1, _, _ | 2, 3, _, _ | 3, 0, _, _ | 3, 1, _, _ | 3, 2, _, _ => rfl
theorem tups_ct (g : P.G) (k : Nat) (hk : k < 4) : ct g.tups k = ((g.prio.count (2 * (k : Int) + 1) : Nat) : Int) := by
  match k, hk with
  | 0, _ | 1, _ | 2, _ | 3, _ => rfl
theorem and_even_eq (p : Int) : (bits .and .i64 p 1 == 0) = decide (p % 2 = 0) := by
  rw [and_odd]
  rfl

set_option maxRecDepth 100000 in
set_option maxHeartbeats 4000000 in
theorem rup_any (g : P.G) (t : P.Tup) (p : Int) (v : Value) (w : World) (hv : GameV w v g) (hp : -9223372036854775808 ≤ p ∧ p ≤ 9223372036854775807) (ht : ∀ k, k < 4 → -9223372036854775808 ≤ ct t k) :
    Calls Try.prog 18 #[v, .int .i64 p, .agg (tc t)] w fun e w' => e = .returned (.agg (tc (P.Tup.up g.tups p t))) ∧ Below w.heap.size w w' := by
  have HV := Lib.hid hv
  have HTB := Lib.hid ht
  have HP := Lib.hid hp
  have hpf : g.prio.length ≤ 17592186043904 := by
    obtain ⟨a, b, c, -, -, hb, -⟩ := hv
    obtain ⟨ao, cap, -, h, -⟩ := hb
    exact h
  have HPF := Lib.hid hpf
  obtain ⟨a, b, c, rfl, -⟩ := hv
  clear hpf
  obtain ⟨tp, htp⟩ : ∃ b, t.top = b := ⟨_, rfl⟩
  have HTP := Lib.hid htp
  clear ht hp
  unfold tc
  rw [htp]
  clear htp
  cases tp
  · have e0 : #[.bool false, .int .i64 t.a, .int .i64 t.b, .int .i64 t.c, .int .i64 t.d] = tc t := by unfold tc; rw [HTP.out]
    have E0 := Lib.hid e0
    clear e0
    go_enter Try.func18, Try.ntmps18
    go_wp2_with fail
    rw [show #[.bool false, .int .i64 0, .int .i64 0, .int .i64 0, .int .i64 0] = tc .zero from rfl]
    try rw [E0.out]
    have bx0 : Box ((((w.alloc (.cells #[a, b, c] 33)).alloc (.cells (tc t) 24)).alloc (.cells (tc .zero) 24)).alloc (.cells (tc .zero) 24)) (w.heap.size) 33 #[a, b, c] := Box.alloc (Box.alloc (Box.alloc (Box.new w 33 #[a, b, c]) (.cells (tc t) 24)) (.cells (tc .zero) 24)) (.cells (tc .zero) 24)
    have bx1 : Box ((((w.alloc (.cells #[a, b, c] 33)).alloc (.cells (tc t) 24)).alloc (.cells (tc .zero) 24)).alloc (.cells (tc .zero) 24)) (w.heap.size + 1) 24 (tc t) := by
      have := Box.alloc (Box.alloc (Box.new (w.alloc (.cells #[a, b, c] 33)) 24 (tc t)) (.cells (tc .zero) 24)) (.cells (tc .zero) 24)
      simpa using this
    have bx2 : Box ((((w.alloc (.cells #[a, b, c] 33)).alloc (.cells (tc t) 24)).alloc (.cells (tc .zero) 24)).alloc (.cells (tc .zero) 24)) (w.heap.size + 1 + 1) 24 (tc .zero) := by
      have := Box.alloc (Box.new ((w.alloc (.cells #[a, b, c] 33)).alloc (.cells (tc t) 24)) 24 (tc .zero)) (.cells (tc .zero) 24)
      simpa using this
    have bx3 : Box ((((w.alloc (.cells #[a, b, c] 33)).alloc (.cells (tc t) 24)).alloc (.cells (tc .zero) 24)).alloc (.cells (tc .zero) 24)) (w.heap.size + 1 + 1 + 1) 24 (tc .zero) := by
      have := Box.new (((w.alloc (.cells #[a, b, c] 33)).alloc (.cells (tc t) 24)).alloc (.cells (tc .zero) 24)) 24 (tc .zero)
      simpa using this
    have hbq : Below w.heap.size w ((((w.alloc (.cells #[a, b, c] 33)).alloc (.cells (tc t) 24)).alloc (.cells (tc .zero) 24)).alloc (.cells (tc .zero) 24)) := ((((Below.refl _ w).alloc (Nat.le_refl _) _).alloc (by simp) _).alloc (by simp; omega) _).alloc (by simp; omega) _
    have lt0 : w.heap.size < w.heap.size + 1 := Nat.lt_succ_self _
    have lt1 : w.heap.size + 1 < w.heap.size + 1 + 1 := Nat.lt_succ_self _
    have lt2 : w.heap.size + 1 + 1 < w.heap.size + 1 + 1 + 1 := Nat.lt_succ_self _
    have hle0 : w.heap.size ≤ w.heap.size := Nat.le_refl _
    generalize ((((w.alloc (.cells #[a, b, c] 33)).alloc (.cells (tc t) 24)).alloc (.cells (tc .zero) 24)).alloc (.cells (tc .zero) 24)) = w0 at bx0 bx1 bx2 bx3 hbq  ⊢
    have BQg := Lib.hid bx0
    have BQt := Lib.hid bx1
    have BQr := Lib.hid bx2
    have BQo := Lib.hid bx3
    have W := Lib.hid hbq
    have LTgt := Lib.hid lt0
    have LTtr := Lib.hid lt1
    have LTro := Lib.hid lt2
    have LEg := Lib.hid hle0
    clear hbq hle0 bx0 bx1 bx2 bx3 lt0 lt1 lt2
    generalize w.heap.size + 1 + 1 + 1 = qo at BQo LTro ⊢
    generalize w.heap.size + 1 + 1 = qr at BQr LTro LTtr ⊢
    generalize w.heap.size + 1 = qt at BQt LTtr LTgt ⊢
    obtain ⟨qg, hqg⟩ : ∃ qg, w.heap.size = qg := ⟨_, rfl⟩
    rw [hqg] at BQg LTgt ⊢
    have LEg : Hid (w.heap.size ≤ qg) := Lib.hid (by omega)
    clear hqg
    have LTO := Lib.hid (show qg < qo ∧ qt < qo ∧ qr < qo ∧ w.heap.size ≤ qr by have h1 := LTgt.out; have h2 := LTtr.out; have h3 := LTro.out; have h4 := LEg.out; omega)
    have LEr := Lib.hid LTO.out.2.2.2
    clear LTgt LTtr LTro
    go_loopw [8] (fun i wr => ∃ k : Nat, k ≤ 4 ∧ i = .int .i64 (k : Int) ∧ Box wr qg 33 #[a, b, c] ∧ Box wr qt 24 (tc t) ∧ Box wr qr 24 (tc .zero) ∧ Box wr qo 24 (tc (lz p t k)) ∧ Below w.heap.size w wr) (fun i _ => (4 - intOf i).toNat)
    case atStart => exact ⟨0, by omega, rfl, BQg.out, BQt.out, BQr.out, by have e : lz p t 0 = .zero := (by simp [lz, P.Tup.zero]); rw [e]; exact BQo.out, W.out⟩
    case round =>
      obtain ⟨k, hk, rfl, b1, b3, b4, b2, hb⟩ := hrel
      replace BQg := Lib.hid b1
      replace BQt := Lib.hid b3
      replace BQr := Lib.hid b4
      replace BQo := Lib.hid b2
      replace W := Lib.hid hb
      clear b1 b2 b3 b4 hb
      have hk0 : (0 : Int) ≤ (k : Int) := Int.natCast_nonneg _
      have hp' := HP.out
      by_cases hk4n : k < 4
      · have fk : decide ((k : Int) < 4) = true := decide_eq_true (by omega)
        have hk4 : (k : Int) < 4 := by omega
        obtain ⟨o', ho'⟩ : ∃ o', lz p t k = o' := ⟨_, rfl⟩
        rw [ho'] at BQo
        by_cases hp1 : p ≤ 2 * (k : Int) + 1
        · have fp : decide (p ≤ 2 * (k : Int) + 1) = true := decide_eq_true hp1
          have hz := lz_take (t := t) hk4n hp1
          rw [ho'] at hz
          have HZ := Lib.hid hz
          have c0 := BQo.out.counter k hk4n
          have f0 : wr.frozen? ⟨qo, 1 + k, none⟩ = false := BQo.out.frozen (1 + k)
          have c1 := BQt.out.counter k hk4n
          clear hz ho'
          go_wp2_with fail
          clear c0 f0 c1
          have b2 := BQo.out.set (1 + k) (.int .i64 (ct t k))
          rw [tc_set o' k hk4n (ct t k)] at b2
          have b1 : Box (wr.setCell ⟨qo, 1 + k, none⟩ (.int .i64 (ct t k))) qg 33 #[a, b, c] := BQg.out.far (by have := LTO.out; simp only; omega) _
          have b3 : Box (wr.setCell ⟨qo, 1 + k, none⟩ (.int .i64 (ct t k))) qt 24 (tc t) := BQt.out.far (by have := LTO.out; simp only; omega) _
          have b4 : Box (wr.setCell ⟨qo, 1 + k, none⟩ (.int .i64 (ct t k))) qr 24 (tc .zero) := BQr.out.far (by have := LTO.out; simp only; omega) _
          have hb := W.out.setCell (p := ⟨qo, 1 + k, none⟩) (by have := LTO.out; have := LEg.out; simp only; omega) (.int .i64 (ct t k))
          generalize wr.setCell ⟨qo, 1 + k, none⟩ (.int .i64 (ct t k)) = w7 at b1 b2 b3 b4 hb ⊢
          rw [HZ.out] at b2
          go_roundw
          case rel => exact ⟨k + 1, by omega, by first | rfl | go_num, b1, b3, b4, b2, hb⟩
          case measure => simp [intOf]; omega
        · have fp : decide (p ≤ 2 * (k : Int) + 1) = false := decide_eq_false hp1
          have hz := lz_pass (t := t) hk4n hp1
          rw [ho'] at hz
          have HZ := Lib.hid hz
          clear hz ho'
          go_wp2_with fail
          go_roundw
          case rel => exact ⟨k + 1, by omega, by first | rfl | go_num, BQg.out, BQt.out, BQr.out, by rw [← HZ.out]; exact BQo.out, W.out⟩
          case measure => simp [intOf]; omega
      · have fk : decide ((k : Int) < 4) = false := decide_eq_false (by omega)
        have hk : k = 4 := by omega
        subst hk
        by_cases hod : p % 2 = 1
        · have fe : (bits .and .i64 p 1 == 0) = false := by rw [and_even_eq]; exact decide_eq_false (by omega)
          have HU := Lib.hid (lz_odd (n := g.tups) HTP.out hod)
          have hl0 : ∀ i, i < 4 → -9223372036854775808 ≤ ct (lz p t 4) i := fun i hi => by
            have h1 := HTB.out i hi
            match i, hi with
            | 0, _ | 1, _ | 2, _ | 3, _ => simp only [lz, ct] at h1 ⊢; split <;> omega
          have HLZ := Lib.hid hl0
          clear hl0
          go_wp2_with fail
          go_loopw [9] (fun i wr => ∃ (j : Nat) (o' : P.Tup), j ≤ 4 ∧ i = .int .i64 ((4 : Int) - (j : Int)) ∧ P.Tup.up g.tups p t = upr g.tups p j o' ∧ (∀ i, i < 4 → -9223372036854775808 ≤ ct o' i) ∧ (∀ i, 4 - j ≤ i → i < 4 → 2 * (i : Int) + 1 < p → ct o' i = 0) ∧ Box wr qg 33 #[a, b, c] ∧ Box wr qt 24 (tc t) ∧ Box wr qo 24 (tc o') ∧ Box wr qr 24 (tc .zero) ∧ Below w.heap.size w wr) (fun i _ => (4 - intOf i).toNat)
          case atStart => exact ⟨4, lz p t 4, Nat.le_refl _, rfl, HU.out, HLZ.out, fun i _ h2 h3 => lz_low p t i h2 h3, BQg.out, BQt.out, BQo.out, BQr.out, W.out⟩
          case round =>
            obtain ⟨j, o', hj, rfl, he, hl, hz, b1, b3, b2, b4, hb⟩ := hrel
            have HE := Lib.hid he
            have HL := Lib.hid hl
            have HZ := Lib.hid hz
            replace BQg := Lib.hid b1
            replace BQt := Lib.hid b3
            replace BQo := Lib.hid b2
            replace BQr := Lib.hid b4
            replace W := Lib.hid hb
            clear he hl hz b1 b2 b3 b4 hb hk0 fk fe
            cases j with
            | zero =>
              have e0 : (4 : Int) - ((0 : Nat) : Int) = 4 := rfl
              rw [e0]
              clear e0
              have HF := Lib.hid (show P.Tup.up g.tups p t = .over by rw [HE.out, upr, if_pos hod])
              have hbb := BQr.out
              have rc0 : wr.cell? ⟨qr, 0, none⟩ = some (.bool false) := hbb.cell 0 _ rfl
              have rc1 : wr.cell? ⟨qr, 1, none⟩ = some (.int .i64 0) := hbb.cell 1 _ rfl
              have rc2 : wr.cell? ⟨qr, 2, none⟩ = some (.int .i64 0) := hbb.cell 2 _ rfl
              have rc3 : wr.cell? ⟨qr, 3, none⟩ = some (.int .i64 0) := hbb.cell 3 _ rfl
              have rc4 : wr.cell? ⟨qr, 4, none⟩ = some (.int .i64 0) := hbb.cell 4 _ rfl
              have rf0 : wr.frozen? ⟨qr, 0, none⟩ = false := hbb.frozen 0
              have rf1 : wr.frozen? ⟨qr, 1, none⟩ = false := hbb.frozen 1
              have rf2 : wr.frozen? ⟨qr, 2, none⟩ = false := hbb.frozen 2
              have rf3 : wr.frozen? ⟨qr, 3, none⟩ = false := hbb.frozen 3
              have rf4 : wr.frozen? ⟨qr, 4, none⟩ = false := hbb.frozen 4
              clear hbb
              go_wp2_with fail
              have bz : Box (((((wr.setCell ⟨qr, 0, none⟩ (.bool true)).setCell ⟨qr, 1, none⟩ (.int .i64 0)).setCell ⟨qr, 2, none⟩ (.int .i64 0)).setCell ⟨qr, 3, none⟩ (.int .i64 0)).setCell ⟨qr, 4, none⟩ (.int .i64 0)) qr 24 (tc .over) := BQr.out.stT .over
              have hbz : Below w.heap.size w (((((wr.setCell ⟨qr, 0, none⟩ (.bool true)).setCell ⟨qr, 1, none⟩ (.int .i64 0)).setCell ⟨qr, 2, none⟩ (.int .i64 0)).setCell ⟨qr, 3, none⟩ (.int .i64 0)).setCell ⟨qr, 4, none⟩ (.int .i64 0)) := below_stT W.out LEr.out .over
              generalize (((((wr.setCell ⟨qr, 0, none⟩ (.bool true)).setCell ⟨qr, 1, none⟩ (.int .i64 0)).setCell ⟨qr, 2, none⟩ (.int .i64 0)).setCell ⟨qr, 3, none⟩ (.int .i64 0)).setCell ⟨qr, 4, none⟩ (.int .i64 0)) = wz at bz hbz ⊢
              have zc0 : wz.cell? ⟨qr, 0, none⟩ = some (.bool true) := bz.cell 0 _ rfl
              have zc1 : wz.cell? ⟨qr, 1, none⟩ = some (.int .i64 0) := bz.cell 1 _ rfl
              have zc2 : wz.cell? ⟨qr, 2, none⟩ = some (.int .i64 0) := bz.cell 2 _ rfl
              have zc3 : wz.cell? ⟨qr, 3, none⟩ = some (.int .i64 0) := bz.cell 3 _ rfl
              have zc4 : wz.cell? ⟨qr, 4, none⟩ = some (.int .i64 0) := bz.cell 4 _ rfl
              refine bodyPost_ret (v := .agg (tc .over)) (by simp [results, Try.results18, go_sem, zc0, zc1, zc2, zc3, zc4, tc, P.Tup.over]) rfl ⟨by rw [HF.out]; rfl, hbz⟩
            | succ j =>
              obtain ⟨k, hk⟩ : ∃ k : Nat, 3 - j = k := ⟨_, rfl⟩
              have e0 : (4 : Int) - ((j + 1 : Nat) : Int) = (k : Int) := by omega
              rw [e0]
              clear e0
              have hk0 : (0 : Int) ≤ (k : Int) := Int.natCast_nonneg _
              have hk4 : (k : Int) < 4 := by omega
              have fk : decide ((k : Int) < 4) = true := decide_eq_true hk4
              have hk4n : k < 4 := by omega
              have HK := Lib.hid hk
              clear hk
              by_cases hp1 : 2 * (k : Int) + 1 < p
              · have fp : decide (2 * (k : Int) + 1 < p) = true := decide_eq_true hp1
                have HF := Lib.hid (show P.Tup.up g.tups p t = upr g.tups p j o' by
                  rw [HE.out, upr, HK.out, if_pos hp1, cset_zero hk4n (HZ.out k (by have := HK.out; omega) hk4n hp1)])
                go_wp2_with fail
                go_roundw
                case rel => exact ⟨j, o', by omega, by have := HK.out; first | rfl | (congr 1; omega), HF.out, HL.out, fun i h1 h2 h3 => HZ.out i (by omega) h2 h3, BQg.out, BQt.out, BQo.out, BQr.out, W.out⟩
                case measure => have := HK.out; simp [intOf]; omega
              · have fp : decide (2 * (k : Int) + 1 < p) = false := decide_eq_false hp1
                have htc := tups_ct g k hk4n
                have hcnt : g.prio.count (2 * (k : Int) + 1) ≤ 17592186043904 := Nat.le_trans List.count_le_length HPF.out
                have hlo := HL.out k hk4n
                obtain ⟨x, hx⟩ : ∃ x, ct o' k = x := ⟨_, rfl⟩
                obtain ⟨y, hy⟩ : ∃ y, ((g.prio.count (2 * (k : Int) + 1) : Nat) : Int) = y := ⟨_, rfl⟩
                rw [hy] at htc
                have hyb : y ≤ 17592186043904 := by omega
                rw [hx] at hlo
                have HX := Lib.hid hx
                have HY := Lib.hid hy
                have HTC := Lib.hid htc
                have hod : ¬ p % 2 ≠ 1 := fun h => h hod
                clear hx hy htc hcnt
                go_wp2_with fail
                refine Rt.wp_region_tail 1 (fun idx => match idx with | 0 => (fun v _ _ => v = (.int .i64 (k : Int))) | 1 => (fun v _ _ => v = (.pointer (some ⟨qo, 1, none⟩))) | 2 => (fun v _ _ => v = (.pointer (some ⟨qo, 1 + k, none⟩))) | 3 => (fun v _ _ => v = (.int .i64 x)) | 4 => (fun v _ _ => v = (.agg #[a, b, c])) | 5 => (fun v _ _ => v = (.int .i64 (k : Int))) | 6 => (fun v _ _ => v = (.int .i64 (2 * (k : Int)))) | 7 => (fun v _ _ => v = (.int .i64 (2 * (k : Int) + 1))) | 8 => (fun v _ _ => v = (.int .i64 y)) | _ => fun _ _ _ => True) (fun _ _ _ _ => True) (Rk.allK) 99 (by kernel_rfl) (by rfl) (by kernel_rfl) (by rfl) ?_ ?_ ?_ ?_
                · refine ⟨?_, ?_, ?_, ?_, ?_, ?_, ?_, ?_, ?_, trivial⟩
                  · intro A w' K vals h hn hT hgk hK0
                    have r0 : A.tmps[9]?.getD undef = .int .i64 (k : Int) := Rg.slot h.1
                    clear h hn hT hgk
                    simp [Oper.wp, execOp, go_sem, r0]
                    exact hK0 _ _ (Rk.Keeps.refl _ _) rfl trivial
                  · intro A w' K vals h hn hT hgk hK0
                    have r0 : A.tmps[7]?.getD undef = .pointer (some ⟨qo, 0, none⟩) := Rg.slot h.1
                    clear h hn hT hgk
                    simp [Oper.wp, execOp, go_sem, r0]
                    exact hK0 _ _ (Rk.Keeps.refl _ _) rfl trivial
                  · intro A w' K vals h hn hT hgk hK0
                    have r0 : A.tmps[44]?.getD undef = vals 1 := Rg.slot h.1
                    have s0 : vals 1 = (.pointer (some ⟨qo, 1, none⟩)) := hn.1
                    have r1 : A.tmps[43]?.getD undef = vals 0 := Rg.slot h.2.1
                    have s1 : vals 0 = (.int .i64 (k : Int)) := hn.2.1
                    clear h hn hT hgk
                    simp [Oper.wp, execOp, go_sem, r0, r1, s0, s1, hk4, hk0]
                    exact hK0 _ _ (Rk.Keeps.refl _ _) rfl trivial
                  · intro A w' K vals h hn hT hgk hK0
                    have r0 : A.tmps[45]?.getD undef = vals 2 := Rg.slot (h.1)
                    have r1 : vals 2 = (.pointer (some ⟨qo, 1 + k, none⟩)) := hn.1
                    have c : w'.cell? ⟨qo, 1 + k, none⟩ = some (.int .i64 x) := by rw [← HX.out]; exact (BQo.out.keep (Rk.grown_of hgk)).counter k hk4n
                    clear h hn hT hgk
                    simp [Oper.wp, execOp, go_sem, r0, r1, c]
                    exact hK0 _ _ (Rk.Keeps.refl _ _) rfl trivial
                  · intro A w' K vals h hn hT hgk hK0
                    have r0 : A.tmps[3]?.getD undef = .pointer (some ⟨qg, 0, none⟩) := Rg.slot h.1
                    have bs := BQg.out.keep (Rk.grown_of hgk)
                    have cc0 : w'.cell? ⟨qg, 0, none⟩ = some a := bs.cell 0 _ rfl
                    have cc1 : w'.cell? ⟨qg, 1, none⟩ = some b := bs.cell 1 _ rfl
                    have cc2 : w'.cell? ⟨qg, 2, none⟩ = some c := bs.cell 2 _ rfl
                    clear h hn hT hgk bs
                    simp [Oper.wp, execOp, go_sem, r0, cc0, cc1, cc2]
                    exact hK0 _ _ (Rk.Keeps.refl _ _) rfl trivial
                  · intro A w' K vals h hn hT hgk hK0
                    have r0 : A.tmps[9]?.getD undef = .int .i64 (k : Int) := Rg.slot h.1
                    clear h hn hT hgk
                    simp [Oper.wp, execOp, go_sem, r0]
                    exact hK0 _ _ (Rk.Keeps.refl _ _) rfl trivial
                  · intro A w' K vals h hn hT hgk hK0
                    have r0 : A.tmps[48]?.getD undef = vals 5 := Rg.slot h.2.1
                    have s0 : vals 5 = (.int .i64 (k : Int)) := hn.1
                    clear h hn hT hgk
                    have hwr : IntKind.i64.wrap (2 * (k : Int)) = 2 * (k : Int) := by rw [IntKind.wrap_i64]; omega
                    simp [Oper.wp, execOp, go_sem, r0, s0, hwr]
                    exact hK0 _ _ (Rk.Keeps.refl _ _) rfl trivial
                  · intro A w' K vals h hn hT hgk hK0
                    have r0 : A.tmps[49]?.getD undef = vals 6 := Rg.slot h.1
                    have s0 : vals 6 = (.int .i64 (2 * (k : Int))) := hn.1
                    clear h hn hT hgk
                    have hwr : IntKind.i64.wrap (2 * (k : Int) + 1) = 2 * (k : Int) + 1 := by rw [IntKind.wrap_i64]; omega
                    simp [Oper.wp, execOp, go_sem, r0, s0, hwr]
                    exact hK0 _ _ (Rk.Keeps.refl _ _) rfl trivial
                  · intro A w' K vals h hn hT hgk hK0
                    have r0 : A.tmps[47]?.getD undef = vals 4 := Rg.slot h.2.1
                    have r1 : A.tmps[50]?.getD undef = vals 7 := Rg.slot h.2.2.1
                    have s0 : vals 4 = (.agg #[a, b, c]) := hn.1
                    have s1 : vals 7 = (.int .i64 (2 * (k : Int) + 1)) := hn.2.1
                    have hg := Rk.grown_of hgk
                    clear h hn hT hgk
                    simp [Oper.wp, go_sem, r0, r1, s0, s1]
                    refine (many_any g (2 * (k : Int) + 1) _ w' (HV.out.on (W.out.trans ((below_of_grown hg).mono W.out.size)))).mono ?_
                    rintro e w'' ⟨rfl, hb⟩
                    exact hK0 _ _ (Rk.keep_of (grown_of_below hb _)) (congrArg (Value.int .i64) HY.out) trivial
                · refine ⟨?_, ?_, ?_, ?_, ?_, ?_, ?_, ?_, ?_, trivial⟩
                  · exact fun _ _ _ _ _ _ h => h
                  · exact fun _ _ _ _ _ _ h => h
                  · exact fun _ _ _ _ _ _ h => h
                  · exact fun _ _ _ _ _ _ h => h
                  · exact fun _ _ _ _ _ _ h => h
                  · exact fun _ _ _ _ _ _ h => h
                  · exact fun _ _ _ _ _ _ h => h
                  · exact fun _ _ _ _ _ _ h => h
                  · exact fun _ _ _ _ _ _ h => h
                · exact fun _ _ _ _ _ _ h => h
                · intro vals w6 G hgk hS hG
                  have s3 : vals 3 = .int .i64 x := hS.2.2.2.1
                  have s8 : vals 8 = .int .i64 y := hS.2.2.2.2.2.2.2.2.1
                  clear hS
                  have hb := below_of_grown (Rk.grown_of hgk)
                  replace BQg := Lib.hid (BQg.out.keep (grown_of_below hb none))
                  replace BQt := Lib.hid (BQt.out.keep (grown_of_below hb none))
                  replace BQo := Lib.hid (BQo.out.keep (grown_of_below hb none))
                  replace BQr := Lib.hid (BQr.out.keep (grown_of_below hb none))
                  replace W := Lib.hid (W.out.trans (hb.mono W.out.size))
                  clear hb hgk
                  refine hG ?_
                  clear hG
                  simp only [List.take, List.drop, List.length, Nat.reduceSub, Nat.reduceAdd, Rg.putAll, s3, s8]
                  clear s3 s8
                  have c0 := BQo.out.counter k hk4n
                  have f0 : w6.frozen? ⟨qo, 1 + k, none⟩ = false := BQo.out.frozen (1 + k)
                  rw [HX.out] at c0
                  by_cases hxy : x < y
                  · have fx : decide (x < y) = true := decide_eq_true hxy
                    have HF := Lib.hid (show P.Tup.up g.tups p t = cset o' k (x + 1) by
                      rw [HE.out, upr, HK.out, if_neg (by omega), if_neg hod, HX.out, HTC.out, if_pos hxy])
                    have hx63 : -9223372036854775808 ≤ x + 1 ∧ x + 1 ≤ 9223372036854775807 := by omega
                    have b2 := BQo.out.set (1 + k) (.int .i64 (x + 1))
                    rw [tc_set o' k hk4n (x + 1)] at b2
                    have b4 : Box (w6.setCell ⟨qo, 1 + k, none⟩ (.int .i64 (x + 1))) qr 24 (tc .zero) := BQr.out.far (by have := LTO.out; simp only; omega) _
                    have hb := W.out.setCell (p := ⟨qo, 1 + k, none⟩) (by have := LTO.out; have := LEg.out; simp only; omega) (.int .i64 (x + 1))
                    obtain ⟨z, hz⟩ : ∃ z, cset o' k (x + 1) = z := ⟨_, rfl⟩
                    rw [hz] at b2 HF
                    have B2 := Lib.hid b2
                    have B3 := Lib.hid b4
                    have W3 := Lib.hid hb
                    clear b2 b4 hb hz
                    have hbb := B2.out
                    have uc0 : (w6.setCell ⟨qo, 1 + k, none⟩ (.int .i64 (x + 1))).cell? ⟨qo, 0, none⟩ = some (.bool z.top) := hbb.cell 0 _ rfl
                    have uc1 : (w6.setCell ⟨qo, 1 + k, none⟩ (.int .i64 (x + 1))).cell? ⟨qo, 1, none⟩ = some (.int .i64 z.a) := hbb.cell 1 _ rfl
                    have uc2 : (w6.setCell ⟨qo, 1 + k, none⟩ (.int .i64 (x + 1))).cell? ⟨qo, 2, none⟩ = some (.int .i64 z.b) := hbb.cell 2 _ rfl
                    have uc3 : (w6.setCell ⟨qo, 1 + k, none⟩ (.int .i64 (x + 1))).cell? ⟨qo, 3, none⟩ = some (.int .i64 z.c) := hbb.cell 3 _ rfl
                    have uc4 : (w6.setCell ⟨qo, 1 + k, none⟩ (.int .i64 (x + 1))).cell? ⟨qo, 4, none⟩ = some (.int .i64 z.d) := hbb.cell 4 _ rfl
                    clear hbb
                    have hbb := B3.out
                    have rc0 : (w6.setCell ⟨qo, 1 + k, none⟩ (.int .i64 (x + 1))).cell? ⟨qr, 0, none⟩ = some (.bool false) := hbb.cell 0 _ rfl
                    have rc1 : (w6.setCell ⟨qo, 1 + k, none⟩ (.int .i64 (x + 1))).cell? ⟨qr, 1, none⟩ = some (.int .i64 0) := hbb.cell 1 _ rfl
                    have rc2 : (w6.setCell ⟨qo, 1 + k, none⟩ (.int .i64 (x + 1))).cell? ⟨qr, 2, none⟩ = some (.int .i64 0) := hbb.cell 2 _ rfl
                    have rc3 : (w6.setCell ⟨qo, 1 + k, none⟩ (.int .i64 (x + 1))).cell? ⟨qr, 3, none⟩ = some (.int .i64 0) := hbb.cell 3 _ rfl
                    have rc4 : (w6.setCell ⟨qo, 1 + k, none⟩ (.int .i64 (x + 1))).cell? ⟨qr, 4, none⟩ = some (.int .i64 0) := hbb.cell 4 _ rfl
                    have rf0 : (w6.setCell ⟨qo, 1 + k, none⟩ (.int .i64 (x + 1))).frozen? ⟨qr, 0, none⟩ = false := hbb.frozen 0
                    have rf1 : (w6.setCell ⟨qo, 1 + k, none⟩ (.int .i64 (x + 1))).frozen? ⟨qr, 1, none⟩ = false := hbb.frozen 1
                    have rf2 : (w6.setCell ⟨qo, 1 + k, none⟩ (.int .i64 (x + 1))).frozen? ⟨qr, 2, none⟩ = false := hbb.frozen 2
                    have rf3 : (w6.setCell ⟨qo, 1 + k, none⟩ (.int .i64 (x + 1))).frozen? ⟨qr, 3, none⟩ = false := hbb.frozen 3
                    have rf4 : (w6.setCell ⟨qo, 1 + k, none⟩ (.int .i64 (x + 1))).frozen? ⟨qr, 4, none⟩ = false := hbb.frozen 4
                    clear hbb
                    go_wp2_with fail
                    have bz : Box ((((((w6.setCell ⟨qo, 1 + k, none⟩ (.int .i64 (x + 1))).setCell ⟨qr, 0, none⟩ (.bool z.top)).setCell ⟨qr, 1, none⟩ (.int .i64 z.a)).setCell ⟨qr, 2, none⟩ (.int .i64 z.b)).setCell ⟨qr, 3, none⟩ (.int .i64 z.c)).setCell ⟨qr, 4, none⟩ (.int .i64 z.d)) qr 24 (tc z) := B3.out.stT z
                    have hbz : Below w.heap.size w ((((((w6.setCell ⟨qo, 1 + k, none⟩ (.int .i64 (x + 1))).setCell ⟨qr, 0, none⟩ (.bool z.top)).setCell ⟨qr, 1, none⟩ (.int .i64 z.a)).setCell ⟨qr, 2, none⟩ (.int .i64 z.b)).setCell ⟨qr, 3, none⟩ (.int .i64 z.c)).setCell ⟨qr, 4, none⟩ (.int .i64 z.d)) := below_stT W3.out LEr.out z
                    generalize ((((((w6.setCell ⟨qo, 1 + k, none⟩ (.int .i64 (x + 1))).setCell ⟨qr, 0, none⟩ (.bool z.top)).setCell ⟨qr, 1, none⟩ (.int .i64 z.a)).setCell ⟨qr, 2, none⟩ (.int .i64 z.b)).setCell ⟨qr, 3, none⟩ (.int .i64 z.c)).setCell ⟨qr, 4, none⟩ (.int .i64 z.d)) = wz at bz hbz ⊢
                    have zc0 : wz.cell? ⟨qr, 0, none⟩ = some (.bool z.top) := bz.cell 0 _ rfl
                    have zc1 : wz.cell? ⟨qr, 1, none⟩ = some (.int .i64 z.a) := bz.cell 1 _ rfl
                    have zc2 : wz.cell? ⟨qr, 2, none⟩ = some (.int .i64 z.b) := bz.cell 2 _ rfl
                    have zc3 : wz.cell? ⟨qr, 3, none⟩ = some (.int .i64 z.c) := bz.cell 3 _ rfl
                    have zc4 : wz.cell? ⟨qr, 4, none⟩ = some (.int .i64 z.d) := bz.cell 4 _ rfl
                    refine bodyPost_ret (v := .agg (tc z)) (by simp [results, Try.results18, go_sem, zc0, zc1, zc2, zc3, zc4, tc]) rfl ⟨by rw [HF.out]; rfl, hbz⟩
                  · have fx : decide (x < y) = false := decide_eq_false hxy
                    have HF := Lib.hid (show P.Tup.up g.tups p t = upr g.tups p j (cset o' k 0) by
                      rw [HE.out, upr, HK.out, if_neg (by omega), if_neg hod, HX.out, HTC.out, if_neg hxy])
                    go_wp2_with fail
                    clear c0 f0
                    have b2 := BQo.out.set (1 + k) (.int .i64 0)
                    rw [tc_set o' k hk4n 0] at b2
                    have b1 : Box (w6.setCell ⟨qo, 1 + k, none⟩ (.int .i64 0)) qg 33 #[a, b, c] := BQg.out.far (by have := LTO.out; simp only; omega) _
                    have b3 : Box (w6.setCell ⟨qo, 1 + k, none⟩ (.int .i64 0)) qt 24 (tc t) := BQt.out.far (by have := LTO.out; simp only; omega) _
                    have b4 : Box (w6.setCell ⟨qo, 1 + k, none⟩ (.int .i64 0)) qr 24 (tc .zero) := BQr.out.far (by have := LTO.out; simp only; omega) _
                    have hb := W.out.setCell (p := ⟨qo, 1 + k, none⟩) (by have := LTO.out; have := LEg.out; simp only; omega) (.int .i64 0)
                    generalize w6.setCell ⟨qo, 1 + k, none⟩ (.int .i64 0) = w7 at b1 b2 b3 b4 hb ⊢
                    go_roundw
                    case rel => exact ⟨j, by omega, by have := HK.out; omega, cset o' k 0, HF.out, low_cset HL.out k 0 (by omega), fun i h1 h2 h3 => by rw [ct_other hk4n h2 0 (by omega)]; exact HZ.out i (by omega) h2 h3, b1, b3, b2, b4, hb⟩
                    case measure => have := HK.out; simp [intOf]; omega
        · have fe : (bits .and .i64 p 1 == 0) = true := by rw [and_even_eq]; exact decide_eq_true (by omega)
          have HF := Lib.hid (lz_even (n := g.tups) HTP.out hod)
          obtain ⟨z, hz⟩ : ∃ z, lz p t 4 = z := ⟨_, rfl⟩
          rw [hz] at HF BQo
          clear hz
          have hbb := BQo.out
          have uc0 : wr.cell? ⟨qo, 0, none⟩ = some (.bool z.top) := hbb.cell 0 _ rfl
          have uc1 : wr.cell? ⟨qo, 1, none⟩ = some (.int .i64 z.a) := hbb.cell 1 _ rfl
          have uc2 : wr.cell? ⟨qo, 2, none⟩ = some (.int .i64 z.b) := hbb.cell 2 _ rfl
          have uc3 : wr.cell? ⟨qo, 3, none⟩ = some (.int .i64 z.c) := hbb.cell 3 _ rfl
          have uc4 : wr.cell? ⟨qo, 4, none⟩ = some (.int .i64 z.d) := hbb.cell 4 _ rfl
          clear hbb
          have hbb := BQr.out
          have rc0 : wr.cell? ⟨qr, 0, none⟩ = some (.bool false) := hbb.cell 0 _ rfl
          have rc1 : wr.cell? ⟨qr, 1, none⟩ = some (.int .i64 0) := hbb.cell 1 _ rfl
          have rc2 : wr.cell? ⟨qr, 2, none⟩ = some (.int .i64 0) := hbb.cell 2 _ rfl
          have rc3 : wr.cell? ⟨qr, 3, none⟩ = some (.int .i64 0) := hbb.cell 3 _ rfl
          have rc4 : wr.cell? ⟨qr, 4, none⟩ = some (.int .i64 0) := hbb.cell 4 _ rfl
          have rf0 : wr.frozen? ⟨qr, 0, none⟩ = false := hbb.frozen 0
          have rf1 : wr.frozen? ⟨qr, 1, none⟩ = false := hbb.frozen 1
          have rf2 : wr.frozen? ⟨qr, 2, none⟩ = false := hbb.frozen 2
          have rf3 : wr.frozen? ⟨qr, 3, none⟩ = false := hbb.frozen 3
          have rf4 : wr.frozen? ⟨qr, 4, none⟩ = false := hbb.frozen 4
          clear hbb
          go_wp2_with fail
          have bz : Box (((((wr.setCell ⟨qr, 0, none⟩ (.bool z.top)).setCell ⟨qr, 1, none⟩ (.int .i64 z.a)).setCell ⟨qr, 2, none⟩ (.int .i64 z.b)).setCell ⟨qr, 3, none⟩ (.int .i64 z.c)).setCell ⟨qr, 4, none⟩ (.int .i64 z.d)) qr 24 (tc z) := BQr.out.stT z
          have hbz : Below w.heap.size w (((((wr.setCell ⟨qr, 0, none⟩ (.bool z.top)).setCell ⟨qr, 1, none⟩ (.int .i64 z.a)).setCell ⟨qr, 2, none⟩ (.int .i64 z.b)).setCell ⟨qr, 3, none⟩ (.int .i64 z.c)).setCell ⟨qr, 4, none⟩ (.int .i64 z.d)) := below_stT W.out LEr.out z
          generalize (((((wr.setCell ⟨qr, 0, none⟩ (.bool z.top)).setCell ⟨qr, 1, none⟩ (.int .i64 z.a)).setCell ⟨qr, 2, none⟩ (.int .i64 z.b)).setCell ⟨qr, 3, none⟩ (.int .i64 z.c)).setCell ⟨qr, 4, none⟩ (.int .i64 z.d)) = wz at bz hbz ⊢
          have zc0 : wz.cell? ⟨qr, 0, none⟩ = some (.bool z.top) := bz.cell 0 _ rfl
          have zc1 : wz.cell? ⟨qr, 1, none⟩ = some (.int .i64 z.a) := bz.cell 1 _ rfl
          have zc2 : wz.cell? ⟨qr, 2, none⟩ = some (.int .i64 z.b) := bz.cell 2 _ rfl
          have zc3 : wz.cell? ⟨qr, 3, none⟩ = some (.int .i64 z.c) := bz.cell 3 _ rfl
          have zc4 : wz.cell? ⟨qr, 4, none⟩ = some (.int .i64 z.d) := bz.cell 4 _ rfl
          refine bodyPost_ret (v := .agg (tc z)) (by simp [results, Try.results18, go_sem, zc0, zc1, zc2, zc3, zc4, tc]) rfl ⟨by rw [HF.out]; rfl, hbz⟩
  · have HF := Lib.hid (show P.Tup.up g.tups p t = .over by unfold P.Tup.up; rw [if_pos HTP.out])
    go_enter Try.func18, Try.ntmps18
    go_wp2_with fail
    refine bodyPost_ret (v := .agg #[.bool true, .int .i64 0, .int .i64 0, .int .i64 0, .int .i64 0]) (by simp [results, Try.results18, go_sem]) rfl ⟨by rw [HF.out]; rfl, ?_⟩
    exact (((Below.refl _ w).alloc (Nat.le_refl _) _).alloc (by simp) _).alloc (by simp; omega) _
end W
end Go.Proofs.Yteeaojciobmcaaa
end
