/- What a move makes of a tuple: the program's. -/
import Derived.Test.YteeaojciobmcaaaCmpi
import Derived.Deep.Cut
import Derived.Lib.Hide
import Derived.Deep.QuietTactic
import Derived.BigQuiet
namespace Go.Proofs.Yteeaojciobmcaaa
open Go.RowKit
namespace W

theorem and_odd (p : Int) : bits .and .i64 p 1 = p % 2 := by
  have h : (BitVec.ofInt 64 p &&& BitVec.ofInt 64 1).toNat = (p % 2).toNat := by
    rw [BitVec.toNat_and, BitVec.toNat_ofInt, BitVec.toNat_ofInt]
    have e : ((1 : Int) % ((2 ^ 64 : Nat) : Int)).toNat = 1 := by decide
    rw [e, Nat.and_one_is_mod]
    have : ((2 ^ 64 : Nat) : Int) = 18446744073709551616 := by decide
    rw [this]
    omega
  show IntKind.i64.wrap (((BitVec.ofInt 64 p &&& BitVec.ofInt 64 1).toNat : Nat) : Int) = p % 2
  rw [h]
  have h2 : (((p % 2).toNat : Nat) : Int) = p % 2 := by omega
  rw [h2]
  have := Int.emod_two_eq p
  rcases this with e | e <;> rw [e] <;> decide
theorem and_odd_eq (p : Int) : (bits .and .i64 p 1 == 1) = decide (p % 2 = 1) := by
  rw [and_odd]
  rfl
/-- A counter written. -/
def cset (t : P.Tup) (k : Nat) (x : Int) : P.Tup :=
  match k with
  | 0 => { t with a := x }
  | 1 => { t with b := x }
  | 2 => { t with c := x }
  | _ => { t with d := x }
/-- 'up' from a place on; the places left. -/
def upr (n : P.Tup) (p : Int) : Nat → P.Tup → P.Tup
  | 0, t => if p % 2 = 1 then .over else t
  | j + 1, t => if 2 * (3 - j : Nat) + 1 < p then upr n p j (cset t (3 - j) 0) else if p % 2 ≠ 1 then t else if ct t (3 - j) < ct n (3 - j) then cset t (3 - j) (ct t (3 - j) + 1) else upr n p j (cset t (3 - j) 0)
theorem upr4 (n t : P.Tup) (p : Int) (ht : t.top = false) : upr n p 4 t = P.Tup.up n p t := by
  unfold P.Tup.up
  rw [if_neg (by rw [ht]; simp)]
  simp only [upr, P.Tup.up0, P.Tup.up1, P.Tup.up2, P.Tup.up3, cset, ct, Nat.sub_self, Nat.reduceSub, Nat.sub_zero]
  by_cases hp : p % 2 = 1
  · simp [hp]
  · simp [hp]
/-- What the counters may be: cells. -/
def bc (t : P.Tup) : Array Value := #[.int .i64 t.a, .int .i64 t.b, .int .i64 t.c, .int .i64 t.d]
theorem Box.bcounter {w : World} {q : Nat} {ty : TypeId} {t : P.Tup} (h : Box w q ty (bc t)) (k : Nat) (hk : k < 4) : w.cell? ⟨q, k, none⟩ = some (.int .i64 (ct t k)) := by
  match k, hk with
  | 0, _ => exact h.cell 0 _ rfl
  | 1, _ => exact h.cell 1 _ rfl
  | 2, _ => exact h.cell 2 _ rfl
  | 3, _ => exact h.cell 3 _ rfl
theorem tc_set (t : P.Tup) (k : Nat) (hk : k < 4) (x : Int) : (tc t).setIfInBounds (1 + k) (.int .i64 x) = tc (cset t k x) := by
  match k, hk with
  | 0, _ => rfl
  | 1, _ => rfl
  | 2, _ => rfl
  | 3, _ => rfl
theorem tc_inj {s t : P.Tup} (h : tc s = tc t) : s = t := by
  obtain ⟨s0, s1, s2, s3, s4⟩ := s
  obtain ⟨t0, t1, t2, t3, t4⟩ := t
  unfold tc at h
  simp at h
  simp [h]
theorem low_cset {t : P.Tup} (h : ∀ k, k < 4 → -9223372036854775808 ≤ ct t k) (k : Nat) (x : Int) (hx : -9223372036854775808 ≤ x) : ∀ i, i < 4 → -9223372036854775808 ≤ ct (cset t k x) i := by
  have h0 := h 0 (by omega)
  have h1 := h 1 (by omega)
  have h2 := h 2 (by omega)
  have h3 := h 3 (by omega)
  simp only [ct] at h0 h1 h2 h3
  intro i hi
  unfold cset
  match i, hi with
  | 0, _ => split <;> simp only [ct] <;> assumption
  | 1, _ => split <;> simp only [ct] <;> assumption
  | 2, _ => split <;> simp only [ct] <;> assumption
  | 3, _ => split <;> simp only [ct] <;> assumption
/-- A tuple written over one. -/
theorem Box.stT {w : World} {q : Nat} {ty : TypeId} {z : P.Tup} (h : Box w q ty (tc z)) (t : P.Tup) : Box (((((w.setCell ⟨q, 0, none⟩ (.bool t.top)).setCell ⟨q, 1, none⟩ (.int .i64 t.a)).setCell ⟨q, 2, none⟩ (.int .i64 t.b)).setCell ⟨q, 3, none⟩ (.int .i64 t.c)).setCell ⟨q, 4, none⟩ (.int .i64 t.d)) q ty (tc t) := ((((h.set 0 _).set 1 _).set 2 _).set 3 _).set 4 _
theorem below_stT {B : Nat} {a w : World} (h : Below B a w) {q : Nat} (hq : B ≤ q) (t : P.Tup) : Below B a (((((w.setCell ⟨q, 0, none⟩ (.bool t.top)).setCell ⟨q, 1, none⟩ (.int .i64 t.a)).setCell ⟨q, 2, none⟩ (.int .i64 t.b)).setCell ⟨q, 3, none⟩ (.int .i64 t.c)).setCell ⟨q, 4, none⟩ (.int .i64 t.d)) := ((((h.setCell hq _).setCell hq _).setCell hq _).setCell hq _).setCell hq _
set_option maxRecDepth 100000 in
set_option maxHeartbeats 1000000 in
theorem up_any (n t : P.Tup) (p : Int) (w : World) (hp : -9223372036854775808 ≤ p ∧ p < 9223372036854775808) (ht : ∀ k, k < 4 → -9223372036854775808 ≤ ct t k) (hn : ∀ k, k < 4 → ct n k ≤ 17592186043904) : Calls Try.prog 38 #[.agg (bc n), .int .i64 p, .agg (tc t)] w fun e w' => e = .returned (.agg (tc (P.Tup.up n p t))) ∧ Below w.heap.size w w' := by
  obtain ⟨tt, ta, tb, tc_, td⟩ := t
  have HN := Lib.hid hn
  have HTB := Lib.hid ht
  have HP := Lib.hid hp
  clear hn ht hp
  obtain ⟨na, hna⟩ : ∃ x, n.a = x := ⟨_, rfl⟩
  obtain ⟨nb, hnb⟩ : ∃ x, n.b = x := ⟨_, rfl⟩
  obtain ⟨nc, hnc⟩ : ∃ x, n.c = x := ⟨_, rfl⟩
  obtain ⟨nd, hnd⟩ : ∃ x, n.d = x := ⟨_, rfl⟩
  have e1 : bc n = #[.int .i64 na, .int .i64 nb, .int .i64 nc, .int .i64 nd] := by rw [← hna, ← hnb, ← hnc, ← hnd]; rfl
  have E1 := Lib.hid e1
  cases tt
  · have e0 : tc ⟨false, ta, tb, tc_, td⟩ = #[.bool false, .int .i64 ta, .int .i64 tb, .int .i64 tc_, .int .i64 td] := rfl
    rw [e0, e1]
    obtain ⟨t, ht⟩ : ∃ t, P.Tup.mk false ta tb tc_ td = t := ⟨_, rfl⟩
    rw [ht] at e0 HTB ⊢
    have E0 := Lib.hid e0
    have HTT := Lib.hid (show t.top = false by rw [← ht])
    clear e0 e1 ht hna hnb hnc hnd
    go_enter Try.func38, Try.ntmps38
    go_wp2_with fail
    rw [and_odd_eq, ← E0.out, ← E1.out, show #[.bool false, .int .i64 0, .int .i64 0, .int .i64 0, .int .i64 0] = tc .zero from rfl]
    have bx0 : Box (((w.alloc (.cells (bc n) 22)).alloc (.cells (tc t) 26)).alloc (.cells (tc .zero) 26)) (w.heap.size) 22 (bc n) := Box.alloc (Box.alloc (Box.new w 22 (bc n)) (.cells (tc t) 26)) (.cells (tc .zero) 26)
    have bx1 : Box (((w.alloc (.cells (bc n) 22)).alloc (.cells (tc t) 26)).alloc (.cells (tc .zero) 26)) (w.heap.size + 1) 26 (tc t) := by
      have := Box.alloc (Box.new (w.alloc (.cells (bc n) 22)) 26 (tc t)) (.cells (tc .zero) 26)
      simpa using this
    have bx2 : Box (((w.alloc (.cells (bc n) 22)).alloc (.cells (tc t) 26)).alloc (.cells (tc .zero) 26)) (w.heap.size + 1 + 1) 26 (tc .zero) := by
      have := Box.new ((w.alloc (.cells (bc n) 22)).alloc (.cells (tc t) 26)) 26 (tc .zero)
      simpa using this
    have hbq : Below w.heap.size w (((w.alloc (.cells (bc n) 22)).alloc (.cells (tc t) 26)).alloc (.cells (tc .zero) 26)) := (((Below.refl _ w).alloc (Nat.le_refl _) _).alloc (by simp) _).alloc (by simp; omega) _
    have lt0 : w.heap.size < w.heap.size + 1 := Nat.lt_succ_self _
    have lt1 : w.heap.size + 1 < w.heap.size + 1 + 1 := Nat.lt_succ_self _
    have hle0 : w.heap.size ≤ w.heap.size := Nat.le_refl _
    generalize (((w.alloc (.cells (bc n) 22)).alloc (.cells (tc t) 26)).alloc (.cells (tc .zero) 26)) = w0 at bx0 bx1 bx2 hbq  ⊢
    have BQn := Lib.hid bx0
    have BQt := Lib.hid bx1
    have BQr := Lib.hid bx2
    have W := Lib.hid hbq
    have LTnt := Lib.hid lt0
    have LTtr := Lib.hid lt1
    have LEn := Lib.hid hle0
    clear hbq hle0 bx0 bx1 bx2 lt0 lt1
    generalize w.heap.size + 1 + 1 = qr at BQr LTtr ⊢
    generalize w.heap.size + 1 = qt at BQt LTtr LTnt ⊢
    obtain ⟨qn, hqn⟩ : ∃ qn, w.heap.size = qn := ⟨_, rfl⟩
    rw [hqn] at BQn LTnt ⊢
    have LEn : Hid (w.heap.size ≤ qn) := Lib.hid (by omega)
    clear hqn
    have LTnr := Lib.hid (Nat.lt_trans LTnt.out LTtr.out)
    have LEr := Lib.hid (Nat.le_trans LEn.out (Nat.le_of_lt LTnr.out))
    have LEt := Lib.hid (Nat.le_trans LEn.out (Nat.le_of_lt LTnt.out))
    obtain ⟨odd, hodd⟩ : ∃ b, decide (p % 2 = 1) = b := ⟨_, rfl⟩
    have HODD := Lib.hid hodd
    rw [hodd]
    clear hodd
    go_loopw [15] (fun i wr => ∃ (j : Nat) (t' : P.Tup), j ≤ 4 ∧ i = .int .i64 ((4 : Int) - (j : Int)) ∧ P.Tup.up n p t = upr n p j t' ∧ (∀ k, k < 4 → -9223372036854775808 ≤ ct t' k) ∧ Box wr qn 22 (bc n) ∧ Box wr qt 26 (tc t') ∧ Box wr qr 26 (tc .zero) ∧ Below w.heap.size w wr) (fun i _ => (4 - intOf i).toNat)
    case atStart => exact ⟨4, t, Nat.le_refl _, rfl, (upr4 n t p HTT.out).symm, HTB.out, BQn.out, BQt.out, BQr.out, W.out⟩
    case round =>
      obtain ⟨j, t', hj, rfl, he, hl, b1, b2, b3, hb⟩ := hrel
      have HE := Lib.hid he
      have HL := Lib.hid hl
      replace BQn := Lib.hid b1
      replace BQt := Lib.hid b2
      replace BQr := Lib.hid b3
      replace W := Lib.hid hb
      clear he hl b1 b2 b3 hb
      cases j with
      | zero =>
        have e0 : (4 : Int) - ((0 : Nat) : Int) = 4 := rfl
        rw [e0]
        clear e0
        cases odd
        · have HF := Lib.hid (show P.Tup.up n p t = t' by rw [HE.out, upr, if_neg (of_decide_eq_false HODD.out)])
          have hbb := BQt.out
          have tc0 : wr.cell? ⟨qt, 0, none⟩ = some (.bool t'.top) := hbb.cell 0 _ rfl
          have tc1 : wr.cell? ⟨qt, 1, none⟩ = some (.int .i64 t'.a) := hbb.cell 1 _ rfl
          have tc2 : wr.cell? ⟨qt, 2, none⟩ = some (.int .i64 t'.b) := hbb.cell 2 _ rfl
          have tc3 : wr.cell? ⟨qt, 3, none⟩ = some (.int .i64 t'.c) := hbb.cell 3 _ rfl
          have tc4 : wr.cell? ⟨qt, 4, none⟩ = some (.int .i64 t'.d) := hbb.cell 4 _ rfl
          clear hbb
          have hbb := BQr.out
          have rc0 : wr.cell? ⟨qr, 0, none⟩ = some (.bool false) := hbb.cell 0 _ rfl
          have rc1 : wr.cell? ⟨qr, 1, none⟩ = some (.int .i64 0) := hbb.cell 1 _ rfl
          have rc2 : wr.cell? ⟨qr, 2, none⟩ = some (.int .i64 0) := hbb.cell 2 _ rfl
          have rc3 : wr.cell? ⟨qr, 3, none⟩ = some (.int .i64 0) := hbb.cell 3 _ rfl
          have rc4 : wr.cell? ⟨qr, 4, none⟩ = some (.int .i64 0) := hbb.cell 4 _ rfl
          have rf0 : wr.frozen? ⟨qr, 0, none⟩ = false := hbb.frozen 0
          have rf1 : wr.frozen? ⟨qr, 1, none⟩ = false := hbb.frozen 1
          have rf2 : wr.frozen? ⟨qr, 2, none⟩ = false := hbb.frozen 2
          have rf3 : wr.frozen? ⟨qr, 3, none⟩ = false := hbb.frozen 3
          have rf4 : wr.frozen? ⟨qr, 4, none⟩ = false := hbb.frozen 4
          clear hbb
          go_wp2_with fail
          have bz : Box (((((wr.setCell ⟨qr, 0, none⟩ (.bool t'.top)).setCell ⟨qr, 1, none⟩ (.int .i64 t'.a)).setCell ⟨qr, 2, none⟩ (.int .i64 t'.b)).setCell ⟨qr, 3, none⟩ (.int .i64 t'.c)).setCell ⟨qr, 4, none⟩ (.int .i64 t'.d)) qr 26 (tc t') := BQr.out.stT t'
          have hbz : Below w.heap.size w (((((wr.setCell ⟨qr, 0, none⟩ (.bool t'.top)).setCell ⟨qr, 1, none⟩ (.int .i64 t'.a)).setCell ⟨qr, 2, none⟩ (.int .i64 t'.b)).setCell ⟨qr, 3, none⟩ (.int .i64 t'.c)).setCell ⟨qr, 4, none⟩ (.int .i64 t'.d)) := below_stT W.out LEr.out t'
          generalize (((((wr.setCell ⟨qr, 0, none⟩ (.bool t'.top)).setCell ⟨qr, 1, none⟩ (.int .i64 t'.a)).setCell ⟨qr, 2, none⟩ (.int .i64 t'.b)).setCell ⟨qr, 3, none⟩ (.int .i64 t'.c)).setCell ⟨qr, 4, none⟩ (.int .i64 t'.d)) = wz at bz hbz ⊢
          have zc0 : wz.cell? ⟨qr, 0, none⟩ = some (.bool t'.top) := bz.cell 0 _ rfl
          have zc1 : wz.cell? ⟨qr, 1, none⟩ = some (.int .i64 t'.a) := bz.cell 1 _ rfl
          have zc2 : wz.cell? ⟨qr, 2, none⟩ = some (.int .i64 t'.b) := bz.cell 2 _ rfl
          have zc3 : wz.cell? ⟨qr, 3, none⟩ = some (.int .i64 t'.c) := bz.cell 3 _ rfl
          have zc4 : wz.cell? ⟨qr, 4, none⟩ = some (.int .i64 t'.d) := bz.cell 4 _ rfl
          refine bodyPost_ret (v := .agg (tc t')) (by simp [results, Try.results38, go_sem, zc0, zc1, zc2, zc3, zc4, tc]) rfl ⟨by rw [HF.out], hbz⟩
        · have HF := Lib.hid (show P.Tup.up n p t = .over by rw [HE.out, upr, if_pos (of_decide_eq_true HODD.out)])
          have hbb := BQr.out
          have rc0 : wr.cell? ⟨qr, 0, none⟩ = some (.bool false) := hbb.cell 0 _ rfl
          have rc1 : wr.cell? ⟨qr, 1, none⟩ = some (.int .i64 0) := hbb.cell 1 _ rfl
          have rc2 : wr.cell? ⟨qr, 2, none⟩ = some (.int .i64 0) := hbb.cell 2 _ rfl
          have rc3 : wr.cell? ⟨qr, 3, none⟩ = some (.int .i64 0) := hbb.cell 3 _ rfl
          have rc4 : wr.cell? ⟨qr, 4, none⟩ = some (.int .i64 0) := hbb.cell 4 _ rfl
          have rf0 : wr.frozen? ⟨qr, 0, none⟩ = false := hbb.frozen 0
          have rf1 : wr.frozen? ⟨qr, 1, none⟩ = false := hbb.frozen 1
          have rf2 : wr.frozen? ⟨qr, 2, none⟩ = false := hbb.frozen 2
          have rf3 : wr.frozen? ⟨qr, 3, none⟩ = false := hbb.frozen 3
          have rf4 : wr.frozen? ⟨qr, 4, none⟩ = false := hbb.frozen 4
          clear hbb
          go_wp2_with fail
          have bz : Box (((((wr.setCell ⟨qr, 0, none⟩ (.bool true)).setCell ⟨qr, 1, none⟩ (.int .i64 0)).setCell ⟨qr, 2, none⟩ (.int .i64 0)).setCell ⟨qr, 3, none⟩ (.int .i64 0)).setCell ⟨qr, 4, none⟩ (.int .i64 0)) qr 26 (tc .over) := BQr.out.stT .over
          have hbz : Below w.heap.size w (((((wr.setCell ⟨qr, 0, none⟩ (.bool true)).setCell ⟨qr, 1, none⟩ (.int .i64 0)).setCell ⟨qr, 2, none⟩ (.int .i64 0)).setCell ⟨qr, 3, none⟩ (.int .i64 0)).setCell ⟨qr, 4, none⟩ (.int .i64 0)) := below_stT W.out LEr.out .over
          generalize (((((wr.setCell ⟨qr, 0, none⟩ (.bool true)).setCell ⟨qr, 1, none⟩ (.int .i64 0)).setCell ⟨qr, 2, none⟩ (.int .i64 0)).setCell ⟨qr, 3, none⟩ (.int .i64 0)).setCell ⟨qr, 4, none⟩ (.int .i64 0)) = wz at bz hbz ⊢
          have zc0 : wz.cell? ⟨qr, 0, none⟩ = some (.bool true) := bz.cell 0 _ rfl
          have zc1 : wz.cell? ⟨qr, 1, none⟩ = some (.int .i64 0) := bz.cell 1 _ rfl
          have zc2 : wz.cell? ⟨qr, 2, none⟩ = some (.int .i64 0) := bz.cell 2 _ rfl
          have zc3 : wz.cell? ⟨qr, 3, none⟩ = some (.int .i64 0) := bz.cell 3 _ rfl
          have zc4 : wz.cell? ⟨qr, 4, none⟩ = some (.int .i64 0) := bz.cell 4 _ rfl
          refine bodyPost_ret (v := .agg (tc .over)) (by simp [results, Try.results38, go_sem, zc0, zc1, zc2, zc3, zc4, tc, P.Tup.over]) rfl ⟨by rw [HF.out], hbz⟩
      | succ j =>
        obtain ⟨k, hk⟩ : ∃ k : Nat, 3 - j = k := ⟨_, rfl⟩
        have e0 : (4 : Int) - ((j + 1 : Nat) : Int) = (k : Int) := by omega
        rw [e0]
        clear e0
        have hk0 : (0 : Int) ≤ (k : Int) := Int.natCast_nonneg _
        have hk4 : (k : Int) < 4 := by omega
        have fk : decide ((k : Int) < 4) = true := decide_eq_true hk4
        have HK := Lib.hid hk
        clear hk
        go_wp2_with fail
        refine (counted_any (k : Int) wr hk0 (by omega)).mono ?_
        rintro e w1 ⟨rfl, rfl⟩
        have hk4n : k < 4 := by omega
        have c0 := BQt.out.counter k hk4n
        have f0 : w1.frozen? ⟨qt, 1 + k, none⟩ = false := BQt.out.frozen (1 + k)
        by_cases hp1 : 2 * (k : Int) + 1 < p
        · have fp : decide (2 * (k : Int) + 1 < p) = true := decide_eq_true hp1
          have HF := Lib.hid (show P.Tup.up n p t = upr n p j (cset t' k 0) by rw [HE.out, upr, HK.out, if_pos (by omega)])
          go_wp2_with fail
          clear c0 f0
          have b2 := BQt.out.set (1 + k) (.int .i64 0)
          rw [tc_set t' k hk4n 0] at b2
          have b1 : Box (w1.setCell ⟨qt, 1 + k, none⟩ (.int .i64 0)) qn 22 (bc n) := BQn.out.far (by have := LTnt.out; simp only; omega) _
          have b3 : Box (w1.setCell ⟨qt, 1 + k, none⟩ (.int .i64 0)) qr 26 (tc .zero) := BQr.out.far (by have := LTtr.out; simp only; omega) _
          have hb := W.out.setCell (p := ⟨qt, 1 + k, none⟩) (by have := LEn.out; have := LTnt.out; simp only; omega) (.int .i64 0)
          generalize w1.setCell ⟨qt, 1 + k, none⟩ (.int .i64 0) = w2 at b1 b2 b3 hb ⊢
          go_roundw
          case rel => exact ⟨j, cset t' k 0, by omega, by have := HK.out; first | rfl | (congr 1; omega), HF.out, low_cset HL.out k 0 (by omega), b1, b2, b3, hb⟩
          case measure => have := HK.out; simp [intOf]; omega
        · have fp : decide (2 * (k : Int) + 1 < p) = false := decide_eq_false hp1
          cases odd
          · have HF := Lib.hid (show P.Tup.up n p t = t' by rw [HE.out, upr, HK.out, if_neg (by omega), if_pos (of_decide_eq_false HODD.out)])
            clear c0 f0
            have hbb := BQt.out
            have tc0 : w1.cell? ⟨qt, 0, none⟩ = some (.bool t'.top) := hbb.cell 0 _ rfl
            have tc1 : w1.cell? ⟨qt, 1, none⟩ = some (.int .i64 t'.a) := hbb.cell 1 _ rfl
            have tc2 : w1.cell? ⟨qt, 2, none⟩ = some (.int .i64 t'.b) := hbb.cell 2 _ rfl
            have tc3 : w1.cell? ⟨qt, 3, none⟩ = some (.int .i64 t'.c) := hbb.cell 3 _ rfl
            have tc4 : w1.cell? ⟨qt, 4, none⟩ = some (.int .i64 t'.d) := hbb.cell 4 _ rfl
            clear hbb
            have hbb := BQr.out
            have rc0 : w1.cell? ⟨qr, 0, none⟩ = some (.bool false) := hbb.cell 0 _ rfl
            have rc1 : w1.cell? ⟨qr, 1, none⟩ = some (.int .i64 0) := hbb.cell 1 _ rfl
            have rc2 : w1.cell? ⟨qr, 2, none⟩ = some (.int .i64 0) := hbb.cell 2 _ rfl
            have rc3 : w1.cell? ⟨qr, 3, none⟩ = some (.int .i64 0) := hbb.cell 3 _ rfl
            have rc4 : w1.cell? ⟨qr, 4, none⟩ = some (.int .i64 0) := hbb.cell 4 _ rfl
            have rf0 : w1.frozen? ⟨qr, 0, none⟩ = false := hbb.frozen 0
            have rf1 : w1.frozen? ⟨qr, 1, none⟩ = false := hbb.frozen 1
            have rf2 : w1.frozen? ⟨qr, 2, none⟩ = false := hbb.frozen 2
            have rf3 : w1.frozen? ⟨qr, 3, none⟩ = false := hbb.frozen 3
            have rf4 : w1.frozen? ⟨qr, 4, none⟩ = false := hbb.frozen 4
            clear hbb
            go_wp2_with fail
            have bz : Box (((((w1.setCell ⟨qr, 0, none⟩ (.bool t'.top)).setCell ⟨qr, 1, none⟩ (.int .i64 t'.a)).setCell ⟨qr, 2, none⟩ (.int .i64 t'.b)).setCell ⟨qr, 3, none⟩ (.int .i64 t'.c)).setCell ⟨qr, 4, none⟩ (.int .i64 t'.d)) qr 26 (tc t') := BQr.out.stT t'
            have hbz : Below w.heap.size w (((((w1.setCell ⟨qr, 0, none⟩ (.bool t'.top)).setCell ⟨qr, 1, none⟩ (.int .i64 t'.a)).setCell ⟨qr, 2, none⟩ (.int .i64 t'.b)).setCell ⟨qr, 3, none⟩ (.int .i64 t'.c)).setCell ⟨qr, 4, none⟩ (.int .i64 t'.d)) := below_stT W.out LEr.out t'
            generalize (((((w1.setCell ⟨qr, 0, none⟩ (.bool t'.top)).setCell ⟨qr, 1, none⟩ (.int .i64 t'.a)).setCell ⟨qr, 2, none⟩ (.int .i64 t'.b)).setCell ⟨qr, 3, none⟩ (.int .i64 t'.c)).setCell ⟨qr, 4, none⟩ (.int .i64 t'.d)) = wz at bz hbz ⊢
            have zc0 : wz.cell? ⟨qr, 0, none⟩ = some (.bool t'.top) := bz.cell 0 _ rfl
            have zc1 : wz.cell? ⟨qr, 1, none⟩ = some (.int .i64 t'.a) := bz.cell 1 _ rfl
            have zc2 : wz.cell? ⟨qr, 2, none⟩ = some (.int .i64 t'.b) := bz.cell 2 _ rfl
            have zc3 : wz.cell? ⟨qr, 3, none⟩ = some (.int .i64 t'.c) := bz.cell 3 _ rfl
            have zc4 : wz.cell? ⟨qr, 4, none⟩ = some (.int .i64 t'.d) := bz.cell 4 _ rfl
            refine bodyPost_ret (v := .agg (tc t')) (by simp [results, Try.results38, go_sem, zc0, zc1, zc2, zc3, zc4, tc]) rfl ⟨by rw [HF.out], hbz⟩
          · have n0 := BQn.out.bcounter k hk4n
            have hlo := HL.out k hk4n
            have hhi := HN.out k hk4n
            have hod : ¬ p % 2 ≠ 1 := fun h => h (of_decide_eq_true HODD.out)
            obtain ⟨x, hx⟩ : ∃ x, ct t' k = x := ⟨_, rfl⟩
            obtain ⟨y, hy⟩ : ∃ y, ct n k = y := ⟨_, rfl⟩
            rw [hx] at c0 hlo
            rw [hy] at n0 hhi
            have HX := Lib.hid hx
            have HY := Lib.hid hy
            clear hx hy
            go_upto_region 9 with (fail)
            go_quiet (fail)
            have hb := below_drewN (Below.refl w1.heap.size w1) nq
            replace BQn := Lib.hid (BQn.out.keep (grown_of_below hb none))
            replace BQt := Lib.hid (BQt.out.keep (grown_of_below hb none))
            replace BQr := Lib.hid (BQr.out.keep (grown_of_below hb none))
            replace W := Lib.hid (W.out.trans (hb.mono W.out.size))
            clear hb c0 f0 n0
            generalize w1.drewN nq = w2 at BQn BQt BQr W ⊢
            have c0 := BQt.out.counter k hk4n
            rw [HX.out] at c0
            have f0 : w2.frozen? ⟨qt, 1 + k, none⟩ = false := BQt.out.frozen (1 + k)
            by_cases hxy : x < y
            · have fx : decide (x < y) = true := decide_eq_true hxy
              have HF := Lib.hid (show P.Tup.up n p t = cset t' k (x + 1) by rw [HE.out, upr, HK.out, if_neg (by omega), if_neg hod, HX.out, HY.out, if_pos hxy])
              have b2 := BQt.out.set (1 + k) (.int .i64 (x + 1))
              rw [tc_set t' k hk4n (x + 1)] at b2
              have b3 : Box (w2.setCell ⟨qt, 1 + k, none⟩ (.int .i64 (x + 1))) qr 26 (tc .zero) := BQr.out.far (by have := LTtr.out; simp only; omega) _
              have hb := W.out.setCell (p := ⟨qt, 1 + k, none⟩) LEt.out (.int .i64 (x + 1))
              obtain ⟨z, hz⟩ : ∃ z, cset t' k (x + 1) = z := ⟨_, rfl⟩
              rw [hz] at b2 HF
              have B2 := Lib.hid b2
              have B3 := Lib.hid b3
              have W3 := Lib.hid hb
              clear b2 b3 hb hz
              have hbb := B2.out
              have tc0 : (w2.setCell ⟨qt, 1 + k, none⟩ (.int .i64 (x + 1))).cell? ⟨qt, 0, none⟩ = some (.bool z.top) := hbb.cell 0 _ rfl
              have tc1 : (w2.setCell ⟨qt, 1 + k, none⟩ (.int .i64 (x + 1))).cell? ⟨qt, 1, none⟩ = some (.int .i64 z.a) := hbb.cell 1 _ rfl
              have tc2 : (w2.setCell ⟨qt, 1 + k, none⟩ (.int .i64 (x + 1))).cell? ⟨qt, 2, none⟩ = some (.int .i64 z.b) := hbb.cell 2 _ rfl
              have tc3 : (w2.setCell ⟨qt, 1 + k, none⟩ (.int .i64 (x + 1))).cell? ⟨qt, 3, none⟩ = some (.int .i64 z.c) := hbb.cell 3 _ rfl
              have tc4 : (w2.setCell ⟨qt, 1 + k, none⟩ (.int .i64 (x + 1))).cell? ⟨qt, 4, none⟩ = some (.int .i64 z.d) := hbb.cell 4 _ rfl
              clear hbb
              have hbb := B3.out
              have rc0 : (w2.setCell ⟨qt, 1 + k, none⟩ (.int .i64 (x + 1))).cell? ⟨qr, 0, none⟩ = some (.bool false) := hbb.cell 0 _ rfl
              have rc1 : (w2.setCell ⟨qt, 1 + k, none⟩ (.int .i64 (x + 1))).cell? ⟨qr, 1, none⟩ = some (.int .i64 0) := hbb.cell 1 _ rfl
              have rc2 : (w2.setCell ⟨qt, 1 + k, none⟩ (.int .i64 (x + 1))).cell? ⟨qr, 2, none⟩ = some (.int .i64 0) := hbb.cell 2 _ rfl
              have rc3 : (w2.setCell ⟨qt, 1 + k, none⟩ (.int .i64 (x + 1))).cell? ⟨qr, 3, none⟩ = some (.int .i64 0) := hbb.cell 3 _ rfl
              have rc4 : (w2.setCell ⟨qt, 1 + k, none⟩ (.int .i64 (x + 1))).cell? ⟨qr, 4, none⟩ = some (.int .i64 0) := hbb.cell 4 _ rfl
              have rf0 : (w2.setCell ⟨qt, 1 + k, none⟩ (.int .i64 (x + 1))).frozen? ⟨qr, 0, none⟩ = false := hbb.frozen 0
              have rf1 : (w2.setCell ⟨qt, 1 + k, none⟩ (.int .i64 (x + 1))).frozen? ⟨qr, 1, none⟩ = false := hbb.frozen 1
              have rf2 : (w2.setCell ⟨qt, 1 + k, none⟩ (.int .i64 (x + 1))).frozen? ⟨qr, 2, none⟩ = false := hbb.frozen 2
              have rf3 : (w2.setCell ⟨qt, 1 + k, none⟩ (.int .i64 (x + 1))).frozen? ⟨qr, 3, none⟩ = false := hbb.frozen 3
              have rf4 : (w2.setCell ⟨qt, 1 + k, none⟩ (.int .i64 (x + 1))).frozen? ⟨qr, 4, none⟩ = false := hbb.frozen 4
              clear hbb
              go_wp2_with fail
              have bz : Box ((((((w2.setCell ⟨qt, 1 + k, none⟩ (.int .i64 (x + 1))).setCell ⟨qr, 0, none⟩ (.bool z.top)).setCell ⟨qr, 1, none⟩ (.int .i64 z.a)).setCell ⟨qr, 2, none⟩ (.int .i64 z.b)).setCell ⟨qr, 3, none⟩ (.int .i64 z.c)).setCell ⟨qr, 4, none⟩ (.int .i64 z.d)) qr 26 (tc z) := B3.out.stT z
              have hbz : Below w.heap.size w ((((((w2.setCell ⟨qt, 1 + k, none⟩ (.int .i64 (x + 1))).setCell ⟨qr, 0, none⟩ (.bool z.top)).setCell ⟨qr, 1, none⟩ (.int .i64 z.a)).setCell ⟨qr, 2, none⟩ (.int .i64 z.b)).setCell ⟨qr, 3, none⟩ (.int .i64 z.c)).setCell ⟨qr, 4, none⟩ (.int .i64 z.d)) := below_stT W3.out LEr.out z
              generalize ((((((w2.setCell ⟨qt, 1 + k, none⟩ (.int .i64 (x + 1))).setCell ⟨qr, 0, none⟩ (.bool z.top)).setCell ⟨qr, 1, none⟩ (.int .i64 z.a)).setCell ⟨qr, 2, none⟩ (.int .i64 z.b)).setCell ⟨qr, 3, none⟩ (.int .i64 z.c)).setCell ⟨qr, 4, none⟩ (.int .i64 z.d)) = wz at bz hbz ⊢
              have zc0 : wz.cell? ⟨qr, 0, none⟩ = some (.bool z.top) := bz.cell 0 _ rfl
              have zc1 : wz.cell? ⟨qr, 1, none⟩ = some (.int .i64 z.a) := bz.cell 1 _ rfl
              have zc2 : wz.cell? ⟨qr, 2, none⟩ = some (.int .i64 z.b) := bz.cell 2 _ rfl
              have zc3 : wz.cell? ⟨qr, 3, none⟩ = some (.int .i64 z.c) := bz.cell 3 _ rfl
              have zc4 : wz.cell? ⟨qr, 4, none⟩ = some (.int .i64 z.d) := bz.cell 4 _ rfl
              refine bodyPost_ret (v := .agg (tc z)) (by simp [results, Try.results38, go_sem, zc0, zc1, zc2, zc3, zc4, tc]) rfl ⟨by rw [HF.out], hbz⟩
            · have fx : decide (x < y) = false := decide_eq_false hxy
              have HF := Lib.hid (show P.Tup.up n p t = upr n p j (cset t' k 0) by rw [HE.out, upr, HK.out, if_neg (by omega), if_neg hod, HX.out, HY.out, if_neg hxy])
              go_wp2_with fail
              clear c0 f0
              have b2 := BQt.out.set (1 + k) (.int .i64 0)
              rw [tc_set t' k hk4n 0] at b2
              have b1 : Box (w2.setCell ⟨qt, 1 + k, none⟩ (.int .i64 0)) qn 22 (bc n) := BQn.out.far (by have := LTnt.out; simp only; omega) _
              have b3 : Box (w2.setCell ⟨qt, 1 + k, none⟩ (.int .i64 0)) qr 26 (tc .zero) := BQr.out.far (by have := LTtr.out; simp only; omega) _
              have hb := W.out.setCell (p := ⟨qt, 1 + k, none⟩) (by have := LEn.out; have := LTnt.out; simp only; omega) (.int .i64 0)
              generalize w2.setCell ⟨qt, 1 + k, none⟩ (.int .i64 0) = w3 at b1 b2 b3 hb ⊢
              go_roundw
              case rel => exact ⟨j, cset t' k 0, by omega, by have := HK.out; first | rfl | (congr 1; omega), HF.out, low_cset HL.out k 0 (by omega), b1, b2, b3, hb⟩
              case measure => have := HK.out; simp [intOf]; omega
  · have e0 : tc ⟨true, ta, tb, tc_, td⟩ = #[.bool true, .int .i64 ta, .int .i64 tb, .int .i64 tc_, .int .i64 td] := rfl
    rw [e0, e1]
    clear e0 e1
    go_enter Try.func38, Try.ntmps38
    go_wp2_with fail
    refine bodyPost_ret (v := .agg #[.bool true, .int .i64 0, .int .i64 0, .int .i64 0, .int .i64 0]) (by simp [results, Try.results38, go_sem]) rfl ⟨rfl, (((Below.refl _ w).alloc (Nat.le_refl _) _).alloc (by simp) _).alloc (by simp; omega) _⟩
end W
end Go.Proofs.Yteeaojciobmcaaa
