/- Two lists that are the same: the document's answer. -/
import Derived.Test.YtghdjkpndhcplaaMoves
namespace Go.Proofs.Ytghdjkpndhcplaa
open Go.RowKit
namespace W

theorem below_drewN {B : Nat} {a w : World} (h : Below B a w) (n : Nat) : Below B a (w.drewN n) := h.trans ⟨rfl, rfl, rfl, Nat.le_refl _, fun _ _ => rfl⟩
set_option maxRecDepth 100000 in
set_option maxHeartbeats 1000000 in
theorem sameints_any (va vb : Value) (xs ys : List Int) (w : World) (ha : Ints w va xs) (hb : Ints w vb ys) :
    Calls Try.prog 12 #[va, vb] w fun e w' => e = .returned (.bool (decide (xs = ys))) ∧ Below w.heap.size w w' := by
  obtain ⟨ao, ca, rfl, hza, ha⟩ := ha
  obtain ⟨bo, cb, rfl, hzb, hb⟩ := hb
  have HA := Lib.hid ha
  have HB := Lib.hid hb
  clear ha hb
  by_cases hl : xs.length = ys.length
  · have f0 : (((xs.length : Nat) : Int) != ((ys.length : Nat) : Int)) = false := by rw [bne_eq_false_iff_eq]; omega
    have HL := Lib.hid hl
    clear hl
    go_enter Try.func12, Try.ntmps12
    go_wp2_with fail
    go_loopw [5] (fun i wr => ∃ j : Nat, j ≤ xs.length ∧ i = .int .i64 j ∧ xs.take j = ys.take j ∧ Below w.heap.size w wr) (fun i _ => xs.length - (intOf i).toNat)
    case atStart => exact ⟨0, Nat.zero_le _, rfl, rfl, Below.refl _ _⟩
    case round =>
      obtain ⟨j, hj, rfl, ht, hbw⟩ := hrel
      have HT := Lib.hid ht
      have HW := Lib.hid hbw
      clear ht hbw
      have hj0 : (0 : Int) ≤ (j : Int) := Int.natCast_nonneg _
      by_cases hlt : j < xs.length
      · have fj : decide ((j : Int) < (xs.length : Int)) = true := decide_eq_true (by omega)
        have hjy : j < ys.length := by rw [← HL.out]; exact hlt
        obtain ⟨ba, oa, rfl, la, ka⟩ := HA.out.resolve_left (fun e => by rw [e] at hlt; exact absurd hlt (Nat.not_lt_zero j))
        obtain ⟨bb, ob, rfl, lb, kb⟩ := HB.out.resolve_left (fun e => by rw [e] at hjy; exact absurd hjy (Nat.not_lt_zero j))
        obtain ⟨x, hx⟩ : ∃ x, xs.getD j 0 = x := ⟨_, rfl⟩
        obtain ⟨y, hy⟩ : ∃ y, ys.getD j 0 = y := ⟨_, rfl⟩
        have c1 : wr.cell? ⟨ba, oa + j, none⟩ = some (.int .i64 x) := by rw [← hx]; exact (HW.out.cell (p := ⟨ba, oa + j, none⟩) la).trans (ka j hlt)
        have c2 : wr.cell? ⟨bb, ob + j, none⟩ = some (.int .i64 y) := by rw [← hy]; exact (HW.out.cell (p := ⟨bb, ob + j, none⟩) lb).trans (kb j hjy)
        have hxg : xs[j]? = some x := by rw [List.getElem?_eq_getElem hlt, ← hx, List.getD_eq_getElem?_getD, List.getElem?_eq_getElem hlt]; rfl
        have hyg : ys[j]? = some y := by rw [List.getElem?_eq_getElem hjy, ← hy, List.getD_eq_getElem?_getD, List.getElem?_eq_getElem hjy]; rfl
        have i1 : (j : Int) < (xs.length : Int) := by omega
        have i2 : (j : Int) < (ys.length : Int) := by omega
        have HXG := Lib.hid hxg
        have HYG := Lib.hid hyg
        clear hxg hyg hx hy ka kb
        by_cases e : x = y
        · have g : (x != y) = false := by rw [bne_eq_false_iff_eq]; exact e
          have HF := Lib.hid (show xs.take (j + 1) = ys.take (j + 1) by rw [List.take_add_one, List.take_add_one, HT.out, HXG.out, HYG.out, e])
          clear e
          go_wp2_with fail
          go_quiet (fail)
          go_wp2_with fail
          go_roundw
          case rel => exact ⟨j + 1, by omega, by go_num, HF.out, below_drewN HW.out _⟩
          case measure => simp [intOf]; omega
        · have g : (x != y) = true := by rw [bne_iff_ne]; exact e
          have HF := Lib.hid (show decide (xs = ys) = false from decide_eq_false (fun h => e (by have := HXG.out; rw [h, HYG.out] at this; exact (Option.some.inj this).symm)))
          clear e
          go_wp2_with fail
          go_quiet (fail)
          go_wp2_with fail
          go_ret
          exact ⟨by rw [HF.out]; rfl, below_drewN HW.out _⟩
      · have fj : decide ((j : Int) < (xs.length : Int)) = false := decide_eq_false (by omega)
        have HF := Lib.hid (show decide (xs = ys) = true from decide_eq_true (by
          have := HT.out
          rw [List.take_of_length_le (by omega), List.take_of_length_le (by have := HL.out; omega)] at this
          exact this))
        go_wp2_with fail
        go_ret
        exact ⟨by rw [HF.out]; rfl, HW.out⟩
  · have f0 : (((xs.length : Nat) : Int) != ((ys.length : Nat) : Int)) = true := by rw [bne_iff_ne]; omega
    have HF := Lib.hid (show decide (xs = ys) = false from decide_eq_false (fun h => hl (by rw [h])))
    clear hl
    go_enter Try.func12, Try.ntmps12
    go_wp2_with fail
    go_ret
    exact ⟨by rw [HF.out]; rfl, Below.refl _ _⟩
end W
end Go.Proofs.Ytghdjkpndhcplaa
