/- Whether two lists of numbers are the same: the walk of the laws' own function. -/
import Derived.Test.YtoopjgajpooehaaDoorRow
import Derived.Deep.QuietTactic
import Derived.BigQuiet
import Derived.WalkSmall
namespace Go.Proofs.YtoopjgajpooehaaDoor
open Go.RowKit Go.Sort
namespace W
theorem equal_none (a c : Option Addr) (p q : Nat) (w : World) : Calls Tryd.prog 15 #[.slice a 0 p, .slice c 0 q] w fun e w' => e = .returned (.bool true) ∧ Below w.heap.size w w' := by
  go_enter Tryd.func15, Tryd.ntmps15
  go_wp2_with fail
  refine wp_loop_rounds 1 ?_
  rw [rounds_succ]
  go_wp2_with fail
  go_ret
  exact ⟨rfl, Below.refl _ _⟩
theorem equal_unlike (a c : Option Addr) (m n p q : Nat) (w : World) (h : m ≠ n) : Calls Tryd.prog 15 #[.slice a m p, .slice c n q] w fun e w' => e = .returned (.bool false) ∧ Below w.heap.size w w' := by
  have ht : ((m : Int) != (n : Int)) = true := by rw [bne_iff_ne]; omega
  go_enter Tryd.func15, Tryd.ntmps15
  go_wp2_with fail
  go_ret
  exact ⟨rfl, Below.refl _ _⟩
set_option maxHeartbeats 1000000 in
theorem equal_some (b o1 b2 o2 p q : Nat) (zs ys : List Int) (w : World) (hn : ys.length = zs.length) (hm : zs.length ≤ maxLen) (h1 : b < w.heap.size) (h2 : b2 < w.heap.size)
    (hc1 : Hid (∀ j, j < zs.length → w.cell? ⟨b, o1 + j, none⟩ = some (.int .i64 (zs.getD j 0)))) (hc2 : Hid (∀ j, j < ys.length → w.cell? ⟨b2, o2 + j, none⟩ = some (.int .i64 (ys.getD j 0)))) :
    Calls Tryd.prog 15 #[.slice (some ⟨b, o1, none⟩) zs.length p, .slice (some ⟨b2, o2, none⟩) zs.length q] w fun e w' => e = .returned (.bool (decide (zs = ys))) ∧ Below w.heap.size w w' := by
  unfold maxLen at hm
  have HN := Lib.hid hn
  clear hn
  go_enter Tryd.func15, Tryd.ntmps15
  go_wp2_with fail
  go_loopw [5] (fun i wr => ∃ k : Nat, k ≤ zs.length ∧ i = .int .i64 k ∧ zs.take k = ys.take k ∧ Below w.heap.size w wr) (fun i _ => zs.length - (intOf i).toNat)
  case atStart => exact ⟨0, Nat.zero_le _, rfl, rfl, Below.refl _ _⟩
  case round =>
    obtain ⟨k, hk, rfl, ht, hw⟩ := hrel
    have HT := Lib.hid ht
    have HW := Lib.hid hw
    clear ht hw
    by_cases hkl : k < zs.length
    · have hk0 : (0 : Int) ≤ (k : Int) := Int.natCast_nonneg _
      have hk1 : (k : Int) < (zs.length : Int) := by omega
      have g1 : wr.cell? ⟨b, o1 + k, none⟩ = some (.int .i64 (zs.getD k 0)) := (HW.out.cell (p := ⟨b, o1 + k, none⟩) h1).trans (hc1.out k hkl)
      have g2 : wr.cell? ⟨b2, o2 + k, none⟩ = some (.int .i64 (ys.getD k 0)) := (HW.out.cell (p := ⟨b2, o2 + k, none⟩) h2).trans (hc2.out k (by rw [HN.out]; exact hkl))
      have D1 := Lib.hid (P.take_snoc zs k hkl)
      have D2 := Lib.hid (P.take_snoc ys k (by rw [HN.out]; exact hkl))
      obtain ⟨x, hx⟩ : ∃ x, zs.getD k 0 = x := ⟨_, rfl⟩
      obtain ⟨y, hy⟩ : ∃ y, ys.getD k 0 = y := ⟨_, rfl⟩
      rw [hx] at g1
      rw [hy] at g2
      have HX := Lib.hid hx
      have HY := Lib.hid hy
      clear hx hy
      by_cases e : x = y
      · subst e
        have hne : (x != x) = false := by simp
        go_wp2_with fail
        go_quiet (fail)
        go_wp2_with fail
        go_roundw
        case rel => exact ⟨k + 1, by omega, by go_num, by rw [D1.out, D2.out, HT.out, HX.out, HY.out], below_drewN HW.out _⟩
        case measure => simp [intOf]; omega
      · have hne : (x != y) = true := by simpa using e
        have HE := Lib.hid e
        clear e
        have hfin : decide (zs = ys) = false := by
          apply decide_eq_false
          intro h
          apply HE.out
          rw [← HX.out, ← HY.out, h]
        have HF := Lib.hid hfin
        clear hfin
        go_wp2_with fail
        go_quiet (fail)
        go_wp2_with fail
        go_ret
        exact ⟨by rw [HF.out]; rfl, below_drewN HW.out _⟩
    · obtain rfl : k = zs.length := by omega
      have e : zs = ys := by
        have := HT.out
        rw [List.take_length, ← HN.out, List.take_length] at this
        exact this
      have HF := Lib.hid (decide_eq_true e)
      clear e
      go_wp2_with fail
      go_ret
      exact ⟨by rw [HF.out]; rfl, HW.out⟩
theorem equal_any {w : World} {v1 v2 : Value} {zs ys : List Int} (h1 : Ints w v1 zs) (h2 : Ints w v2 ys) : Calls Tryd.prog 15 #[v1, v2] w fun e w' => e = .returned (.bool (decide (zs = ys))) ∧ Below w.heap.size w w' := by
  obtain ⟨a1, p, rfl, hm1, h1⟩ := h1
  obtain ⟨a2, q, rfl, hm2, h2⟩ := h2
  by_cases hn : zs.length = ys.length
  · rcases Nat.eq_zero_or_pos zs.length with h0 | h0
    · have e1 : zs = [] := List.eq_nil_of_length_eq_zero h0
      have e2 : ys = [] := List.eq_nil_of_length_eq_zero (by omega)
      subst e1 e2
      exact (equal_none a1 a2 p q w).mono fun e w' ⟨he, hb⟩ => ⟨by rw [he]; simp, hb⟩
    · rcases h1 with h1 | ⟨b, o1, rfl, hb1, hc1⟩
      · omega
      · rcases h2 with h2 | ⟨b2, o2, rfl, hb2, hc2⟩
        · omega
        · rw [← hn]
          exact equal_some b o1 b2 o2 p q zs ys w hn.symm hm1 hb1 hb2 (Lib.hid hc1) (Lib.hid hc2)
  · have e : decide (zs = ys) = false := decide_eq_false (fun h => hn (by rw [h]))
    rw [e]
    exact equal_unlike a1 a2 zs.length ys.length p q w hn
end W
end Go.Proofs.YtoopjgajpooehaaDoor
