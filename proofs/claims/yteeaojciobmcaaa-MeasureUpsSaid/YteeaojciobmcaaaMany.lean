/- How often a priority comes: the document's many. -/
import Derived.Test.YteeaojciobmcaaaBounds
import Derived.Deep.Cut
import Derived.Lib.Hide
import Derived.Deep.QuietTactic
import Derived.BigQuiet
namespace Go.Proofs.Yteeaojciobmcaaa
open Go.RowKit
namespace W

theorem take_count (prio : List Int) (q : Int) (j : Nat) (hj : j < prio.length) : (prio.take (j + 1)).count q = (prio.take j).count q + (if prio.getD j 0 = q then 1 else 0) := by
  rw [List.take_add_one, List.count_append, List.getElem?_eq_getElem hj]
  have e : prio.getD j 0 = prio[j] := by rw [List.getD_eq_getElem?_getD, List.getElem?_eq_getElem hj]; rfl
  rw [e, Option.toList_some, List.count_singleton]
  by_cases h : prio[j] = q
  · rw [if_pos h, if_pos (by rw [beq_iff_eq]; exact h)]
  · rw [if_neg h, if_neg (by rw [beq_iff_eq]; exact h)]
set_option maxRecDepth 100000 in
set_option maxHeartbeats 1000000 in
theorem many_any (g : P.G) (q : Int) (v : Value) (w : World) (hv : GameV w v g) : Calls Try.prog 40 #[v, .int .i64 q] w fun e w' => e = .returned (.int .i64 (g.prio.count q : Int)) ∧ Below w.heap.size w w' := by
  obtain ⟨a, b, c, rfl, -, hb, -⟩ := hv
  obtain ⟨prio, hprio⟩ : ∃ l, g.prio = l := ⟨_, rfl⟩
  rw [hprio] at hb ⊢
  clear hprio
  obtain ⟨bo, bk, rfl, hlen, hc⟩ := hb
  obtain ⟨n, hn⟩ : ∃ n, prio.length = n := ⟨_, rfl⟩
  rw [hn] at hlen ⊢
  have HC := Lib.hid hc
  have HN := Lib.hid hn
  clear hn hc
  go_enter Try.func40, Try.ntmps40
  go_wp2_with fail
  have bx0 : Box (w.alloc (.cells #[a, .slice bo n bk, c] 33)) (w.heap.size) 33 #[a, .slice bo n bk, c] := Box.new w 33 #[a, .slice bo n bk, c]
  have hbq : Below w.heap.size w (w.alloc (.cells #[a, .slice bo n bk, c] 33)) := (Below.refl _ w).alloc (Nat.le_refl _) _
  have hle0 : w.heap.size ≤ w.heap.size := Nat.le_refl _
  generalize (w.alloc (.cells #[a, .slice bo n bk, c] 33)) = w0 at bx0 hbq  ⊢
  have BQg := Lib.hid bx0
  have W := Lib.hid hbq
  have LEg := Lib.hid hle0
  clear hbq hle0 bx0 
  obtain ⟨qg, hqg⟩ : ∃ qg, w.heap.size = qg := ⟨_, rfl⟩
  rw [hqg] at BQg ⊢
  have LEg : Hid (w.heap.size ≤ qg) := Lib.hid (by omega)
  clear hqg
  have g1 := BQg.out.cell 1 _ rfl
  go_loopw [5, 6] (fun cv iv wr => ∃ j : Nat, j ≤ n ∧ iv = .int .i64 (j : Int) ∧ cv = .int .i64 ((prio.take j).count q : Int) ∧ wr = w0) (fun _ iv _ => n - (intOf iv).toNat)
  case atStart => exact ⟨0, Nat.zero_le _, rfl, by simp, by first | trivial | rfl⟩
  case round =>
    obtain ⟨j, hj, rfl, rfl, hw⟩ := hrel
    obtain rfl : w0 = wr := hw.symm
    clear hw
    have hj0 : (0 : Int) ≤ (j : Int) := Int.natCast_nonneg _
    have hcl : (prio.take j).count q ≤ n := Nat.le_trans List.count_le_length (by rw [List.length_take, HN.out]; omega)
    obtain ⟨x, hx⟩ : ∃ x, (prio.take j).count q = x := ⟨_, rfl⟩
    rw [hx] at hcl ⊢
    have HX := Lib.hid hx
    clear hx
    by_cases hlt : j < n
    · have fj : decide ((j : Int) < (n : Int)) = true := decide_eq_true (by omega)
      have hji : (j : Int) < (n : Int) := by omega
      obtain ⟨b, off, rfl, hbl, hc⟩ := HC.out.resolve_left (fun e => by have := HN.out; rw [e] at this; simp at this; omega)
      have hcj := hc j (by have := HN.out; omega)
      rw [← W.out.cell (p := ⟨b, off + j, none⟩) hbl] at hcj
      have htc := take_count prio q j (by have := HN.out; omega)
      obtain ⟨z, hz⟩ : ∃ z, prio.getD j 0 = z := ⟨_, rfl⟩
      rw [hz] at hcj htc
      rw [HX.out] at htc
      clear hz hc hbl
      by_cases hzq : z = q
      · have fz : (z == q) = true := by rw [beq_iff_eq]; exact hzq
        have HT := Lib.hid (show (prio.take (j + 1)).count q = x + 1 by rw [htc, if_pos hzq])
        clear htc hzq
        go_wp2_with fail
        go_roundw
        case rel => exact ⟨j + 1, by omega, by first | rfl | go_num, by rw [HT.out]; first | rfl | go_num, by first | trivial | rfl⟩
        case measure => simp [intOf]; omega
      · have fz : (z == q) = false := by rw [beq_eq_false_iff_ne]; exact hzq
        have HT := Lib.hid (show (prio.take (j + 1)).count q = x by rw [htc, if_neg hzq]; rfl)
        clear htc hzq
        go_wp2_with fail
        go_roundw
        case rel => exact ⟨j + 1, by omega, by first | rfl | go_num, by rw [HT.out], by first | trivial | rfl⟩
        case measure => simp [intOf]; omega
    · have fj : decide ((j : Int) < (n : Int)) = false := decide_eq_false (by omega)
      have HF := Lib.hid (show prio.count q = x by rw [← HX.out, List.take_of_length_le (by have := HN.out; omega)])
      go_wp2_with fail
      go_ret
      exact ⟨by rw [HF.out]; rfl, W.out⟩
end W
end Go.Proofs.Yteeaojciobmcaaa
