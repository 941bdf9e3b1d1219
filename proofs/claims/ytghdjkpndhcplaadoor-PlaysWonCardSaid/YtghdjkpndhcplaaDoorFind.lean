/- A number in a list: the library's Index and Contains, the document's own. -/
import Derived.Test.YtghdjkpndhcplaaDoorRCopy
import Derived.Test.YtghdjkpndhcplaaDoorRight
import Derived.Test.YtghdjkpndhcplaaDoorRRight
namespace Go.Proofs.YtghdjkpndhcplaaDoor
open Go.RowKit
namespace W

set_option maxRecDepth 100000 in
set_option maxHeartbeats 1000000 in
theorem index_any (v : Value) (zs : List Int) (z : Int) (w : World) (hv : Ints w v zs) : Calls Tryd.prog 36 #[v, .int .i64 z] w fun e w' => e = .returned (.int .i64 (P.indexFrom z zs 0)) ∧ w = w' := by
  obtain ⟨ao, cap, rfl, hz, hc⟩ := hv
  have HC := Lib.hid hc
  clear hc
  obtain ⟨n, hn⟩ : ∃ n, zs.length = n := ⟨_, rfl⟩
  rw [hn] at hz ⊢
  have HN := Lib.hid hn
  clear hn
  go_enter Tryd.func36, Tryd.ntmps36
  go_wp2_with fail
  go_loopw [8] (fun i wr => ∃ j : Nat, j ≤ n ∧ i = .int .i64 j ∧ P.indexFrom z zs 0 = P.indexFrom z (zs.drop j) j ∧ wr = w) (fun i _ => n - (intOf i).toNat)
  case atStart => exact ⟨0, Nat.zero_le _, rfl, rfl, by first | trivial | rfl⟩
  case round =>
    obtain ⟨j, hj, rfl, he, hw⟩ := hrel
    obtain rfl : w = wr := hw.symm
    have HE := Lib.hid he
    clear he hw
    have hj0 : (0 : Int) ≤ (j : Int) := Int.natCast_nonneg _
    by_cases hlt : j < n
    · have fj : decide ((j : Int) < (n : Int)) = true := decide_eq_true (by omega)
      have hjl : j < zs.length := by rw [HN.out]; exact hlt
      obtain ⟨b, off, rfl, hb, hcell⟩ := HC.out.resolve_left (fun e => by rw [e] at hjl; exact absurd hjl (Nat.not_lt_zero j))
      have hcj := hcell j hjl
      have hd : zs.drop j = zs.getD j 0 :: zs.drop (j + 1) := by
        rw [List.drop_eq_getElem_cons hjl]
        congr 1
        rw [List.getD_eq_getElem?_getD, List.getElem?_eq_getElem hjl]
        rfl
      generalize zs.getD j 0 = x at hcj hd
      have HD := Lib.hid hd
      clear hd hjl hcell
      by_cases e : x = z
      · have g : (z == x) = true := by rw [beq_iff_eq]; exact e.symm
        have HF := Lib.hid (show P.indexFrom z zs 0 = (j : Int) by rw [HE.out, HD.out, P.indexFrom, if_pos e])
        clear e
        go_wp2_with fail
        go_ret
        exact ⟨by rw [HF.out]; rfl, rfl⟩
      · have g : (z == x) = false := by rw [beq_eq_false_iff_ne]; exact Ne.symm e
        have HF := Lib.hid (show P.indexFrom z zs 0 = P.indexFrom z (zs.drop (j + 1)) (j + 1) by rw [HE.out, HD.out, P.indexFrom, if_neg e])
        clear e
        go_wp2_with fail
        go_roundw
        case rel => exact ⟨j + 1, by omega, by go_num, HF.out, by first | trivial | rfl⟩
        case measure => simp [intOf]; omega
    · have fj : decide ((j : Int) < (n : Int)) = false := decide_eq_false (by omega)
      have HF := Lib.hid (show P.indexFrom z zs 0 = -1 by rw [HE.out, List.drop_eq_nil_of_le (by rw [HN.out]; omega)]; rfl)
      go_wp2_with fail
      go_ret
      exact ⟨by rw [HF.out]; rfl, rfl⟩

set_option maxRecDepth 100000 in
set_option maxHeartbeats 1000000 in
theorem contains_any (v : Value) (zs : List Int) (z : Int) (w : World) (hv : Ints w v zs) : Calls Tryd.prog 31 #[v, .int .i64 z] w fun e w' => e = .returned (.bool (decide (z ∈ zs))) ∧ w = w' := by
  have HF := Lib.hid (P.indexFrom_mem z zs 0)
  go_enter Tryd.func31, Tryd.ntmps31
  go_wp2_with fail
  refine (index_any v zs z _ hv).mono ?_
  rintro e w' ⟨rfl, rfl⟩
  go_wp2_with fail
  go_ret
  exact ⟨by rw [← HF.out]; rfl, rfl⟩
end W
end Go.Proofs.YtghdjkpndhcplaaDoor
