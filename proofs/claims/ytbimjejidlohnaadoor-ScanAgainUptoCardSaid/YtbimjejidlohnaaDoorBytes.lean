/- The kinds of bytes, in the program and in the document's answer. -/
import Derived.Test.YtbimjejidlohnaaDoorSpec
import Derived.Test.YtbimjejidlohnaaDoorProg
import Derived.WalkKit
import Derived.Outline
import Derived.Lib.Hide
namespace Go.Proofs.YtbimjejidlohnaaDoor
open Go.RowKit
namespace W
theorem isSmall (c : Nat) (w : World) : Calls Tryd.prog 22 #[.int .u8 (c : Int)] w fun e w' => e = .returned (.bool (P.small c)) ∧ w' = w := by
  unfold P.small
  go_enter Tryd.func22, Tryd.ntmps22
  by_cases h1 : 97 ≤ c
  · have e1 : decide (97 ≤ c) = true := decide_eq_true h1
    have e3 : decide ((97 : Int) ≤ (c : Int)) = true := decide_eq_true (by omega)
    rw [e1]
    by_cases h2 : c ≤ 122
    · have e2 : decide (c ≤ 122) = true := decide_eq_true h2
      have e4 : decide ((c : Int) ≤ 122) = true := decide_eq_true (by omega)
      rw [e2]
      go_wp2_with fail
      go_ret
      exact ⟨rfl, rfl⟩
    · have e2 : decide (c ≤ 122) = false := decide_eq_false h2
      have e4 : decide ((c : Int) ≤ 122) = false := decide_eq_false (by omega)
      rw [e2]
      go_wp2_with fail
      go_ret
      exact ⟨rfl, rfl⟩
  · have e1 : decide (97 ≤ c) = false := decide_eq_false h1
    have e3 : decide ((97 : Int) ≤ (c : Int)) = false := decide_eq_false (by omega)
    rw [e1]
    go_wp2_with fail
    go_ret
    exact ⟨rfl, rfl⟩
theorem isCapital (c : Nat) (w : World) : Calls Tryd.prog 24 #[.int .u8 (c : Int)] w fun e w' => e = .returned (.bool (P.capital c)) ∧ w' = w := by
  unfold P.capital
  go_enter Tryd.func24, Tryd.ntmps24
  by_cases h1 : 65 ≤ c
  · have e1 : decide (65 ≤ c) = true := decide_eq_true h1
    have e3 : decide ((65 : Int) ≤ (c : Int)) = true := decide_eq_true (by omega)
    rw [e1]
    by_cases h2 : c ≤ 90
    · have e2 : decide (c ≤ 90) = true := decide_eq_true h2
      have e4 : decide ((c : Int) ≤ 90) = true := decide_eq_true (by omega)
      rw [e2]
      go_wp2_with fail
      go_ret
      exact ⟨rfl, rfl⟩
    · have e2 : decide (c ≤ 90) = false := decide_eq_false h2
      have e4 : decide ((c : Int) ≤ 90) = false := decide_eq_false (by omega)
      rw [e2]
      go_wp2_with fail
      go_ret
      exact ⟨rfl, rfl⟩
  · have e1 : decide (65 ≤ c) = false := decide_eq_false h1
    have e3 : decide ((65 : Int) ≤ (c : Int)) = false := decide_eq_false (by omega)
    rw [e1]
    go_wp2_with fail
    go_ret
    exact ⟨rfl, rfl⟩
theorem isDigit (c : Nat) (w : World) : Calls Tryd.prog 25 #[.int .u8 (c : Int)] w fun e w' => e = .returned (.bool (P.digit c)) ∧ w' = w := by
  unfold P.digit
  go_enter Tryd.func25, Tryd.ntmps25
  by_cases h1 : 48 ≤ c
  · have e1 : decide (48 ≤ c) = true := decide_eq_true h1
    have e3 : decide ((48 : Int) ≤ (c : Int)) = true := decide_eq_true (by omega)
    rw [e1]
    by_cases h2 : c ≤ 57
    · have e2 : decide (c ≤ 57) = true := decide_eq_true h2
      have e4 : decide ((c : Int) ≤ 57) = true := decide_eq_true (by omega)
      rw [e2]
      go_wp2_with fail
      go_ret
      exact ⟨rfl, rfl⟩
    · have e2 : decide (c ≤ 57) = false := decide_eq_false h2
      have e4 : decide ((c : Int) ≤ 57) = false := decide_eq_false (by omega)
      rw [e2]
      go_wp2_with fail
      go_ret
      exact ⟨rfl, rfl⟩
  · have e1 : decide (48 ≤ c) = false := decide_eq_false h1
    have e3 : decide ((48 : Int) ≤ (c : Int)) = false := decide_eq_false (by omega)
    rw [e1]
    go_wp2_with fail
    go_ret
    exact ⟨rfl, rfl⟩
theorem rsmall (c : Nat) (w : World) : Calls Tryd.prog 27 #[.int .u8 (c : Int)] w fun e w' => e = .returned (.bool (P.small c)) ∧ w' = w := by
  unfold P.small
  go_enter Tryd.func27, Tryd.ntmps27
  by_cases h1 : 97 ≤ c
  · have e1 : decide (97 ≤ c) = true := decide_eq_true h1
    have e3 : decide ((97 : Int) ≤ (c : Int)) = true := decide_eq_true (by omega)
    rw [e1]
    by_cases h2 : c ≤ 122
    · have e2 : decide (c ≤ 122) = true := decide_eq_true h2
      have e4 : decide ((c : Int) ≤ 122) = true := decide_eq_true (by omega)
      rw [e2]
      go_wp2_with fail
      go_ret
      exact ⟨rfl, rfl⟩
    · have e2 : decide (c ≤ 122) = false := decide_eq_false h2
      have e4 : decide ((c : Int) ≤ 122) = false := decide_eq_false (by omega)
      rw [e2]
      go_wp2_with fail
      go_ret
      exact ⟨rfl, rfl⟩
  · have e1 : decide (97 ≤ c) = false := decide_eq_false h1
    have e3 : decide ((97 : Int) ≤ (c : Int)) = false := decide_eq_false (by omega)
    rw [e1]
    go_wp2_with fail
    go_ret
    exact ⟨rfl, rfl⟩
theorem rcapital (c : Nat) (w : World) : Calls Tryd.prog 28 #[.int .u8 (c : Int)] w fun e w' => e = .returned (.bool (P.capital c)) ∧ w' = w := by
  unfold P.capital
  go_enter Tryd.func28, Tryd.ntmps28
  by_cases h1 : 65 ≤ c
  · have e1 : decide (65 ≤ c) = true := decide_eq_true h1
    have e3 : decide ((65 : Int) ≤ (c : Int)) = true := decide_eq_true (by omega)
    rw [e1]
    by_cases h2 : c ≤ 90
    · have e2 : decide (c ≤ 90) = true := decide_eq_true h2
      have e4 : decide ((c : Int) ≤ 90) = true := decide_eq_true (by omega)
      rw [e2]
      go_wp2_with fail
      go_ret
      exact ⟨rfl, rfl⟩
    · have e2 : decide (c ≤ 90) = false := decide_eq_false h2
      have e4 : decide ((c : Int) ≤ 90) = false := decide_eq_false (by omega)
      rw [e2]
      go_wp2_with fail
      go_ret
      exact ⟨rfl, rfl⟩
  · have e1 : decide (65 ≤ c) = false := decide_eq_false h1
    have e3 : decide ((65 : Int) ≤ (c : Int)) = false := decide_eq_false (by omega)
    rw [e1]
    go_wp2_with fail
    go_ret
    exact ⟨rfl, rfl⟩
theorem rdigit (c : Nat) (w : World) : Calls Tryd.prog 29 #[.int .u8 (c : Int)] w fun e w' => e = .returned (.bool (P.digit c)) ∧ w' = w := by
  unfold P.digit
  go_enter Tryd.func29, Tryd.ntmps29
  by_cases h1 : 48 ≤ c
  · have e1 : decide (48 ≤ c) = true := decide_eq_true h1
    have e3 : decide ((48 : Int) ≤ (c : Int)) = true := decide_eq_true (by omega)
    rw [e1]
    by_cases h2 : c ≤ 57
    · have e2 : decide (c ≤ 57) = true := decide_eq_true h2
      have e4 : decide ((c : Int) ≤ 57) = true := decide_eq_true (by omega)
      rw [e2]
      go_wp2_with fail
      go_ret
      exact ⟨rfl, rfl⟩
    · have e2 : decide (c ≤ 57) = false := decide_eq_false h2
      have e4 : decide ((c : Int) ≤ 57) = false := decide_eq_false (by omega)
      rw [e2]
      go_wp2_with fail
      go_ret
      exact ⟨rfl, rfl⟩
  · have e1 : decide (48 ≤ c) = false := decide_eq_false h1
    have e3 : decide ((48 : Int) ≤ (c : Int)) = false := decide_eq_false (by omega)
    rw [e1]
    go_wp2_with fail
    go_ret
    exact ⟨rfl, rfl⟩
theorem isRemark (c : Nat) (w : World) : Calls Tryd.prog 18 #[.int .u8 (c : Int)] w fun e w' => e = .returned (.bool (P.remark c)) ∧ w' = w := by
  unfold P.remark
  go_enter Tryd.func18, Tryd.ntmps18
  by_cases h : c = 10
  · subst h
    go_wp2_with fail
    go_ret
    exact ⟨rfl, rfl⟩
  · have e1 : ((c : Int) != 10) = true := by rw [bne_iff_ne]; omega
    have e2 : (c != 10) = true := by rw [bne_iff_ne]; omega
    rw [e2]
    go_wp2_with fail
    go_ret
    exact ⟨rfl, rfl⟩
end W
end Go.Proofs.YtbimjejidlohnaaDoor
