/- How many numbers a set has, and which is the least: the walks. -/
import Derived.Test.YtlbikfimfaecnaaDoorOnes
import Derived.IntWalk
namespace Go.Proofs.YtlbikfimfaecnaaDoor
open Go.RowKit Go.Sort
namespace P
/-- How many bits of word i are set. -/
def pw (s : BitVec 256) (i : Nat) : Nat := pop 64 (s.extractLsb' (64 * i) 64).toNat
theorem pw_le (s : BitVec 256) (i : Nat) : ((pw s i : Nat) : Int) ≤ 64 := by have := pop_le 64 (s.extractLsb' (64 * i) 64).toNat; unfold pw; omega
def len (s : BitVec 256) : Nat := pw s 0 + pw s 1 + pw s 2 + pw s 3
/-- The least bit of word i. -/
def cw (s : BitVec 256) (i : Nat) : Nat := Lib.ctz 64 (s.extractLsb' (64 * i) 64).toNat
theorem wrd_pos {s : BitVec 256} {i : Nat} (h : (wrd s i == 0) = false) : (s.extractLsb' (64 * i) 64).toNat ≠ 0 := by
  intro e
  unfold wrd at h
  rw [e] at h
  simp at h
theorem cw_lt {s : BitVec 256} {i : Nat} (h : (wrd s i == 0) = false) : ((cw s i : Nat) : Int) < 64 := by
  have := (Lib.lowest_bit 64 (s.extractLsb' (64 * i) 64).toNat (wrd_pos h) (s.extractLsb' (64 * i) 64).isLt).2
  unfold cw
  omega
/-- The least number of a set; -1: there is none. -/
def least (s : BitVec 256) : Int :=
  if (wrd s 0 != 0) = true then ((cw s 0 : Nat) : Int)
  else if (wrd s 1 != 0) = true then 64 + ((cw s 1 : Nat) : Int)
  else if (wrd s 2 != 0) = true then 128 + ((cw s 2 : Nat) : Int)
  else if (wrd s 3 != 0) = true then 192 + ((cw s 3 : Nat) : Int)
  else -1
end P
namespace W
theorem zeros_wrd (s : BitVec 256) (i : Nat) (w : World) (hT : Tab w) (h : (P.wrd s i == 0) = false) :
    Calls Tryd.prog 46 #[.int .u64 (P.wrd s i)] w fun e w' => e = .returned (.int .i64 ((P.cw s i : Nat) : Int)) ∧ w = w' :=
  zeros_any _ (s.extractLsb' (64 * i) 64).isLt (P.wrd_pos h) w hT
theorem ix0 (s : BitVec 256) (w : World) : (Instr.index 47 (.agg #[.int .u64 (P.wrd s 0), .int .u64 (P.wrd s 1), .int .u64 (P.wrd s 2), .int .u64 (P.wrd s 3)]) (.int .i64 0)).run Tryd.prog w = .ok (.int .u64 (P.wrd s 0)) w := by kernel_rfl
theorem ix1 (s : BitVec 256) (w : World) : (Instr.index 47 (.agg #[.int .u64 (P.wrd s 0), .int .u64 (P.wrd s 1), .int .u64 (P.wrd s 2), .int .u64 (P.wrd s 3)]) (.int .i64 1)).run Tryd.prog w = .ok (.int .u64 (P.wrd s 1)) w := by kernel_rfl
theorem ix2 (s : BitVec 256) (w : World) : (Instr.index 47 (.agg #[.int .u64 (P.wrd s 0), .int .u64 (P.wrd s 1), .int .u64 (P.wrd s 2), .int .u64 (P.wrd s 3)]) (.int .i64 2)).run Tryd.prog w = .ok (.int .u64 (P.wrd s 2)) w := by kernel_rfl
theorem ix3 (s : BitVec 256) (w : World) : (Instr.index 47 (.agg #[.int .u64 (P.wrd s 0), .int .u64 (P.wrd s 1), .int .u64 (P.wrd s 2), .int .u64 (P.wrd s 3)]) (.int .i64 3)).run Tryd.prog w = .ok (.int .u64 (P.wrd s 3)) w := by kernel_rfl

set_option maxHeartbeats 1000000 in
theorem least_k0 (s : BitVec 256) (w : World) (hT : Tab w) (n0 : (P.wrd s 0 != 0) = true) :
    Calls Tryd.prog 34 #[.agg #[.int .u64 (P.wrd s 0), .int .u64 (P.wrd s 1), .int .u64 (P.wrd s 2), .int .u64 (P.wrd s 3)]] w fun e w' => e = .returned (.int .i64 (((P.cw s 0 : Nat) : Int))) ∧ Below w.heap.size w w' := by
  have i0 := fun w => ix0 s w
  have i1 := fun w => ix1 s w
  have i2 := fun w => ix2 s w
  have i3 := fun w => ix3 s w
  have nz : (P.wrd s 0 == 0) = false := by simpa using n0
  have cl := P.cw_lt nz
  have cn : (0 : Int) ≤ ((P.cw s 0 : Nat) : Int) := Int.natCast_nonneg _
  have NZ := Lib.hid nz
  clear nz
  have HT := Lib.hid hT
  clear hT
  go_enter Tryd.func34, Tryd.ntmps34
  go_wp2
  refine wp_loop_rounds 5 ?_
  rw [rounds_succ]
  go_wp2_with (go_at_call 46; refine (zeros_wrd s 0 _ (HT.out.on ((Below.refl _ _).alloc (Nat.le_refl _) _)) NZ.out).mono ?_; rintro e w' ⟨rfl, rfl⟩)
  go_ret
  exact ⟨rfl, (Below.refl _ _).alloc (Nat.le_refl _) _⟩

set_option maxHeartbeats 1000000 in
theorem least_k1 (s : BitVec 256) (w : World) (hT : Tab w) (z0 : (P.wrd s 0 != 0) = false) (n1 : (P.wrd s 1 != 0) = true) :
    Calls Tryd.prog 34 #[.agg #[.int .u64 (P.wrd s 0), .int .u64 (P.wrd s 1), .int .u64 (P.wrd s 2), .int .u64 (P.wrd s 3)]] w fun e w' => e = .returned (.int .i64 (64 + ((P.cw s 1 : Nat) : Int))) ∧ Below w.heap.size w w' := by
  have i0 := fun w => ix0 s w
  have i1 := fun w => ix1 s w
  have i2 := fun w => ix2 s w
  have i3 := fun w => ix3 s w
  have nz : (P.wrd s 1 == 0) = false := by simpa using n1
  have cl := P.cw_lt nz
  have cn : (0 : Int) ≤ ((P.cw s 1 : Nat) : Int) := Int.natCast_nonneg _
  have NZ := Lib.hid nz
  clear nz
  have HT := Lib.hid hT
  clear hT
  go_enter Tryd.func34, Tryd.ntmps34
  go_wp2
  refine wp_loop_rounds 5 ?_
  rw [rounds_succ]
  go_wp2
  rw [rounds_succ]
  go_wp2_with (go_at_call 46; refine (zeros_wrd s 1 _ (HT.out.on ((Below.refl _ _).alloc (Nat.le_refl _) _)) NZ.out).mono ?_; rintro e w' ⟨rfl, rfl⟩)
  go_ret
  exact ⟨rfl, (Below.refl _ _).alloc (Nat.le_refl _) _⟩

set_option maxHeartbeats 1000000 in
theorem least_k2 (s : BitVec 256) (w : World) (hT : Tab w) (z0 : (P.wrd s 0 != 0) = false) (z1 : (P.wrd s 1 != 0) = false) (n2 : (P.wrd s 2 != 0) = true) :
    Calls Tryd.prog 34 #[.agg #[.int .u64 (P.wrd s 0), .int .u64 (P.wrd s 1), .int .u64 (P.wrd s 2), .int .u64 (P.wrd s 3)]] w fun e w' => e = .returned (.int .i64 (128 + ((P.cw s 2 : Nat) : Int))) ∧ Below w.heap.size w w' := by
  have i0 := fun w => ix0 s w
  have i1 := fun w => ix1 s w
  have i2 := fun w => ix2 s w
  have i3 := fun w => ix3 s w
  have nz : (P.wrd s 2 == 0) = false := by simpa using n2
  have cl := P.cw_lt nz
  have cn : (0 : Int) ≤ ((P.cw s 2 : Nat) : Int) := Int.natCast_nonneg _
  have NZ := Lib.hid nz
  clear nz
  have HT := Lib.hid hT
  clear hT
  go_enter Tryd.func34, Tryd.ntmps34
  go_wp2
  refine wp_loop_rounds 5 ?_
  rw [rounds_succ]
  go_wp2
  rw [rounds_succ]
  go_wp2
  rw [rounds_succ]
  go_wp2_with (go_at_call 46; refine (zeros_wrd s 2 _ (HT.out.on ((Below.refl _ _).alloc (Nat.le_refl _) _)) NZ.out).mono ?_; rintro e w' ⟨rfl, rfl⟩)
  go_ret
  exact ⟨rfl, (Below.refl _ _).alloc (Nat.le_refl _) _⟩

set_option maxHeartbeats 1000000 in
theorem least_k3 (s : BitVec 256) (w : World) (hT : Tab w) (z0 : (P.wrd s 0 != 0) = false) (z1 : (P.wrd s 1 != 0) = false) (z2 : (P.wrd s 2 != 0) = false) (n3 : (P.wrd s 3 != 0) = true) :
    Calls Tryd.prog 34 #[.agg #[.int .u64 (P.wrd s 0), .int .u64 (P.wrd s 1), .int .u64 (P.wrd s 2), .int .u64 (P.wrd s 3)]] w fun e w' => e = .returned (.int .i64 (192 + ((P.cw s 3 : Nat) : Int))) ∧ Below w.heap.size w w' := by
  have i0 := fun w => ix0 s w
  have i1 := fun w => ix1 s w
  have i2 := fun w => ix2 s w
  have i3 := fun w => ix3 s w
  have nz : (P.wrd s 3 == 0) = false := by simpa using n3
  have cl := P.cw_lt nz
  have cn : (0 : Int) ≤ ((P.cw s 3 : Nat) : Int) := Int.natCast_nonneg _
  have NZ := Lib.hid nz
  clear nz
  have HT := Lib.hid hT
  clear hT
  go_enter Tryd.func34, Tryd.ntmps34
  go_wp2
  refine wp_loop_rounds 5 ?_
  rw [rounds_succ]
  go_wp2
  rw [rounds_succ]
  go_wp2
  rw [rounds_succ]
  go_wp2
  rw [rounds_succ]
  go_wp2_with (go_at_call 46; refine (zeros_wrd s 3 _ (HT.out.on ((Below.refl _ _).alloc (Nat.le_refl _) _)) NZ.out).mono ?_; rintro e w' ⟨rfl, rfl⟩)
  go_ret
  exact ⟨rfl, (Below.refl _ _).alloc (Nat.le_refl _) _⟩

set_option maxHeartbeats 1000000 in
theorem least_k4 (s : BitVec 256) (w : World) (z0 : (P.wrd s 0 != 0) = false) (z1 : (P.wrd s 1 != 0) = false) (z2 : (P.wrd s 2 != 0) = false) (z3 : (P.wrd s 3 != 0) = false) :
    Calls Tryd.prog 34 #[.agg #[.int .u64 (P.wrd s 0), .int .u64 (P.wrd s 1), .int .u64 (P.wrd s 2), .int .u64 (P.wrd s 3)]] w fun e w' => e = .returned (.int .i64 (-1)) ∧ Below w.heap.size w w' := by
  have i0 := fun w => ix0 s w
  have i1 := fun w => ix1 s w
  have i2 := fun w => ix2 s w
  have i3 := fun w => ix3 s w
  go_enter Tryd.func34, Tryd.ntmps34
  go_wp2
  refine wp_loop_rounds 5 ?_
  rw [rounds_succ]
  go_wp2
  rw [rounds_succ]
  go_wp2
  rw [rounds_succ]
  go_wp2
  rw [rounds_succ]
  go_wp2
  rw [rounds_succ]
  go_wp2
  go_ret
  exact ⟨rfl, (Below.refl _ _).alloc (Nat.le_refl _) _⟩

theorem least_any (s : BitVec 256) (w : World) (hT : Tab w) :
    Calls Tryd.prog 34 #[.agg #[.int .u64 (P.wrd s 0), .int .u64 (P.wrd s 1), .int .u64 (P.wrd s 2), .int .u64 (P.wrd s 3)]] w fun e w' => e = .returned (.int .i64 (P.least s)) ∧ Below w.heap.size w w' := by
  unfold P.least
  by_cases h0 : (P.wrd s 0 != 0) = true
  · rw [if_pos h0]; exact least_k0 s w hT h0
  · rw [if_neg h0]
    have z0 := by simpa using h0
    by_cases h1 : (P.wrd s 1 != 0) = true
    · rw [if_pos h1]; exact least_k1 s w hT (by simpa using z0) h1
    · rw [if_neg h1]
      by_cases h2 : (P.wrd s 2 != 0) = true
      · rw [if_pos h2]; exact least_k2 s w hT (by simpa using z0) (by simpa using h1) h2
      · rw [if_neg h2]
        by_cases h3 : (P.wrd s 3 != 0) = true
        · rw [if_pos h3]; exact least_k3 s w hT (by simpa using z0) (by simpa using h1) (by simpa using h2) h3
        · rw [if_neg h3]
          exact least_k4 s w (by simpa using z0) (by simpa using h1) (by simpa using h2) (by simpa using h3)
end W
end Go.Proofs.YtlbikfimfaecnaaDoor
