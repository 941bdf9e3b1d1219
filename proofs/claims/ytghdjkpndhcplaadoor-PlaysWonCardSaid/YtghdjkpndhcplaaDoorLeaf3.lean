/- How many numbers a set has, and which is the least: the walks. -/
import Derived.Test.YtghdjkpndhcplaaDoorOnes
import Derived.IntWalk
namespace Go.Proofs.YtghdjkpndhcplaaDoor
open Go.RowKit Go.Sort
namespace P
/-- How many bits of word i are set. -/
def pw (s : BitVec 256) (i : Nat) : Nat := pop 64 (s.extractLsb' (64 * i) 64).toNat
theorem pw_le (s : BitVec 256) (i : Nat) : ((pw s i : Nat) : Int) ≤ 64 := by have := pop_le 64 (s.extractLsb' (64 * i) 64).toNat; unfold pw; omega
def len (s : BitVec 256) : Nat := pw s 0 + pw s 1 + pw s 2 + pw s 3
/-- The least bit of word i. -/
def cw (s : BitVec 256) (i : Nat) : Nat := Lib.ctz 64 (s.extractLsb' (64 * i) 64).toNat
theorem wrd_pos {s : BitVec 256} {i : Nat} (h : (wrd s i == 0) = false) : (s.extractLsb' (64 * i) 64).toNat ≠ 0 := by
  intro e
  unfold wrd at h
  rw [e] at h
  simp at h
theorem cw_lt {s : BitVec 256} {i : Nat} (h : (wrd s i == 0) = false) : ((cw s i : Nat) : Int) < 64 := by
  have := (Lib.lowest_bit 64 (s.extractLsb' (64 * i) 64).toNat (wrd_pos h) (s.extractLsb' (64 * i) 64).isLt).2
  unfold cw
  omega
/-- The least number of a set; -1: there is none. -/
def least (s : BitVec 256) : Int :=
  if (wrd s 0 != 0) = true then ((cw s 0 : Nat) : Int)
  else if (wrd s 1 != 0) = true then 64 + ((cw s 1 : Nat) : Int)
  else if (wrd s 2 != 0) = true then 128 + ((cw s 2 : Nat) : Int)
  else if (wrd s 3 != 0) = true then 192 + ((cw s 3 : Nat) : Int)
  else -1
end P
namespace W
theorem zeros_wrd (s : BitVec 256) (i : Nat) (w : World) (hT : Tab w) (h : (P.wrd s i == 0) = false) :
    Calls Tryd.prog 27 #[.int .u64 (P.wrd s i)] w fun e w' => e = .returned (.int .i64 ((P.cw s i : Nat) : Int)) ∧ w = w' :=
  zeros_any _ (s.extractLsb' (64 * i) 64).isLt (P.wrd_pos h) w hT
theorem ix0 (s : BitVec 256) (w : World) : (Instr.index 37 (.agg #[.int .u64 (P.wrd s 0), .int .u64 (P.wrd s 1), .int .u64 (P.wrd s 2), .int .u64 (P.wrd s 3)]) (.int .i64 0)).run Tryd.prog w = .ok (.int .u64 (P.wrd s 0)) w := by kernel_rfl
theorem ix1 (s : BitVec 256) (w : World) : (Instr.index 37 (.agg #[.int .u64 (P.wrd s 0), .int .u64 (P.wrd s 1), .int .u64 (P.wrd s 2), .int .u64 (P.wrd s 3)]) (.int .i64 1)).run Tryd.prog w = .ok (.int .u64 (P.wrd s 1)) w := by kernel_rfl
theorem ix2 (s : BitVec 256) (w : World) : (Instr.index 37 (.agg #[.int .u64 (P.wrd s 0), .int .u64 (P.wrd s 1), .int .u64 (P.wrd s 2), .int .u64 (P.wrd s 3)]) (.int .i64 2)).run Tryd.prog w = .ok (.int .u64 (P.wrd s 2)) w := by kernel_rfl
theorem ix3 (s : BitVec 256) (w : World) : (Instr.index 37 (.agg #[.int .u64 (P.wrd s 0), .int .u64 (P.wrd s 1), .int .u64 (P.wrd s 2), .int .u64 (P.wrd s 3)]) (.int .i64 3)).run Tryd.prog w = .ok (.int .u64 (P.wrd s 3)) w := by kernel_rfl

end W
end Go.Proofs.YtghdjkpndhcplaaDoor
