/- The set of all numbers below n: the walk. -/
import Derived.Test.YtghdjkpndhcplaaDoorMemA
import Derived.IntWalk
namespace Go.Proofs.YtghdjkpndhcplaaDoor
open Go.RowKit Go.Sort
namespace W

set_option maxHeartbeats 1000000 in
theorem full_neg (n : Int) (w : World) (h : n < 0) :
    Calls Tryd.prog 26 #[.int .i64 n] w fun e w' => e = .returned (.agg #[.int .u64 0, .int .u64 0, .int .u64 0, .int .u64 0]) ∧ Below w.heap.size w w' := by
  go_enter Tryd.func26, Tryd.ntmps26
  go_wp2
  refine wp_loop_rounds 5 ?_
  rw [rounds_succ]
  go_wp2
  rw [rounds_succ]
  go_wp2
  rw [rounds_succ]
  go_wp2
  rw [rounds_succ]
  go_wp2
  rw [rounds_succ]
  go_wp2
  refine bodyPost_ret (v := .agg #[.int .u64 0, .int .u64 0, .int .u64 0, .int .u64 0]) (by simp [results, Tryd.results26, go_sem]) rfl ⟨rfl, ?_⟩
  exact ((Below.refl _ _).alloc (Nat.le_refl _) _).alloc (by simp) _

set_option maxHeartbeats 1000000 in
theorem full_over (n : Int) (w : World) (h : 256 < n) :
    Calls Tryd.prog 26 #[.int .i64 n] w fun e w' => e = .returned (.agg #[.int .u64 18446744073709551615, .int .u64 18446744073709551615, .int .u64 18446744073709551615, .int .u64 18446744073709551615]) ∧ Below w.heap.size w w' := by
  go_enter Tryd.func26, Tryd.ntmps26
  go_wp2
  refine wp_loop_rounds 5 ?_
  rw [rounds_succ]
  go_wp2
  rw [rounds_succ]
  go_wp2
  rw [rounds_succ]
  go_wp2
  rw [rounds_succ]
  go_wp2
  rw [rounds_succ]
  go_wp2
  refine bodyPost_ret (v := .agg #[.int .u64 18446744073709551615, .int .u64 18446744073709551615, .int .u64 18446744073709551615, .int .u64 18446744073709551615]) (by simp [results, Tryd.results26, go_sem]) rfl ⟨rfl, ?_⟩
  exact ((Below.refl _ _).alloc (Nat.le_refl _) _).alloc (by simp) _

set_option maxHeartbeats 1000000 in
theorem full_k0 (n : Int) (w : World) (h0 : 0 < n) (h1 : n < 64) :
    Calls Tryd.prog 26 #[.int .i64 n] w fun e w' => e = .returned (.agg #[.int .u64 (P.wrd (P.full n) 0), .int .u64 0, .int .u64 0, .int .u64 0]) ∧ Below w.heap.size w w' := by
  have hp := P.full_part n 0 (by decide) (by omega) (by omega)
  rw [show n - 64 * ((0 : Nat) : Int) = n by omega] at hp
  go_enter Tryd.func26, Tryd.ntmps26
  go_wp2
  refine wp_loop_rounds 5 ?_
  rw [rounds_succ]
  go_wp2
  rw [rounds_succ]
  go_wp2
  rw [rounds_succ]
  go_wp2
  rw [rounds_succ]
  go_wp2
  rw [rounds_succ]
  go_wp2
  refine bodyPost_ret (v := .agg #[.int .u64 (P.wrd (P.full n) 0), .int .u64 0, .int .u64 0, .int .u64 0]) (by simp [results, Tryd.results26, go_sem]) rfl ⟨rfl, ?_⟩
  exact ((Below.refl _ _).alloc (Nat.le_refl _) _).alloc (by simp) _

set_option maxHeartbeats 1000000 in
theorem full_k1 (n : Int) (w : World) (h0 : 64 < n) (h1 : n < 128) :
    Calls Tryd.prog 26 #[.int .i64 n] w fun e w' => e = .returned (.agg #[.int .u64 18446744073709551615, .int .u64 (P.wrd (P.full n) 1), .int .u64 0, .int .u64 0]) ∧ Below w.heap.size w w' := by
  have hp := P.full_part n 1 (by decide) (by omega) (by omega)
  rw [show n - 64 * ((1 : Nat) : Int) = n - 64 by omega] at hp
  go_enter Tryd.func26, Tryd.ntmps26
  go_wp2
  refine wp_loop_rounds 5 ?_
  rw [rounds_succ]
  go_wp2
  rw [rounds_succ]
  go_wp2
  rw [rounds_succ]
  go_wp2
  rw [rounds_succ]
  go_wp2
  rw [rounds_succ]
  go_wp2
  refine bodyPost_ret (v := .agg #[.int .u64 18446744073709551615, .int .u64 (P.wrd (P.full n) 1), .int .u64 0, .int .u64 0]) (by simp [results, Tryd.results26, go_sem]) rfl ⟨rfl, ?_⟩
  exact ((Below.refl _ _).alloc (Nat.le_refl _) _).alloc (by simp) _

set_option maxHeartbeats 1000000 in
theorem full_k2 (n : Int) (w : World) (h0 : 128 < n) (h1 : n < 192) :
    Calls Tryd.prog 26 #[.int .i64 n] w fun e w' => e = .returned (.agg #[.int .u64 18446744073709551615, .int .u64 18446744073709551615, .int .u64 (P.wrd (P.full n) 2), .int .u64 0]) ∧ Below w.heap.size w w' := by
  have hp := P.full_part n 2 (by decide) (by omega) (by omega)
  rw [show n - 64 * ((2 : Nat) : Int) = n - 128 by omega] at hp
  go_enter Tryd.func26, Tryd.ntmps26
  go_wp2
  refine wp_loop_rounds 5 ?_
  rw [rounds_succ]
  go_wp2
  rw [rounds_succ]
  go_wp2
  rw [rounds_succ]
  go_wp2
  rw [rounds_succ]
  go_wp2
  rw [rounds_succ]
  go_wp2
  refine bodyPost_ret (v := .agg #[.int .u64 18446744073709551615, .int .u64 18446744073709551615, .int .u64 (P.wrd (P.full n) 2), .int .u64 0]) (by simp [results, Tryd.results26, go_sem]) rfl ⟨rfl, ?_⟩
  exact ((Below.refl _ _).alloc (Nat.le_refl _) _).alloc (by simp) _

set_option maxHeartbeats 1000000 in
theorem full_k3 (n : Int) (w : World) (h0 : 192 < n) (h1 : n < 256) :
    Calls Tryd.prog 26 #[.int .i64 n] w fun e w' => e = .returned (.agg #[.int .u64 18446744073709551615, .int .u64 18446744073709551615, .int .u64 18446744073709551615, .int .u64 (P.wrd (P.full n) 3)]) ∧ Below w.heap.size w w' := by
  have hp := P.full_part n 3 (by decide) (by omega) (by omega)
  rw [show n - 64 * ((3 : Nat) : Int) = n - 192 by omega] at hp
  go_enter Tryd.func26, Tryd.ntmps26
  go_wp2
  refine wp_loop_rounds 5 ?_
  rw [rounds_succ]
  go_wp2
  rw [rounds_succ]
  go_wp2
  rw [rounds_succ]
  go_wp2
  rw [rounds_succ]
  go_wp2
  rw [rounds_succ]
  go_wp2
  refine bodyPost_ret (v := .agg #[.int .u64 18446744073709551615, .int .u64 18446744073709551615, .int .u64 18446744073709551615, .int .u64 (P.wrd (P.full n) 3)]) (by simp [results, Tryd.results26, go_sem]) rfl ⟨rfl, ?_⟩
  exact ((Below.refl _ _).alloc (Nat.le_refl _) _).alloc (by simp) _

set_option maxHeartbeats 1000000 in
theorem full_e0 (n : Int) (w : World) (h : n = 0) :
    Calls Tryd.prog 26 #[.int .i64 n] w fun e w' => e = .returned (.agg #[.int .u64 0, .int .u64 0, .int .u64 0, .int .u64 0]) ∧ Below w.heap.size w w' := by
  subst h
  go_enter Tryd.func26, Tryd.ntmps26
  go_wp2
  refine wp_loop_rounds 5 ?_
  rw [rounds_succ]
  go_wp2
  rw [rounds_succ]
  go_wp2
  rw [rounds_succ]
  go_wp2
  rw [rounds_succ]
  go_wp2
  rw [rounds_succ]
  go_wp2
  refine bodyPost_ret (v := .agg #[.int .u64 0, .int .u64 0, .int .u64 0, .int .u64 0]) (by simp [results, Tryd.results26, go_sem]) rfl ⟨rfl, ?_⟩
  exact ((Below.refl _ _).alloc (Nat.le_refl _) _).alloc (by simp) _

set_option maxHeartbeats 1000000 in
theorem full_e1 (n : Int) (w : World) (h : n = 64) :
    Calls Tryd.prog 26 #[.int .i64 n] w fun e w' => e = .returned (.agg #[.int .u64 18446744073709551615, .int .u64 0, .int .u64 0, .int .u64 0]) ∧ Below w.heap.size w w' := by
  subst h
  go_enter Tryd.func26, Tryd.ntmps26
  go_wp2
  refine wp_loop_rounds 5 ?_
  rw [rounds_succ]
  go_wp2
  rw [rounds_succ]
  go_wp2
  rw [rounds_succ]
  go_wp2
  rw [rounds_succ]
  go_wp2
  rw [rounds_succ]
  go_wp2
  refine bodyPost_ret (v := .agg #[.int .u64 18446744073709551615, .int .u64 0, .int .u64 0, .int .u64 0]) (by simp [results, Tryd.results26, go_sem]) rfl ⟨rfl, ?_⟩
  exact ((Below.refl _ _).alloc (Nat.le_refl _) _).alloc (by simp) _

set_option maxHeartbeats 1000000 in
theorem full_e2 (n : Int) (w : World) (h : n = 128) :
    Calls Tryd.prog 26 #[.int .i64 n] w fun e w' => e = .returned (.agg #[.int .u64 18446744073709551615, .int .u64 18446744073709551615, .int .u64 0, .int .u64 0]) ∧ Below w.heap.size w w' := by
  subst h
  go_enter Tryd.func26, Tryd.ntmps26
  go_wp2
  refine wp_loop_rounds 5 ?_
  rw [rounds_succ]
  go_wp2
  rw [rounds_succ]
  go_wp2
  rw [rounds_succ]
  go_wp2
  rw [rounds_succ]
  go_wp2
  rw [rounds_succ]
  go_wp2
  refine bodyPost_ret (v := .agg #[.int .u64 18446744073709551615, .int .u64 18446744073709551615, .int .u64 0, .int .u64 0]) (by simp [results, Tryd.results26, go_sem]) rfl ⟨rfl, ?_⟩
  exact ((Below.refl _ _).alloc (Nat.le_refl _) _).alloc (by simp) _

set_option maxHeartbeats 1000000 in
theorem full_e3 (n : Int) (w : World) (h : n = 192) :
    Calls Tryd.prog 26 #[.int .i64 n] w fun e w' => e = .returned (.agg #[.int .u64 18446744073709551615, .int .u64 18446744073709551615, .int .u64 18446744073709551615, .int .u64 0]) ∧ Below w.heap.size w w' := by
  subst h
  go_enter Tryd.func26, Tryd.ntmps26
  go_wp2
  refine wp_loop_rounds 5 ?_
  rw [rounds_succ]
  go_wp2
  rw [rounds_succ]
  go_wp2
  rw [rounds_succ]
  go_wp2
  rw [rounds_succ]
  go_wp2
  rw [rounds_succ]
  go_wp2
  refine bodyPost_ret (v := .agg #[.int .u64 18446744073709551615, .int .u64 18446744073709551615, .int .u64 18446744073709551615, .int .u64 0]) (by simp [results, Tryd.results26, go_sem]) rfl ⟨rfl, ?_⟩
  exact ((Below.refl _ _).alloc (Nat.le_refl _) _).alloc (by simp) _

set_option maxHeartbeats 1000000 in
theorem full_e4 (n : Int) (w : World) (h : n = 256) :
    Calls Tryd.prog 26 #[.int .i64 n] w fun e w' => e = .returned (.agg #[.int .u64 18446744073709551615, .int .u64 18446744073709551615, .int .u64 18446744073709551615, .int .u64 18446744073709551615]) ∧ Below w.heap.size w w' := by
  subst h
  go_enter Tryd.func26, Tryd.ntmps26
  go_wp2
  refine wp_loop_rounds 5 ?_
  rw [rounds_succ]
  go_wp2
  rw [rounds_succ]
  go_wp2
  rw [rounds_succ]
  go_wp2
  rw [rounds_succ]
  go_wp2
  rw [rounds_succ]
  go_wp2
  refine bodyPost_ret (v := .agg #[.int .u64 18446744073709551615, .int .u64 18446744073709551615, .int .u64 18446744073709551615, .int .u64 18446744073709551615]) (by simp [results, Tryd.results26, go_sem]) rfl ⟨rfl, ?_⟩
  exact ((Below.refl _ _).alloc (Nat.le_refl _) _).alloc (by simp) _

theorem full_any (n : Int) (w : World) :
    Calls Tryd.prog 26 #[.int .i64 n] w fun e w' => e = .returned (.agg #[.int .u64 (P.wrd (P.full n) 0), .int .u64 (P.wrd (P.full n) 1), .int .u64 (P.wrd (P.full n) 2), .int .u64 (P.wrd (P.full n) 3)]) ∧ Below w.heap.size w w' := by
  rcases (by omega : n < 0 ∨ 256 < n ∨ (0 < n ∧ n < 64) ∨ (64 < n ∧ n < 128) ∨ (128 < n ∧ n < 192) ∨ (192 < n ∧ n < 256) ∨ n = 0 ∨ n = 64 ∨ n = 128 ∨ n = 192 ∨ n = 256) with h | h | h | h | h | h | h | h | h | h | h
  · exact (full_neg n w h).mono fun e w' ⟨he, hb⟩ => ⟨by rw [he, P.full_none n 0 (by omega), P.full_none n 1 (by omega), P.full_none n 2 (by omega), P.full_none n 3 (by omega)], hb⟩
  · exact (full_over n w h).mono fun e w' ⟨he, hb⟩ => ⟨by rw [he, P.full_ones n 0 (by decide) (by omega), P.full_ones n 1 (by decide) (by omega), P.full_ones n 2 (by decide) (by omega), P.full_ones n 3 (by decide) (by omega)], hb⟩
  · exact (full_k0 n w h.1 h.2).mono fun e w' ⟨he, hb⟩ => ⟨by rw [he, P.full_none n 1 (by omega), P.full_none n 2 (by omega), P.full_none n 3 (by omega)], hb⟩
  · exact (full_k1 n w h.1 h.2).mono fun e w' ⟨he, hb⟩ => ⟨by rw [he, P.full_ones n 0 (by decide) (by omega), P.full_none n 2 (by omega), P.full_none n 3 (by omega)], hb⟩
  · exact (full_k2 n w h.1 h.2).mono fun e w' ⟨he, hb⟩ => ⟨by rw [he, P.full_ones n 0 (by decide) (by omega), P.full_ones n 1 (by decide) (by omega), P.full_none n 3 (by omega)], hb⟩
  · exact (full_k3 n w h.1 h.2).mono fun e w' ⟨he, hb⟩ => ⟨by rw [he, P.full_ones n 0 (by decide) (by omega), P.full_ones n 1 (by decide) (by omega), P.full_ones n 2 (by decide) (by omega)], hb⟩
  · exact (full_e0 n w h).mono fun e w' ⟨he, hb⟩ => ⟨by rw [he, P.full_none n 0 (by omega), P.full_none n 1 (by omega), P.full_none n 2 (by omega), P.full_none n 3 (by omega)], hb⟩
  · exact (full_e1 n w h).mono fun e w' ⟨he, hb⟩ => ⟨by rw [he, P.full_ones n 0 (by decide) (by omega), P.full_none n 1 (by omega), P.full_none n 2 (by omega), P.full_none n 3 (by omega)], hb⟩
  · exact (full_e2 n w h).mono fun e w' ⟨he, hb⟩ => ⟨by rw [he, P.full_ones n 0 (by decide) (by omega), P.full_ones n 1 (by decide) (by omega), P.full_none n 2 (by omega), P.full_none n 3 (by omega)], hb⟩
  · exact (full_e3 n w h).mono fun e w' ⟨he, hb⟩ => ⟨by rw [he, P.full_ones n 0 (by decide) (by omega), P.full_ones n 1 (by decide) (by omega), P.full_ones n 2 (by decide) (by omega), P.full_none n 3 (by omega)], hb⟩
  · exact (full_e4 n w h).mono fun e w' ⟨he, hb⟩ => ⟨by rw [he, P.full_ones n 0 (by decide) (by omega), P.full_ones n 1 (by decide) (by omega), P.full_ones n 2 (by decide) (by omega), P.full_ones n 3 (by decide) (by omega)], hb⟩
end W
end Go.Proofs.YtghdjkpndhcplaaDoor
