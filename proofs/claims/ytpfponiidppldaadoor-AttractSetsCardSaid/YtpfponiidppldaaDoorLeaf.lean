/- The walks of the program's functions on sets: each returns the words that it should, whatever the memory. -/
import Derived.Test.YtpfponiidppldaaDoorChecked
import Derived.Test.YtpfponiidppldaaDoorPure
import Derived.WalkKit
import Derived.WalkLawsBesides
import Derived.WalkSpells
import Derived.Outline
import Derived.RegionTactic
import Derived.ChangeAlike
import Derived.LoopTactic
import Derived.Lib.QuietBelow
import Derived.BigQuiet
import Derived.Lib.Hide
namespace Go.Proofs.YtpfponiidppldaaDoor
open Go.RowKit Go.Sort
namespace W

theorem fits_yes (n : Int) (w : World) (h0 : 0 ≤ n) (h1 : n < 256) :
    Calls Tryd.prog 36 #[.int .i64 n] w fun e w' => e = .returned (.bool true) ∧ w = w' := by
  go_enter Tryd.func36, Tryd.ntmps36
  go_wp2
  go_ret
  exact ⟨rfl, rfl⟩
theorem fits_no (n : Int) (w : World) (h : n < 0 ∨ 256 ≤ n) :
    Calls Tryd.prog 36 #[.int .i64 n] w fun e w' => e = .returned (.bool false) ∧ w = w' := by
  rcases h with h | h
  · have h' : ¬ 0 ≤ n := by omega
    go_enter Tryd.func36, Tryd.ntmps36
    go_wp2
    go_ret
    exact ⟨rfl, rfl⟩
  · have h' : ¬ n < 256 := by omega
    have h'' : 0 ≤ n := by omega
    go_enter Tryd.func36, Tryd.ntmps36
    go_wp2
    go_ret
    exact ⟨rfl, rfl⟩

set_option maxHeartbeats 1000000 in
theorem or_any (s t : BitVec 256) (w : World) :
    Calls Tryd.prog 25 #[.agg #[.int .u64 (P.wrd s 0), .int .u64 (P.wrd s 1), .int .u64 (P.wrd s 2), .int .u64 (P.wrd s 3)], .agg #[.int .u64 (P.wrd t 0), .int .u64 (P.wrd t 1), .int .u64 (P.wrd t 2), .int .u64 (P.wrd t 3)]] w fun e w' => e = .returned (.agg #[.int .u64 (P.wrd (s ||| t) 0), .int .u64 (P.wrd (s ||| t) 1), .int .u64 (P.wrd (s ||| t) 2), .int .u64 (P.wrd (s ||| t) 3)]) ∧ Below w.heap.size w w' := by
  have hl := fun i => P.wrd_or s t i
  go_enter Tryd.func25, Tryd.ntmps25
  go_wp2
  refine wp_loop_rounds 5 ?_
  rw [rounds_succ]
  go_wp2
  go_region
  go_wp2
  rw [rounds_succ]
  go_wp2
  go_region
  go_wp2
  rw [rounds_succ]
  go_wp2
  go_region
  go_wp2
  rw [rounds_succ]
  go_wp2
  go_region
  go_wp2
  rw [rounds_succ]
  go_wp2
  refine bodyPost_ret (v := .agg #[.int .u64 (P.wrd (s ||| t) 0), .int .u64 (P.wrd (s ||| t) 1), .int .u64 (P.wrd (s ||| t) 2), .int .u64 (P.wrd (s ||| t) 3)]) (by simp [results, Tryd.results25, go_sem]) rfl ⟨rfl, ?_⟩
  exact ((((((((Below.refl _ _).alloc (Nat.le_refl _) _).alloc (by simp) _).alloc (by simp; omega) _).drew).drew).drew).drew)

set_option maxHeartbeats 1000000 in
theorem and_any (s t : BitVec 256) (w : World) :
    Calls Tryd.prog 19 #[.agg #[.int .u64 (P.wrd s 0), .int .u64 (P.wrd s 1), .int .u64 (P.wrd s 2), .int .u64 (P.wrd s 3)], .agg #[.int .u64 (P.wrd t 0), .int .u64 (P.wrd t 1), .int .u64 (P.wrd t 2), .int .u64 (P.wrd t 3)]] w fun e w' => e = .returned (.agg #[.int .u64 (P.wrd (s &&& t) 0), .int .u64 (P.wrd (s &&& t) 1), .int .u64 (P.wrd (s &&& t) 2), .int .u64 (P.wrd (s &&& t) 3)]) ∧ Below w.heap.size w w' := by
  have hl := fun i => P.wrd_and s t i
  go_enter Tryd.func19, Tryd.ntmps19
  go_wp2
  refine wp_loop_rounds 5 ?_
  rw [rounds_succ]
  go_wp2
  go_region
  go_wp2
  rw [rounds_succ]
  go_wp2
  go_region
  go_wp2
  rw [rounds_succ]
  go_wp2
  go_region
  go_wp2
  rw [rounds_succ]
  go_wp2
  go_region
  go_wp2
  rw [rounds_succ]
  go_wp2
  refine bodyPost_ret (v := .agg #[.int .u64 (P.wrd (s &&& t) 0), .int .u64 (P.wrd (s &&& t) 1), .int .u64 (P.wrd (s &&& t) 2), .int .u64 (P.wrd (s &&& t) 3)]) (by simp [results, Tryd.results19, go_sem]) rfl ⟨rfl, ?_⟩
  exact ((((((((Below.refl _ _).alloc (Nat.le_refl _) _).alloc (by simp) _).alloc (by simp; omega) _).drew).drew).drew).drew)

set_option maxHeartbeats 1000000 in
theorem minus_any (s t : BitVec 256) (w : World) :
    Calls Tryd.prog 22 #[.agg #[.int .u64 (P.wrd s 0), .int .u64 (P.wrd s 1), .int .u64 (P.wrd s 2), .int .u64 (P.wrd s 3)], .agg #[.int .u64 (P.wrd t 0), .int .u64 (P.wrd t 1), .int .u64 (P.wrd t 2), .int .u64 (P.wrd t 3)]] w fun e w' => e = .returned (.agg #[.int .u64 (P.wrd (s &&& ~~~t) 0), .int .u64 (P.wrd (s &&& ~~~t) 1), .int .u64 (P.wrd (s &&& ~~~t) 2), .int .u64 (P.wrd (s &&& ~~~t) 3)]) ∧ Below w.heap.size w w' := by
  have h0 := P.wrd_minus s t 0 (by decide)
  have h1 := P.wrd_minus s t 1 (by decide)
  have h2 := P.wrd_minus s t 2 (by decide)
  have h3 := P.wrd_minus s t 3 (by decide)
  go_enter Tryd.func22, Tryd.ntmps22
  go_wp2
  refine wp_loop_rounds 5 ?_
  rw [rounds_succ]
  go_wp2
  go_region
  go_wp2
  rw [rounds_succ]
  go_wp2
  go_region
  go_wp2
  rw [rounds_succ]
  go_wp2
  go_region
  go_wp2
  rw [rounds_succ]
  go_wp2
  go_region
  go_wp2
  rw [rounds_succ]
  go_wp2
  refine bodyPost_ret (v := .agg #[.int .u64 (P.wrd (s &&& ~~~t) 0), .int .u64 (P.wrd (s &&& ~~~t) 1), .int .u64 (P.wrd (s &&& ~~~t) 2), .int .u64 (P.wrd (s &&& ~~~t) 3)]) (by simp [results, Tryd.results22, go_sem]) rfl ⟨rfl, ?_⟩
  exact ((((((((Below.refl _ _).alloc (Nat.le_refl _) _).alloc (by simp) _).alloc (by simp; omega) _).drew).drew).drew).drew)

set_option maxHeartbeats 1000000 in
theorem has_k0 (s : BitVec 256) (n : Int) (w : World) (h0 : 0 ≤ n) (h1 : n < 256) (hk : n / 64 = 0) :
    Calls Tryd.prog 23 #[.agg #[.int .u64 (P.wrd s 0), .int .u64 (P.wrd s 1), .int .u64 (P.wrd s 2), .int .u64 (P.wrd s 3)], .int .i64 n] w fun e w' => e = .returned (.bool (P.has s n)) ∧ Below w.heap.size w w' := by
  have hm0 : 0 ≤ n % 64 := by omega
  have hm1 : n % 64 < 64 := by omega
  obtain ⟨hb0, _⟩ := P.wrd_bd s 0
  have hw := P.has_word s n 0 h0 hk
  go_enter Tryd.func23, Tryd.ntmps23
  go_wp2_with (go_at_call 36; refine (fits_yes _ _ (by omega) (by omega)).mono ?_; rintro e w' ⟨rfl, rfl⟩)
  go_ret
  exact ⟨rfl, (Below.refl _ _).alloc (Nat.le_refl _) _⟩

set_option maxHeartbeats 1000000 in
theorem has_k1 (s : BitVec 256) (n : Int) (w : World) (h0 : 0 ≤ n) (h1 : n < 256) (hk : n / 64 = 1) :
    Calls Tryd.prog 23 #[.agg #[.int .u64 (P.wrd s 0), .int .u64 (P.wrd s 1), .int .u64 (P.wrd s 2), .int .u64 (P.wrd s 3)], .int .i64 n] w fun e w' => e = .returned (.bool (P.has s n)) ∧ Below w.heap.size w w' := by
  have hm0 : 0 ≤ n % 64 := by omega
  have hm1 : n % 64 < 64 := by omega
  obtain ⟨hb0, _⟩ := P.wrd_bd s 1
  have hw := P.has_word s n 1 h0 hk
  go_enter Tryd.func23, Tryd.ntmps23
  go_wp2_with (go_at_call 36; refine (fits_yes _ _ (by omega) (by omega)).mono ?_; rintro e w' ⟨rfl, rfl⟩)
  go_ret
  exact ⟨rfl, (Below.refl _ _).alloc (Nat.le_refl _) _⟩

set_option maxHeartbeats 1000000 in
theorem has_k2 (s : BitVec 256) (n : Int) (w : World) (h0 : 0 ≤ n) (h1 : n < 256) (hk : n / 64 = 2) :
    Calls Tryd.prog 23 #[.agg #[.int .u64 (P.wrd s 0), .int .u64 (P.wrd s 1), .int .u64 (P.wrd s 2), .int .u64 (P.wrd s 3)], .int .i64 n] w fun e w' => e = .returned (.bool (P.has s n)) ∧ Below w.heap.size w w' := by
  have hm0 : 0 ≤ n % 64 := by omega
  have hm1 : n % 64 < 64 := by omega
  obtain ⟨hb0, _⟩ := P.wrd_bd s 2
  have hw := P.has_word s n 2 h0 hk
  go_enter Tryd.func23, Tryd.ntmps23
  go_wp2_with (go_at_call 36; refine (fits_yes _ _ (by omega) (by omega)).mono ?_; rintro e w' ⟨rfl, rfl⟩)
  go_ret
  exact ⟨rfl, (Below.refl _ _).alloc (Nat.le_refl _) _⟩

set_option maxHeartbeats 1000000 in
theorem has_k3 (s : BitVec 256) (n : Int) (w : World) (h0 : 0 ≤ n) (h1 : n < 256) (hk : n / 64 = 3) :
    Calls Tryd.prog 23 #[.agg #[.int .u64 (P.wrd s 0), .int .u64 (P.wrd s 1), .int .u64 (P.wrd s 2), .int .u64 (P.wrd s 3)], .int .i64 n] w fun e w' => e = .returned (.bool (P.has s n)) ∧ Below w.heap.size w w' := by
  have hm0 : 0 ≤ n % 64 := by omega
  have hm1 : n % 64 < 64 := by omega
  obtain ⟨hb0, _⟩ := P.wrd_bd s 3
  have hw := P.has_word s n 3 h0 hk
  go_enter Tryd.func23, Tryd.ntmps23
  go_wp2_with (go_at_call 36; refine (fits_yes _ _ (by omega) (by omega)).mono ?_; rintro e w' ⟨rfl, rfl⟩)
  go_ret
  exact ⟨rfl, (Below.refl _ _).alloc (Nat.le_refl _) _⟩

theorem has_any (s : BitVec 256) (n : Int) (w : World) :
    Calls Tryd.prog 23 #[.agg #[.int .u64 (P.wrd s 0), .int .u64 (P.wrd s 1), .int .u64 (P.wrd s 2), .int .u64 (P.wrd s 3)], .int .i64 n] w fun e w' => e = .returned (.bool (P.has s n)) ∧ Below w.heap.size w w' := by
  by_cases h : 0 ≤ n ∧ n < 256
  · obtain ⟨h0, h1⟩ := h
    rcases (by omega : n / 64 = 0 ∨ n / 64 = 1 ∨ n / 64 = 2 ∨ n / 64 = 3) with hk | hk | hk | hk
    · exact has_k0 s n w h0 h1 hk
    · exact has_k1 s n w h0 h1 hk
    · exact has_k2 s n w h0 h1 hk
    · exact has_k3 s n w h0 h1 hk
  · have hf : P.has s n = false := P.has_out s (by omega)
    have HF := Lib.hid hf
    clear hf
    go_enter Tryd.func23, Tryd.ntmps23
    go_wp2_with (go_at_call 36; refine (fits_no _ _ (by omega)).mono ?_; rintro e w' ⟨rfl, rfl⟩)
    go_ret
    exact ⟨by rw [HF.out]; rfl, (Below.refl _ _).alloc (Nat.le_refl _) _⟩

set_option maxHeartbeats 1000000 in
theorem with_k0 (s : BitVec 256) (n : Int) (w : World) (h0 : 0 ≤ n) (h1 : n < 256) (hk : n / 64 = 0) :
    Calls Tryd.prog 28 #[.agg #[.int .u64 (P.wrd s 0), .int .u64 (P.wrd s 1), .int .u64 (P.wrd s 2), .int .u64 (P.wrd s 3)], .int .i64 n] w fun e w' => e = .returned (.agg #[.int .u64 (P.wrd (s ||| P.bit n) 0), .int .u64 (P.wrd s 1), .int .u64 (P.wrd s 2), .int .u64 (P.wrd s 3)]) ∧ Below w.heap.size w w' := by
  have hm0 : 0 ≤ n % 64 := by omega
  have hm1 : n % 64 < 64 := by omega
  have hb := P.wrd_bit n 0 h0 h1 hk
  have hc := P.wrd_or s (P.bit n) 0
  go_enter Tryd.func28, Tryd.ntmps28
  go_wp2_with (go_at_call 36; refine (fits_yes _ _ (by omega) (by omega)).mono ?_; rintro e w' ⟨rfl, rfl⟩)
  go_region
  go_wp2
  refine bodyPost_ret (v := .agg #[.int .u64 (P.wrd (s ||| P.bit n) 0), .int .u64 (P.wrd s 1), .int .u64 (P.wrd s 2), .int .u64 (P.wrd s 3)]) (by simp [results, Tryd.results28, go_sem]) rfl ⟨rfl, ?_⟩
  exact (((Below.refl _ _).alloc (Nat.le_refl _) _).alloc (by simp) _).drew

set_option maxHeartbeats 1000000 in
theorem with_k1 (s : BitVec 256) (n : Int) (w : World) (h0 : 0 ≤ n) (h1 : n < 256) (hk : n / 64 = 1) :
    Calls Tryd.prog 28 #[.agg #[.int .u64 (P.wrd s 0), .int .u64 (P.wrd s 1), .int .u64 (P.wrd s 2), .int .u64 (P.wrd s 3)], .int .i64 n] w fun e w' => e = .returned (.agg #[.int .u64 (P.wrd s 0), .int .u64 (P.wrd (s ||| P.bit n) 1), .int .u64 (P.wrd s 2), .int .u64 (P.wrd s 3)]) ∧ Below w.heap.size w w' := by
  have hm0 : 0 ≤ n % 64 := by omega
  have hm1 : n % 64 < 64 := by omega
  have hb := P.wrd_bit n 1 h0 h1 hk
  have hc := P.wrd_or s (P.bit n) 1
  go_enter Tryd.func28, Tryd.ntmps28
  go_wp2_with (go_at_call 36; refine (fits_yes _ _ (by omega) (by omega)).mono ?_; rintro e w' ⟨rfl, rfl⟩)
  go_region
  go_wp2
  refine bodyPost_ret (v := .agg #[.int .u64 (P.wrd s 0), .int .u64 (P.wrd (s ||| P.bit n) 1), .int .u64 (P.wrd s 2), .int .u64 (P.wrd s 3)]) (by simp [results, Tryd.results28, go_sem]) rfl ⟨rfl, ?_⟩
  exact (((Below.refl _ _).alloc (Nat.le_refl _) _).alloc (by simp) _).drew

set_option maxHeartbeats 1000000 in
theorem with_k2 (s : BitVec 256) (n : Int) (w : World) (h0 : 0 ≤ n) (h1 : n < 256) (hk : n / 64 = 2) :
    Calls Tryd.prog 28 #[.agg #[.int .u64 (P.wrd s 0), .int .u64 (P.wrd s 1), .int .u64 (P.wrd s 2), .int .u64 (P.wrd s 3)], .int .i64 n] w fun e w' => e = .returned (.agg #[.int .u64 (P.wrd s 0), .int .u64 (P.wrd s 1), .int .u64 (P.wrd (s ||| P.bit n) 2), .int .u64 (P.wrd s 3)]) ∧ Below w.heap.size w w' := by
  have hm0 : 0 ≤ n % 64 := by omega
  have hm1 : n % 64 < 64 := by omega
  have hb := P.wrd_bit n 2 h0 h1 hk
  have hc := P.wrd_or s (P.bit n) 2
  go_enter Tryd.func28, Tryd.ntmps28
  go_wp2_with (go_at_call 36; refine (fits_yes _ _ (by omega) (by omega)).mono ?_; rintro e w' ⟨rfl, rfl⟩)
  go_region
  go_wp2
  refine bodyPost_ret (v := .agg #[.int .u64 (P.wrd s 0), .int .u64 (P.wrd s 1), .int .u64 (P.wrd (s ||| P.bit n) 2), .int .u64 (P.wrd s 3)]) (by simp [results, Tryd.results28, go_sem]) rfl ⟨rfl, ?_⟩
  exact (((Below.refl _ _).alloc (Nat.le_refl _) _).alloc (by simp) _).drew

set_option maxHeartbeats 1000000 in
theorem with_k3 (s : BitVec 256) (n : Int) (w : World) (h0 : 0 ≤ n) (h1 : n < 256) (hk : n / 64 = 3) :
    Calls Tryd.prog 28 #[.agg #[.int .u64 (P.wrd s 0), .int .u64 (P.wrd s 1), .int .u64 (P.wrd s 2), .int .u64 (P.wrd s 3)], .int .i64 n] w fun e w' => e = .returned (.agg #[.int .u64 (P.wrd s 0), .int .u64 (P.wrd s 1), .int .u64 (P.wrd s 2), .int .u64 (P.wrd (s ||| P.bit n) 3)]) ∧ Below w.heap.size w w' := by
  have hm0 : 0 ≤ n % 64 := by omega
  have hm1 : n % 64 < 64 := by omega
  have hb := P.wrd_bit n 3 h0 h1 hk
  have hc := P.wrd_or s (P.bit n) 3
  go_enter Tryd.func28, Tryd.ntmps28
  go_wp2_with (go_at_call 36; refine (fits_yes _ _ (by omega) (by omega)).mono ?_; rintro e w' ⟨rfl, rfl⟩)
  go_region
  go_wp2
  refine bodyPost_ret (v := .agg #[.int .u64 (P.wrd s 0), .int .u64 (P.wrd s 1), .int .u64 (P.wrd s 2), .int .u64 (P.wrd (s ||| P.bit n) 3)]) (by simp [results, Tryd.results28, go_sem]) rfl ⟨rfl, ?_⟩
  exact (((Below.refl _ _).alloc (Nat.le_refl _) _).alloc (by simp) _).drew

theorem with_any (s : BitVec 256) (n : Int) (w : World) :
    Calls Tryd.prog 28 #[.agg #[.int .u64 (P.wrd s 0), .int .u64 (P.wrd s 1), .int .u64 (P.wrd s 2), .int .u64 (P.wrd s 3)], .int .i64 n] w fun e w' => e = .returned (.agg #[.int .u64 (P.wrd (s ||| P.bit n) 0), .int .u64 (P.wrd (s ||| P.bit n) 1), .int .u64 (P.wrd (s ||| P.bit n) 2), .int .u64 (P.wrd (s ||| P.bit n) 3)]) ∧ Below w.heap.size w w' := by
  by_cases h : 0 ≤ n ∧ n < 256
  · obtain ⟨h0, h1⟩ := h
    rcases (by omega : n / 64 = 0 ∨ n / 64 = 1 ∨ n / 64 = 2 ∨ n / 64 = 3) with hk | hk | hk | hk
    · exact (with_k0 s n w h0 h1 hk).mono fun e w' ⟨he, hb⟩ => ⟨by rw [he, P.wrd_or_bit_other s n 1 (by omega), P.wrd_or_bit_other s n 2 (by omega), P.wrd_or_bit_other s n 3 (by omega)], hb⟩
    · exact (with_k1 s n w h0 h1 hk).mono fun e w' ⟨he, hb⟩ => ⟨by rw [he, P.wrd_or_bit_other s n 0 (by omega), P.wrd_or_bit_other s n 2 (by omega), P.wrd_or_bit_other s n 3 (by omega)], hb⟩
    · exact (with_k2 s n w h0 h1 hk).mono fun e w' ⟨he, hb⟩ => ⟨by rw [he, P.wrd_or_bit_other s n 0 (by omega), P.wrd_or_bit_other s n 1 (by omega), P.wrd_or_bit_other s n 3 (by omega)], hb⟩
    · exact (with_k3 s n w h0 h1 hk).mono fun e w' ⟨he, hb⟩ => ⟨by rw [he, P.wrd_or_bit_other s n 0 (by omega), P.wrd_or_bit_other s n 1 (by omega), P.wrd_or_bit_other s n 2 (by omega)], hb⟩
  · have hf : (s ||| P.bit n) = s := P.with_bit_out s (by omega)
    rw [hf]
    clear hf
    go_enter Tryd.func28, Tryd.ntmps28
    go_wp2_with (go_at_call 36; refine (fits_no _ _ (by omega)).mono ?_; rintro e w' ⟨rfl, rfl⟩)
    refine bodyPost_ret (v := .agg #[.int .u64 (P.wrd s 0), .int .u64 (P.wrd s 1), .int .u64 (P.wrd s 2), .int .u64 (P.wrd s 3)]) (by simp [results, Tryd.results28, go_sem]) rfl ⟨rfl, ?_⟩
    exact ((Below.refl _ _).alloc (Nat.le_refl _) _).alloc (by simp) _

set_option maxHeartbeats 1000000 in
theorem less_k0 (s : BitVec 256) (n : Int) (w : World) (h0 : 0 ≤ n) (h1 : n < 256) (hk : n / 64 = 0) :
    Calls Tryd.prog 29 #[.agg #[.int .u64 (P.wrd s 0), .int .u64 (P.wrd s 1), .int .u64 (P.wrd s 2), .int .u64 (P.wrd s 3)], .int .i64 n] w fun e w' => e = .returned (.agg #[.int .u64 (P.wrd (s &&& ~~~ P.bit n) 0), .int .u64 (P.wrd s 1), .int .u64 (P.wrd s 2), .int .u64 (P.wrd s 3)]) ∧ Below w.heap.size w w' := by
  have hm0 : 0 ≤ n % 64 := by omega
  have hm1 : n % 64 < 64 := by omega
  have hb := P.wrd_bit n 0 h0 h1 hk
  have hc := P.wrd_minus s (P.bit n) 0 (by decide)
  go_enter Tryd.func29, Tryd.ntmps29
  go_wp2_with (go_at_call 36; refine (fits_yes _ _ (by omega) (by omega)).mono ?_; rintro e w' ⟨rfl, rfl⟩)
  go_region
  go_wp2
  refine bodyPost_ret (v := .agg #[.int .u64 (P.wrd (s &&& ~~~ P.bit n) 0), .int .u64 (P.wrd s 1), .int .u64 (P.wrd s 2), .int .u64 (P.wrd s 3)]) (by simp [results, Tryd.results29, go_sem]) rfl ⟨rfl, ?_⟩
  exact (((Below.refl _ _).alloc (Nat.le_refl _) _).alloc (by simp) _).drew

set_option maxHeartbeats 1000000 in
theorem less_k1 (s : BitVec 256) (n : Int) (w : World) (h0 : 0 ≤ n) (h1 : n < 256) (hk : n / 64 = 1) :
    Calls Tryd.prog 29 #[.agg #[.int .u64 (P.wrd s 0), .int .u64 (P.wrd s 1), .int .u64 (P.wrd s 2), .int .u64 (P.wrd s 3)], .int .i64 n] w fun e w' => e = .returned (.agg #[.int .u64 (P.wrd s 0), .int .u64 (P.wrd (s &&& ~~~ P.bit n) 1), .int .u64 (P.wrd s 2), .int .u64 (P.wrd s 3)]) ∧ Below w.heap.size w w' := by
  have hm0 : 0 ≤ n % 64 := by omega
  have hm1 : n % 64 < 64 := by omega
  have hb := P.wrd_bit n 1 h0 h1 hk
  have hc := P.wrd_minus s (P.bit n) 1 (by decide)
  go_enter Tryd.func29, Tryd.ntmps29
  go_wp2_with (go_at_call 36; refine (fits_yes _ _ (by omega) (by omega)).mono ?_; rintro e w' ⟨rfl, rfl⟩)
  go_region
  go_wp2
  refine bodyPost_ret (v := .agg #[.int .u64 (P.wrd s 0), .int .u64 (P.wrd (s &&& ~~~ P.bit n) 1), .int .u64 (P.wrd s 2), .int .u64 (P.wrd s 3)]) (by simp [results, Tryd.results29, go_sem]) rfl ⟨rfl, ?_⟩
  exact (((Below.refl _ _).alloc (Nat.le_refl _) _).alloc (by simp) _).drew

set_option maxHeartbeats 1000000 in
theorem less_k2 (s : BitVec 256) (n : Int) (w : World) (h0 : 0 ≤ n) (h1 : n < 256) (hk : n / 64 = 2) :
    Calls Tryd.prog 29 #[.agg #[.int .u64 (P.wrd s 0), .int .u64 (P.wrd s 1), .int .u64 (P.wrd s 2), .int .u64 (P.wrd s 3)], .int .i64 n] w fun e w' => e = .returned (.agg #[.int .u64 (P.wrd s 0), .int .u64 (P.wrd s 1), .int .u64 (P.wrd (s &&& ~~~ P.bit n) 2), .int .u64 (P.wrd s 3)]) ∧ Below w.heap.size w w' := by
  have hm0 : 0 ≤ n % 64 := by omega
  have hm1 : n % 64 < 64 := by omega
  have hb := P.wrd_bit n 2 h0 h1 hk
  have hc := P.wrd_minus s (P.bit n) 2 (by decide)
  go_enter Tryd.func29, Tryd.ntmps29
  go_wp2_with (go_at_call 36; refine (fits_yes _ _ (by omega) (by omega)).mono ?_; rintro e w' ⟨rfl, rfl⟩)
  go_region
  go_wp2
  refine bodyPost_ret (v := .agg #[.int .u64 (P.wrd s 0), .int .u64 (P.wrd s 1), .int .u64 (P.wrd (s &&& ~~~ P.bit n) 2), .int .u64 (P.wrd s 3)]) (by simp [results, Tryd.results29, go_sem]) rfl ⟨rfl, ?_⟩
  exact (((Below.refl _ _).alloc (Nat.le_refl _) _).alloc (by simp) _).drew

set_option maxHeartbeats 1000000 in
theorem less_k3 (s : BitVec 256) (n : Int) (w : World) (h0 : 0 ≤ n) (h1 : n < 256) (hk : n / 64 = 3) :
    Calls Tryd.prog 29 #[.agg #[.int .u64 (P.wrd s 0), .int .u64 (P.wrd s 1), .int .u64 (P.wrd s 2), .int .u64 (P.wrd s 3)], .int .i64 n] w fun e w' => e = .returned (.agg #[.int .u64 (P.wrd s 0), .int .u64 (P.wrd s 1), .int .u64 (P.wrd s 2), .int .u64 (P.wrd (s &&& ~~~ P.bit n) 3)]) ∧ Below w.heap.size w w' := by
  have hm0 : 0 ≤ n % 64 := by omega
  have hm1 : n % 64 < 64 := by omega
  have hb := P.wrd_bit n 3 h0 h1 hk
  have hc := P.wrd_minus s (P.bit n) 3 (by decide)
  go_enter Tryd.func29, Tryd.ntmps29
  go_wp2_with (go_at_call 36; refine (fits_yes _ _ (by omega) (by omega)).mono ?_; rintro e w' ⟨rfl, rfl⟩)
  go_region
  go_wp2
  refine bodyPost_ret (v := .agg #[.int .u64 (P.wrd s 0), .int .u64 (P.wrd s 1), .int .u64 (P.wrd s 2), .int .u64 (P.wrd (s &&& ~~~ P.bit n) 3)]) (by simp [results, Tryd.results29, go_sem]) rfl ⟨rfl, ?_⟩
  exact (((Below.refl _ _).alloc (Nat.le_refl _) _).alloc (by simp) _).drew

theorem less_any (s : BitVec 256) (n : Int) (w : World) :
    Calls Tryd.prog 29 #[.agg #[.int .u64 (P.wrd s 0), .int .u64 (P.wrd s 1), .int .u64 (P.wrd s 2), .int .u64 (P.wrd s 3)], .int .i64 n] w fun e w' => e = .returned (.agg #[.int .u64 (P.wrd (s &&& ~~~ P.bit n) 0), .int .u64 (P.wrd (s &&& ~~~ P.bit n) 1), .int .u64 (P.wrd (s &&& ~~~ P.bit n) 2), .int .u64 (P.wrd (s &&& ~~~ P.bit n) 3)]) ∧ Below w.heap.size w w' := by
  by_cases h : 0 ≤ n ∧ n < 256
  · obtain ⟨h0, h1⟩ := h
    rcases (by omega : n / 64 = 0 ∨ n / 64 = 1 ∨ n / 64 = 2 ∨ n / 64 = 3) with hk | hk | hk | hk
    · exact (less_k0 s n w h0 h1 hk).mono fun e w' ⟨he, hb⟩ => ⟨by rw [he, P.wrd_less_bit_other s n 1 (by decide) (by omega), P.wrd_less_bit_other s n 2 (by decide) (by omega), P.wrd_less_bit_other s n 3 (by decide) (by omega)], hb⟩
    · exact (less_k1 s n w h0 h1 hk).mono fun e w' ⟨he, hb⟩ => ⟨by rw [he, P.wrd_less_bit_other s n 0 (by decide) (by omega), P.wrd_less_bit_other s n 2 (by decide) (by omega), P.wrd_less_bit_other s n 3 (by decide) (by omega)], hb⟩
    · exact (less_k2 s n w h0 h1 hk).mono fun e w' ⟨he, hb⟩ => ⟨by rw [he, P.wrd_less_bit_other s n 0 (by decide) (by omega), P.wrd_less_bit_other s n 1 (by decide) (by omega), P.wrd_less_bit_other s n 3 (by decide) (by omega)], hb⟩
    · exact (less_k3 s n w h0 h1 hk).mono fun e w' ⟨he, hb⟩ => ⟨by rw [he, P.wrd_less_bit_other s n 0 (by decide) (by omega), P.wrd_less_bit_other s n 1 (by decide) (by omega), P.wrd_less_bit_other s n 2 (by decide) (by omega)], hb⟩
  · have hf : (s &&& ~~~ P.bit n) = s := P.less_bit_out s (by omega)
    rw [hf]
    clear hf
    go_enter Tryd.func29, Tryd.ntmps29
    go_wp2_with (go_at_call 36; refine (fits_no _ _ (by omega)).mono ?_; rintro e w' ⟨rfl, rfl⟩)
    refine bodyPost_ret (v := .agg #[.int .u64 (P.wrd s 0), .int .u64 (P.wrd s 1), .int .u64 (P.wrd s 2), .int .u64 (P.wrd s 3)]) (by simp [results, Tryd.results29, go_sem]) rfl ⟨rfl, ?_⟩
    exact ((Below.refl _ _).alloc (Nat.le_refl _) _).alloc (by simp) _
end W
end Go.Proofs.YtpfponiidppldaaDoor
