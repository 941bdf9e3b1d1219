/- The walks of the program's functions on sets: each returns the words that it should, whatever the memory. A set that lies in a block of memory: its cells, and how it is written over. The set of a list's numbers: the walk. -/
import Derived.Test.YtghdjkpndhcplaaDoorChecked
import Derived.Test.YtghdjkpndhcplaaDoorPts
import Derived.WalkKit
import Derived.WalkLawsBesides
import Derived.WalkSpells
import Derived.Outline
import Derived.RegionTactic
import Derived.ChangeAlike
import Derived.LoopTactic
import Derived.Lib.QuietBelow
import Derived.BigQuiet
import Derived.Lib.Hide
import Derived.OneCell
import Derived.IntWalk
section
namespace Go.Proofs.YtghdjkpndhcplaaDoor
open Go.RowKit Go.Sort
namespace W

theorem fits_yes (n : Int) (w : World) (h0 : 0 ≤ n) (h1 : n < 256) :
    Calls Tryd.prog 29 #[.int .i64 n] w fun e w' => e = .returned (.bool true) ∧ w = w' := by
  go_enter Tryd.func29, Tryd.ntmps29
  go_wp2
  go_ret
  exact ⟨rfl, rfl⟩
theorem fits_no (n : Int) (w : World) (h : n < 0 ∨ 256 ≤ n) :
    Calls Tryd.prog 29 #[.int .i64 n] w fun e w' => e = .returned (.bool false) ∧ w = w' := by
  rcases h with h | h
  · have h' : ¬ 0 ≤ n := by omega
    go_enter Tryd.func29, Tryd.ntmps29
    go_wp2
    go_ret
    exact ⟨rfl, rfl⟩
  · have h' : ¬ n < 256 := by omega
    have h'' : 0 ≤ n := by omega
    go_enter Tryd.func29, Tryd.ntmps29
    go_wp2
    go_ret
    exact ⟨rfl, rfl⟩

set_option maxHeartbeats 1000000 in
theorem or_any (s t : BitVec 256) (w : World) :
    Calls Tryd.prog 9 #[.agg #[.int .u64 (P.wrd s 0), .int .u64 (P.wrd s 1), .int .u64 (P.wrd s 2), .int .u64 (P.wrd s 3)], .agg #[.int .u64 (P.wrd t 0), .int .u64 (P.wrd t 1), .int .u64 (P.wrd t 2), .int .u64 (P.wrd t 3)]] w fun e w' => e = .returned (.agg #[.int .u64 (P.wrd (s ||| t) 0), .int .u64 (P.wrd (s ||| t) 1), .int .u64 (P.wrd (s ||| t) 2), .int .u64 (P.wrd (s ||| t) 3)]) ∧ Below w.heap.size w w' := by
  have hl := fun i => P.wrd_or s t i
  go_enter Tryd.func9, Tryd.ntmps9
  go_wp2
  refine wp_loop_rounds 5 ?_
  rw [rounds_succ]
  go_wp2
  go_region
  go_wp2
  rw [rounds_succ]
  go_wp2
  go_region
  go_wp2
  rw [rounds_succ]
  go_wp2
  go_region
  go_wp2
  rw [rounds_succ]
  go_wp2
  go_region
  go_wp2
  rw [rounds_succ]
  go_wp2
  refine bodyPost_ret (v := .agg #[.int .u64 (P.wrd (s ||| t) 0), .int .u64 (P.wrd (s ||| t) 1), .int .u64 (P.wrd (s ||| t) 2), .int .u64 (P.wrd (s ||| t) 3)]) (by simp [results, Tryd.results9, go_sem]) rfl ⟨rfl, ?_⟩
  exact ((((((((Below.refl _ _).alloc (Nat.le_refl _) _).alloc (by simp) _).alloc (by simp; omega) _).drew).drew).drew).drew)

set_option maxHeartbeats 1000000 in
theorem and_any (s t : BitVec 256) (w : World) :
    Calls Tryd.prog 15 #[.agg #[.int .u64 (P.wrd s 0), .int .u64 (P.wrd s 1), .int .u64 (P.wrd s 2), .int .u64 (P.wrd s 3)], .agg #[.int .u64 (P.wrd t 0), .int .u64 (P.wrd t 1), .int .u64 (P.wrd t 2), .int .u64 (P.wrd t 3)]] w fun e w' => e = .returned (.agg #[.int .u64 (P.wrd (s &&& t) 0), .int .u64 (P.wrd (s &&& t) 1), .int .u64 (P.wrd (s &&& t) 2), .int .u64 (P.wrd (s &&& t) 3)]) ∧ Below w.heap.size w w' := by
  have hl := fun i => P.wrd_and s t i
  go_enter Tryd.func15, Tryd.ntmps15
  go_wp2
  refine wp_loop_rounds 5 ?_
  rw [rounds_succ]
  go_wp2
  go_region
  go_wp2
  rw [rounds_succ]
  go_wp2
  go_region
  go_wp2
  rw [rounds_succ]
  go_wp2
  go_region
  go_wp2
  rw [rounds_succ]
  go_wp2
  go_region
  go_wp2
  rw [rounds_succ]
  go_wp2
  refine bodyPost_ret (v := .agg #[.int .u64 (P.wrd (s &&& t) 0), .int .u64 (P.wrd (s &&& t) 1), .int .u64 (P.wrd (s &&& t) 2), .int .u64 (P.wrd (s &&& t) 3)]) (by simp [results, Tryd.results15, go_sem]) rfl ⟨rfl, ?_⟩
  exact ((((((((Below.refl _ _).alloc (Nat.le_refl _) _).alloc (by simp) _).alloc (by simp; omega) _).drew).drew).drew).drew)

set_option maxHeartbeats 1000000 in
theorem minus_any (s t : BitVec 256) (w : World) :
    Calls Tryd.prog 24 #[.agg #[.int .u64 (P.wrd s 0), .int .u64 (P.wrd s 1), .int .u64 (P.wrd s 2), .int .u64 (P.wrd s 3)], .agg #[.int .u64 (P.wrd t 0), .int .u64 (P.wrd t 1), .int .u64 (P.wrd t 2), .int .u64 (P.wrd t 3)]] w fun e w' => e = .returned (.agg #[.int .u64 (P.wrd (s &&& ~~~t) 0), .int .u64 (P.wrd (s &&& ~~~t) 1), .int .u64 (P.wrd (s &&& ~~~t) 2), .int .u64 (P.wrd (s &&& ~~~t) 3)]) ∧ Below w.heap.size w w' := by
  have h0 := P.wrd_minus s t 0 (by decide)
  have h1 := P.wrd_minus s t 1 (by decide)
  have h2 := P.wrd_minus s t 2 (by decide)
  have h3 := P.wrd_minus s t 3 (by decide)
  go_enter Tryd.func24, Tryd.ntmps24
  go_wp2
  refine wp_loop_rounds 5 ?_
  rw [rounds_succ]
  go_wp2
  go_region
  go_wp2
  rw [rounds_succ]
  go_wp2
  go_region
  go_wp2
  rw [rounds_succ]
  go_wp2
  go_region
  go_wp2
  rw [rounds_succ]
  go_wp2
  go_region
  go_wp2
  rw [rounds_succ]
  go_wp2
  refine bodyPost_ret (v := .agg #[.int .u64 (P.wrd (s &&& ~~~t) 0), .int .u64 (P.wrd (s &&& ~~~t) 1), .int .u64 (P.wrd (s &&& ~~~t) 2), .int .u64 (P.wrd (s &&& ~~~t) 3)]) (by simp [results, Tryd.results24, go_sem]) rfl ⟨rfl, ?_⟩
  exact ((((((((Below.refl _ _).alloc (Nat.le_refl _) _).alloc (by simp) _).alloc (by simp; omega) _).drew).drew).drew).drew)

set_option maxHeartbeats 1000000 in
theorem has_k0 (s : BitVec 256) (n : Int) (w : World) (h0 : 0 ≤ n) (h1 : n < 256) (hk : n / 64 = 0) :
    Calls Tryd.prog 35 #[.agg #[.int .u64 (P.wrd s 0), .int .u64 (P.wrd s 1), .int .u64 (P.wrd s 2), .int .u64 (P.wrd s 3)], .int .i64 n] w fun e w' => e = .returned (.bool (P.has s n)) ∧ Below w.heap.size w w' := by
  have hm0 : 0 ≤ n % 64 := by omega
  have hm1 : n % 64 < 64 := by omega
  obtain ⟨hb0, _⟩ := P.wrd_bd s 0
  have hw := P.has_word s n 0 h0 hk
  go_enter Tryd.func35, Tryd.ntmps35
  go_wp2_with (go_at_call 29; refine (fits_yes _ _ (by omega) (by omega)).mono ?_; rintro e w' ⟨rfl, rfl⟩)
  go_ret
  exact ⟨rfl, (Below.refl _ _).alloc (Nat.le_refl _) _⟩

set_option maxHeartbeats 1000000 in
theorem has_k1 (s : BitVec 256) (n : Int) (w : World) (h0 : 0 ≤ n) (h1 : n < 256) (hk : n / 64 = 1) :
    Calls Tryd.prog 35 #[.agg #[.int .u64 (P.wrd s 0), .int .u64 (P.wrd s 1), .int .u64 (P.wrd s 2), .int .u64 (P.wrd s 3)], .int .i64 n] w fun e w' => e = .returned (.bool (P.has s n)) ∧ Below w.heap.size w w' := by
  have hm0 : 0 ≤ n % 64 := by omega
  have hm1 : n % 64 < 64 := by omega
  obtain ⟨hb0, _⟩ := P.wrd_bd s 1
  have hw := P.has_word s n 1 h0 hk
  go_enter Tryd.func35, Tryd.ntmps35
  go_wp2_with (go_at_call 29; refine (fits_yes _ _ (by omega) (by omega)).mono ?_; rintro e w' ⟨rfl, rfl⟩)
  go_ret
  exact ⟨rfl, (Below.refl _ _).alloc (Nat.le_refl _) _⟩

set_option maxHeartbeats 1000000 in
theorem has_k2 (s : BitVec 256) (n : Int) (w : World) (h0 : 0 ≤ n) (h1 : n < 256) (hk : n / 64 = 2) :
    Calls Tryd.prog 35 #[.agg #[.int .u64 (P.wrd s 0), .int .u64 (P.wrd s 1), .int .u64 (P.wrd s 2), .int .u64 (P.wrd s 3)], .int .i64 n] w fun e w' => e = .returned (.bool (P.has s n)) ∧ Below w.heap.size w w' := by
  have hm0 : 0 ≤ n % 64 := by omega
  have hm1 : n % 64 < 64 := by omega
  obtain ⟨hb0, _⟩ := P.wrd_bd s 2
  have hw := P.has_word s n 2 h0 hk
  go_enter Tryd.func35, Tryd.ntmps35
  go_wp2_with (go_at_call 29; refine (fits_yes _ _ (by omega) (by omega)).mono ?_; rintro e w' ⟨rfl, rfl⟩)
  go_ret
  exact ⟨rfl, (Below.refl _ _).alloc (Nat.le_refl _) _⟩

set_option maxHeartbeats 1000000 in
theorem has_k3 (s : BitVec 256) (n : Int) (w : World) (h0 : 0 ≤ n) (h1 : n < 256) (hk : n / 64 = 3) :
    Calls Tryd.prog 35 #[.agg #[.int .u64 (P.wrd s 0), .int .u64 (P.wrd s 1), .int .u64 (P.wrd s 2), .int .u64 (P.wrd s 3)], .int .i64 n] w fun e w' => e = .returned (.bool (P.has s n)) ∧ Below w.heap.size w w' := by
  have hm0 : 0 ≤ n % 64 := by omega
  have hm1 : n % 64 < 64 := by omega
  obtain ⟨hb0, _⟩ := P.wrd_bd s 3
  have hw := P.has_word s n 3 h0 hk
  go_enter Tryd.func35, Tryd.ntmps35
  go_wp2_with (go_at_call 29; refine (fits_yes _ _ (by omega) (by omega)).mono ?_; rintro e w' ⟨rfl, rfl⟩)
  go_ret
  exact ⟨rfl, (Below.refl _ _).alloc (Nat.le_refl _) _⟩

theorem has_any (s : BitVec 256) (n : Int) (w : World) :
    Calls Tryd.prog 35 #[.agg #[.int .u64 (P.wrd s 0), .int .u64 (P.wrd s 1), .int .u64 (P.wrd s 2), .int .u64 (P.wrd s 3)], .int .i64 n] w fun e w' => e = .returned (.bool (P.has s n)) ∧ Below w.heap.size w w' := by
  by_cases h : 0 ≤ n ∧ n < 256
  · obtain ⟨h0, h1⟩ := h
    rcases (by omega : n / 64 = 0 ∨ n / 64 = 1 ∨ n / 64 = 2 ∨ n / 64 = 3) with hk | hk | hk | hk
    · exact has_k0 s n w h0 h1 hk
    · exact has_k1 s n w h0 h1 hk
    · exact has_k2 s n w h0 h1 hk
    · exact has_k3 s n w h0 h1 hk
  · have hf : P.has s n = false := P.has_out s (by omega)
    have HF := Lib.hid hf
    clear hf
    go_enter Tryd.func35, Tryd.ntmps35
    go_wp2_with (go_at_call 29; refine (fits_no _ _ (by omega)).mono ?_; rintro e w' ⟨rfl, rfl⟩)
    go_ret
    exact ⟨by rw [HF.out]; rfl, (Below.refl _ _).alloc (Nat.le_refl _) _⟩

set_option maxHeartbeats 1000000 in
theorem with_k0 (s : BitVec 256) (n : Int) (w : World) (h0 : 0 ≤ n) (h1 : n < 256) (hk : n / 64 = 0) :
    Calls Tryd.prog 17 #[.agg #[.int .u64 (P.wrd s 0), .int .u64 (P.wrd s 1), .int .u64 (P.wrd s 2), .int .u64 (P.wrd s 3)], .int .i64 n] w fun e w' => e = .returned (.agg #[.int .u64 (P.wrd (s ||| P.bit n) 0), .int .u64 (P.wrd s 1), .int .u64 (P.wrd s 2), .int .u64 (P.wrd s 3)]) ∧ Below w.heap.size w w' := by
  have hm0 : 0 ≤ n % 64 := by omega
  have hm1 : n % 64 < 64 := by omega
  have hb := P.wrd_bit n 0 h0 h1 hk
  have hc := P.wrd_or s (P.bit n) 0
  go_enter Tryd.func17, Tryd.ntmps17
  go_wp2_with (go_at_call 29; refine (fits_yes _ _ (by omega) (by omega)).mono ?_; rintro e w' ⟨rfl, rfl⟩)
  go_region
  go_wp2
  refine bodyPost_ret (v := .agg #[.int .u64 (P.wrd (s ||| P.bit n) 0), .int .u64 (P.wrd s 1), .int .u64 (P.wrd s 2), .int .u64 (P.wrd s 3)]) (by simp [results, Tryd.results17, go_sem]) rfl ⟨rfl, ?_⟩
  exact (((Below.refl _ _).alloc (Nat.le_refl _) _).alloc (by simp) _).drew

set_option maxHeartbeats 1000000 in
theorem with_k1 (s : BitVec 256) (n : Int) (w : World) (h0 : 0 ≤ n) (h1 : n < 256) (hk : n / 64 = 1) :
    Calls Tryd.prog 17 #[.agg #[.int .u64 (P.wrd s 0), .int .u64 (P.wrd s 1), .int .u64 (P.wrd s 2), .int .u64 (P.wrd s 3)], .int .i64 n] w fun e w' => e = .returned (.agg #[.int .u64 (P.wrd s 0), .int .u64 (P.wrd (s ||| P.bit n) 1), .int .u64 (P.wrd s 2), .int .u64 (P.wrd s 3)]) ∧ Below w.heap.size w w' := by
  have hm0 : 0 ≤ n % 64 := by omega
  have hm1 : n % 64 < 64 := by omega
  have hb := P.wrd_bit n 1 h0 h1 hk
  have hc := P.wrd_or s (P.bit n) 1
  go_enter Tryd.func17, Tryd.ntmps17
  go_wp2_with (go_at_call 29; refine (fits_yes _ _ (by omega) (by omega)).mono ?_; rintro e w' ⟨rfl, rfl⟩)
  go_region
  go_wp2
  refine bodyPost_ret (v := .agg #[.int .u64 (P.wrd s 0), .int .u64 (P.wrd (s ||| P.bit n) 1), .int .u64 (P.wrd s 2), .int .u64 (P.wrd s 3)]) (by simp [results, Tryd.results17, go_sem]) rfl ⟨rfl, ?_⟩
  exact (((Below.refl _ _).alloc (Nat.le_refl _) _).alloc (by simp) _).drew

set_option maxHeartbeats 1000000 in
theorem with_k2 (s : BitVec 256) (n : Int) (w : World) (h0 : 0 ≤ n) (h1 : n < 256) (hk : n / 64 = 2) :
    Calls Tryd.prog 17 #[.agg #[.int .u64 (P.wrd s 0), .int .u64 (P.wrd s 1), .int .u64 (P.wrd s 2), .int .u64 (P.wrd s 3)], .int .i64 n] w fun e w' => e = .returned (.agg #[.int .u64 (P.wrd s 0), .int .u64 (P.wrd s 1), .int .u64 (P.wrd (s ||| P.bit n) 2), .int .u64 (P.wrd s 3)]) ∧ Below w.heap.size w w' := by
  have hm0 : 0 ≤ n % 64 := by omega
  have hm1 : n % 64 < 64 := by omega
  have hb := P.wrd_bit n 2 h0 h1 hk
  have hc := P.wrd_or s (P.bit n) 2
  go_enter Tryd.func17, Tryd.ntmps17
  go_wp2_with (go_at_call 29; refine (fits_yes _ _ (by omega) (by omega)).mono ?_; rintro e w' ⟨rfl, rfl⟩)
  go_region
  go_wp2
  refine bodyPost_ret (v := .agg #[.int .u64 (P.wrd s 0), .int .u64 (P.wrd s 1), .int .u64 (P.wrd (s ||| P.bit n) 2), .int .u64 (P.wrd s 3)]) (by simp [results, Tryd.results17, go_sem]) rfl ⟨rfl, ?_⟩
  exact (((Below.refl _ _).alloc (Nat.le_refl _) _).alloc (by simp) _).drew

set_option maxHeartbeats 1000000 in
theorem with_k3 (s : BitVec 256) (n : Int) (w : World) (h0 : 0 ≤ n) (h1 : n < 256) (hk : n / 64 = 3) :
    Calls Tryd.prog 17 #[.agg #[.int .u64 (P.wrd s 0), .int .u64 (P.wrd s 1), .int .u64 (P.wrd s 2), .int .u64 (P.wrd s 3)], .int .i64 n] w fun e w' => e = .returned (.agg #[.int .u64 (P.wrd s 0), .int .u64 (P.wrd s 1), .int .u64 (P.wrd s 2), .int .u64 (P.wrd (s ||| P.bit n) 3)]) ∧ Below w.heap.size w w' := by
  have hm0 : 0 ≤ n % 64 := by omega
  have hm1 : n % 64 < 64 := by omega
  have hb := P.wrd_bit n 3 h0 h1 hk
  have hc := P.wrd_or s (P.bit n) 3
  go_enter Tryd.func17, Tryd.ntmps17
  go_wp2_with (go_at_call 29; refine (fits_yes _ _ (by omega) (by omega)).mono ?_; rintro e w' ⟨rfl, rfl⟩)
  go_region
  go_wp2
  refine bodyPost_ret (v := .agg #[.int .u64 (P.wrd s 0), .int .u64 (P.wrd s 1), .int .u64 (P.wrd s 2), .int .u64 (P.wrd (s ||| P.bit n) 3)]) (by simp [results, Tryd.results17, go_sem]) rfl ⟨rfl, ?_⟩
  exact (((Below.refl _ _).alloc (Nat.le_refl _) _).alloc (by simp) _).drew

theorem with_any (s : BitVec 256) (n : Int) (w : World) :
    Calls Tryd.prog 17 #[.agg #[.int .u64 (P.wrd s 0), .int .u64 (P.wrd s 1), .int .u64 (P.wrd s 2), .int .u64 (P.wrd s 3)], .int .i64 n] w fun e w' => e = .returned (.agg #[.int .u64 (P.wrd (s ||| P.bit n) 0), .int .u64 (P.wrd (s ||| P.bit n) 1), .int .u64 (P.wrd (s ||| P.bit n) 2), .int .u64 (P.wrd (s ||| P.bit n) 3)]) ∧ Below w.heap.size w w' := by
  by_cases h : 0 ≤ n ∧ n < 256
  · obtain ⟨h0, h1⟩ := h
    rcases (by omega : n / 64 = 0 ∨ n / 64 = 1 ∨ n / 64 = 2 ∨ n / 64 = 3) with hk | hk | hk | hk
    · exact (with_k0 s n w h0 h1 hk).mono fun e w' ⟨he, hb⟩ => ⟨by rw [he, P.wrd_or_bit_other s n 1 (by omega), P.wrd_or_bit_other s n 2 (by omega), P.wrd_or_bit_other s n 3 (by omega)], hb⟩
    · exact (with_k1 s n w h0 h1 hk).mono fun e w' ⟨he, hb⟩ => ⟨by rw [he, P.wrd_or_bit_other s n 0 (by omega), P.wrd_or_bit_other s n 2 (by omega), P.wrd_or_bit_other s n 3 (by omega)], hb⟩
    · exact (with_k2 s n w h0 h1 hk).mono fun e w' ⟨he, hb⟩ => ⟨by rw [he, P.wrd_or_bit_other s n 0 (by omega), P.wrd_or_bit_other s n 1 (by omega), P.wrd_or_bit_other s n 3 (by omega)], hb⟩
    · exact (with_k3 s n w h0 h1 hk).mono fun e w' ⟨he, hb⟩ => ⟨by rw [he, P.wrd_or_bit_other s n 0 (by omega), P.wrd_or_bit_other s n 1 (by omega), P.wrd_or_bit_other s n 2 (by omega)], hb⟩
  · have hf : (s ||| P.bit n) = s := P.with_bit_out s (by omega)
    rw [hf]
    clear hf
    go_enter Tryd.func17, Tryd.ntmps17
    go_wp2_with (go_at_call 29; refine (fits_no _ _ (by omega)).mono ?_; rintro e w' ⟨rfl, rfl⟩)
    refine bodyPost_ret (v := .agg #[.int .u64 (P.wrd s 0), .int .u64 (P.wrd s 1), .int .u64 (P.wrd s 2), .int .u64 (P.wrd s 3)]) (by simp [results, Tryd.results17, go_sem]) rfl ⟨rfl, ?_⟩
    exact ((Below.refl _ _).alloc (Nat.le_refl _) _).alloc (by simp) _

end W
end Go.Proofs.YtghdjkpndhcplaaDoor
end
section
namespace Go.Proofs.YtghdjkpndhcplaaDoor
open Go.RowKit Go.Sort
namespace W
/-- Block b holds the set s. -/
def Blk (w : World) (b : Nat) (s : BitVec 256) (t : TypeId) : Prop := w.heap[b]? = some (.cells #[.int .u64 (P.wrd s 0), .int .u64 (P.wrd s 1), .int .u64 (P.wrd s 2), .int .u64 (P.wrd s 3)] t (0, 0))
variable {w : World} {b : Nat} {s : BitVec 256} {t : TypeId}
theorem Blk.lt (h : Blk w b s t) : b < w.heap.size := lt_of_block h
theorem Blk.c0 (h : Blk w b s t) : w.cell? ⟨b, 0, none⟩ = some (.int .u64 (P.wrd s 0)) := by rw [cell_of_row w b 0 _ t (0, 0) h]; rfl
theorem Blk.c1 (h : Blk w b s t) : w.cell? ⟨b, 1, none⟩ = some (.int .u64 (P.wrd s 1)) := by rw [cell_of_row w b 1 _ t (0, 0) h]; rfl
theorem Blk.c2 (h : Blk w b s t) : w.cell? ⟨b, 2, none⟩ = some (.int .u64 (P.wrd s 2)) := by rw [cell_of_row w b 2 _ t (0, 0) h]; rfl
theorem Blk.c3 (h : Blk w b s t) : w.cell? ⟨b, 3, none⟩ = some (.int .u64 (P.wrd s 3)) := by rw [cell_of_row w b 3 _ t (0, 0) h]; rfl
theorem Blk.free (h : Blk w b s t) (j : Nat) : w.frozen? ⟨b, j, none⟩ = false := frozen_of_row w b j _ t h
theorem Blk.below {w' : World} {B : Nat} (h : Blk w b s t) (hb : Below B w w') (hB : b < B) : Blk w' b s t := by unfold Blk; rw [hb.block b hB]; exact h
theorem Blk.on {w' : World} (h : Blk w b s t) (hb : Below w.heap.size w w') : Blk w' b s t := h.below hb h.lt
theorem Blk.new (w : World) (s : BitVec 256) (t : TypeId) : Blk (w.alloc (.cells #[.int .u64 (P.wrd s 0), .int .u64 (P.wrd s 1), .int .u64 (P.wrd s 2), .int .u64 (P.wrd s 3)] t)) w.heap.size s t := heap_alloc_new w _
theorem Blk.store (h : Blk w b s t) (r : BitVec 256) : Blk ((((w.setCell ⟨b, 0, none⟩ (.int .u64 (P.wrd r 0))).setCell ⟨b, 1, none⟩ (.int .u64 (P.wrd r 1))).setCell ⟨b, 2, none⟩ (.int .u64 (P.wrd r 2))).setCell ⟨b, 3, none⟩ (.int .u64 (P.wrd r 3))) b r t := by
  unfold Blk at h ⊢
  have h0 := heap_setCell_same w b 0 _ t (.int .u64 (P.wrd r 0)) h
  have h1 := heap_setCell_same _ b 1 _ t (.int .u64 (P.wrd r 1)) h0
  have h2 := heap_setCell_same _ b 2 _ t (.int .u64 (P.wrd r 2)) h1
  have h3 := heap_setCell_same _ b 3 _ t (.int .u64 (P.wrd r 3)) h2
  rw [h3]
  rfl
theorem Blk.zero (h : w.heap[b]? = some (.cells #[.int .u64 0, .int .u64 0, .int .u64 0, .int .u64 0] t (0, 0))) : Blk w b 0#256 t := by
  unfold Blk
  have e : ∀ k, P.wrd 0#256 k = 0 := P.wrd_zero
  rw [e, e, e, e]; exact h
theorem Blk.grown (h : Blk w b s t) (d : Nat) (os : Array Obj) : Blk (grow (redrawn w d) os) b s t := h.on (below_regrown w d os)
end W
end Go.Proofs.YtghdjkpndhcplaaDoor
end
section
namespace Go.Proofs.YtghdjkpndhcplaaDoor
open Go.RowKit Go.Sort
namespace P
/-- The set of those numbers of a list that may be in one. -/
def ofL (l : List Int) : BitVec 256 := l.foldl (fun s n => s ||| bit n) 0#256
theorem ofL_nil : ofL [] = 0#256 := rfl
theorem ofL_snoc (l : List Int) (n : Int) : ofL (l ++ [n]) = ofL l ||| bit n := by unfold ofL; rw [List.foldl_append]; rfl
theorem take_snoc (zs : List Int) (k : Nat) (hk : k < zs.length) : zs.take (k + 1) = zs.take k ++ [zs.getD k 0] := by
  rw [List.take_succ_eq_append_getElem hk]; simp [List.getD, List.getElem?_eq_getElem hk]
end P
namespace W
set_option maxHeartbeats 1000000 in
theorem of_any (b off len cap : Nat) (zs : List Int) (w : World) (hz : len ≤ zs.length) (hm : len ≤ maxLen) (hb : b < w.heap.size)
    (hc : ∀ j, j < len → w.cell? ⟨b, off + j, none⟩ = some (.int .i64 (zs.getD j 0))) :
    Calls Tryd.prog 7 #[.slice (some ⟨b, off, none⟩) len cap] w fun e w' => e = .returned (.agg #[.int .u64 (P.wrd (P.ofL (zs.take len)) 0), .int .u64 (P.wrd (P.ofL (zs.take len)) 1), .int .u64 (P.wrd (P.ofL (zs.take len)) 2), .int .u64 (P.wrd (P.ofL (zs.take len)) 3)]) ∧ Below w.heap.size w w' := by
  unfold maxLen at hm
  go_enter Tryd.func7, Tryd.ntmps7
  go_wp2
  go_loopw [8] (fun i wr => ∃ k : Nat, k ≤ len ∧ i = .int .i64 k ∧ Blk wr (w.heap.size + 1) (P.ofL (zs.take k)) 37 ∧ Below (w.heap.size + 1) ((w.alloc (.cells #[.int .u64 0, .int .u64 0, .int .u64 0, .int .u64 0] 37)).alloc (.cells #[.int .u64 0, .int .u64 0, .int .u64 0, .int .u64 0] 37)) wr) (fun i _ => len - (intOf i).toNat)
  case atStart => exact ⟨0, Nat.zero_le _, rfl, Blk.zero (heap_alloc2_new w _ _), Below.refl _ _⟩
  case round =>
    obtain ⟨k, hk, rfl, hB, hW⟩ := hrel
    have hlt := hB.lt
    have f0 := hB.free 0
    have f1 := hB.free 1
    have f2 := hB.free 2
    have f3 := hB.free 3
    have g0 := hB.c0
    have g1 := hB.c1
    have g2 := hB.c2
    have g3 := hB.c3
    by_cases hlt : k < len
    · have hcell : wr.cell? ⟨b, off + k, none⟩ = some (.int .i64 (zs.getD k 0)) := by
        rw [hW.cell (p := ⟨b, off + k, none⟩) (by show b < _; omega), World.cell?_alloc_past _ _ _ (by simp; omega), World.cell?_alloc_past _ _ _ hb]; exact hc k hlt
      have HB := Lib.hid hB
      have HW := Lib.hid hW
      have HT := Lib.hid (P.take_snoc zs k (by omega))
      clear hB hW
      go_wp2_with fail
      refine (with_any _ _ _).mono ?_
      rintro e w1 ⟨rfl, hb1⟩
      have hB1 := HB.out.on hb1
      have HW1 := Lib.hid (HW.out.trans (hb1.mono (by have := hB1.lt; omega)))
      clear hb1 f0 f1 f2 f3 g0 g1 g2 g3 hcell
      have f0 := hB1.free 0
      have f1 := hB1.free 1
      have f2 := hB1.free 2
      have f3 := hB1.free 3
      have g0 := hB1.c0
      have g1 := hB1.c1
      have g2 := hB1.c2
      have g3 := hB1.c3
      have HB1 := Lib.hid hB1
      clear hB1
      go_wp2
      go_roundw
      case rel => exact ⟨k + 1, by omega, by go_num, by rw [HT.out, P.ofL_snoc]; exact HB1.out.store _, (((HW1.out.setCell (Nat.le_refl _) _).setCell (Nat.le_refl _) _).setCell (Nat.le_refl _) _).setCell (Nat.le_refl _) _⟩
      case measure => simp [intOf]; omega
    · obtain rfl : k = len := by omega
      have hR : wr.frozen? ⟨w.heap.size, 0, none⟩ = false ∧ wr.frozen? ⟨w.heap.size, 1, none⟩ = false ∧ wr.frozen? ⟨w.heap.size, 2, none⟩ = false ∧ wr.frozen? ⟨w.heap.size, 3, none⟩ = false := by
        refine ⟨?_, ?_, ?_, ?_⟩ <;> (rw [hW.frozen (by show w.heap.size < _; omega)]; simp [go_sem])
      obtain ⟨r0, r1, r2, r3⟩ := hR
      have hC : wr.cell? ⟨w.heap.size, 0, none⟩ = some (.int .u64 0) ∧ wr.cell? ⟨w.heap.size, 1, none⟩ = some (.int .u64 0) ∧ wr.cell? ⟨w.heap.size, 2, none⟩ = some (.int .u64 0) ∧ wr.cell? ⟨w.heap.size, 3, none⟩ = some (.int .u64 0) := by
        refine ⟨?_, ?_, ?_, ?_⟩ <;> (rw [hW.cell (by show w.heap.size < _; omega)]; simp [go_sem])
      obtain ⟨q0, q1, q2, q3⟩ := hC
      have HR := Lib.hid (show Blk wr w.heap.size 0#256 37 from Blk.zero (by rw [hW.block w.heap.size (by omega)]; exact heap_alloc2_old w _ _))
      have HW := Lib.hid hW
      clear hW hB
      go_wp2
      refine bodyPost_ret (v := .agg #[.int .u64 (P.wrd (P.ofL (zs.take k)) 0), .int .u64 (P.wrd (P.ofL (zs.take k)) 1), .int .u64 (P.wrd (P.ofL (zs.take k)) 2), .int .u64 (P.wrd (P.ofL (zs.take k)) 3)]) (results_cell_row Tryd.results7 _ _ w.heap.size 37 _ (0, 0) _ rfl ((HR.out).store _) Tryd.underlying37 rfl (by kernel_rfl)) rfl ⟨rfl, ?_⟩
      refine Below.trans ?_ ((((HW.out.mono (Nat.le_succ w.heap.size)).setCell (Nat.le_refl _) _).setCell (Nat.le_refl _) _).setCell (Nat.le_refl _) _ |>.setCell (Nat.le_refl _) _)
      exact ((Below.refl _ _).alloc (Nat.le_refl _) _).alloc (by simp) _
end W
end Go.Proofs.YtghdjkpndhcplaaDoor
end
