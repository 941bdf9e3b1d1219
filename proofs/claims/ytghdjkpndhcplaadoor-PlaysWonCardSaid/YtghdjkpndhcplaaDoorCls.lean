/- The sets' functions, in the worlds that a region may pass through whose order is left open. -/
import Derived.Test.YtghdjkpndhcplaaDoorMemA
import Derived.Test.YtghdjkpndhcplaaDoorCnt
import Derived.Test.YtghdjkpndhcplaaDoorSetN
import Derived.Test.YtghdjkpndhcplaaDoorHlv
namespace Go.Proofs.YtghdjkpndhcplaaDoor
open Go.RowKit Go.Sort
namespace W

theorem of_none (a : Option Addr) (cap : Nat) (w : World) : Calls Tryd.prog 7 #[.slice a 0 cap] w fun e w' => e = .returned (.agg #[.int .u64 (P.wrd 0#256 0), .int .u64 (P.wrd 0#256 1), .int .u64 (P.wrd 0#256 2), .int .u64 (P.wrd 0#256 3)]) ∧ Below w.heap.size w w' := by
  go_enter Tryd.func7, Tryd.ntmps7
  go_wp2
  refine wp_loop_rounds 1 ?_
  rw [rounds_succ]
  go_wp2
  refine bodyPost_ret (v := .agg #[.int .u64 0, .int .u64 0, .int .u64 0, .int .u64 0]) (by simp [results, Tryd.results7, go_sem]) rfl ⟨?_, ?_⟩
  · have e : ∀ k, P.wrd 0#256 k = 0 := P.wrd_zero
    rw [e, e, e, e]
  · exact ((Below.refl _ _).alloc (Nat.le_refl _) _).alloc (by simp) _
theorem of_ints {w : World} {v : Value} {zs : List Int} (h : Ints w v zs) : Calls Tryd.prog 7 #[v] w fun e w' => e = .returned (.agg #[.int .u64 (P.wrd (P.ofL zs) 0), .int .u64 (P.wrd (P.ofL zs) 1), .int .u64 (P.wrd (P.ofL zs) 2), .int .u64 (P.wrd (P.ofL zs) 3)]) ∧ Below w.heap.size w w' := by
  obtain ⟨a, cap, rfl, hm, h⟩ := h
  rcases h with h | ⟨b, off, rfl, hb, hc⟩
  · subst h
    exact of_none a cap w
  · have := of_any b off zs.length cap zs w (Nat.le_refl _) (by unfold maxLen; omega) hb hc
    rw [List.take_length] at this
    exact this
theorem rAnd (W : World) (s t : BitVec 256) (d : Nat) (os : Array Obj) : Calls Tryd.prog 15 #[.agg #[.int .u64 (P.wrd s 0), .int .u64 (P.wrd s 1), .int .u64 (P.wrd s 2), .int .u64 (P.wrd s 3)], .agg #[.int .u64 (P.wrd t 0), .int .u64 (P.wrd t 1), .int .u64 (P.wrd t 2), .int .u64 (P.wrd t 3)]] (grow (redrawn W d) os) fun e w'' => e = .returned (.agg #[.int .u64 (P.wrd (s &&& t) 0), .int .u64 (P.wrd (s &&& t) 1), .int .u64 (P.wrd (s &&& t) 2), .int .u64 (P.wrd (s &&& t) 3)]) ∧ ∃ p : Regrown, w'' = grow (redrawn W p.d) p.os := Calls.regrown_of (and_any s t _)
theorem rHas (W : World) (s : BitVec 256) (n : Int) (d : Nat) (os : Array Obj) : Calls Tryd.prog 35 #[.agg #[.int .u64 (P.wrd s 0), .int .u64 (P.wrd s 1), .int .u64 (P.wrd s 2), .int .u64 (P.wrd s 3)], .int .i64 n] (grow (redrawn W d) os) fun e w'' => e = .returned (.bool (P.has s n)) ∧ ∃ p : Regrown, w'' = grow (redrawn W p.d) p.os := Calls.regrown_of (has_any s n _)
theorem rOf (W : World) (v : Value) (zs : List Int) (h : Ints W v zs) (d : Nat) (os : Array Obj) : Calls Tryd.prog 7 #[v] (grow (redrawn W d) os) fun e w'' => e = .returned (.agg #[.int .u64 (P.wrd (P.ofL zs) 0), .int .u64 (P.wrd (P.ofL zs) 1), .int .u64 (P.wrd (P.ofL zs) 2), .int .u64 (P.wrd (P.ofL zs) 3)]) ∧ ∃ p : Regrown, w'' = grow (redrawn W p.d) p.os := Calls.regrown_of (of_ints (h.on (below_regrown W d os)))
theorem has_least {s : BitVec 256} (h : s ≠ 0#256) : P.has s (P.least s) = true := by
  rw [P.least_lst]
  cases hl : P.lst s with
  | nil =>
    exfalso
    apply h
    apply BitVec.eq_of_getLsbD_eq
    intro i hi
    rw [BitVec.getLsbD_zero]
    cases hb : s.getLsbD i with
    | false => rfl
    | true =>
      have : i ∈ P.lst s := by
        unfold P.lst
        simp only [List.mem_filter, List.mem_range]
        exact ⟨hi, hb⟩
      rw [hl] at this
      simp at this
  | cons x l =>
    have hx : x ∈ P.lst s := by rw [hl]; simp
    have hb : s.getLsbD x = true := by
      unfold P.lst at hx
      simp only [List.mem_filter] at hx
      exact hx.2
    show P.has s (x : Int) = true
    rw [P.has_nat]
    exact hb
end W
end Go.Proofs.YtghdjkpndhcplaaDoor
