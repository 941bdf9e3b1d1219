/- The walks of the functions on sets that call others. -/
import Derived.Test.YtghdjkpndhcplaaDoorMemA
import Derived.Test.YtghdjkpndhcplaaDoorEq
namespace Go.Proofs.YtghdjkpndhcplaaDoor
open Go.RowKit Go.Sort
namespace W

set_option maxHeartbeats 1000000 in
theorem in_any (s t : BitVec 256) (w : World) :
    Calls Tryd.prog 10 #[.agg #[.int .u64 (P.wrd s 0), .int .u64 (P.wrd s 1), .int .u64 (P.wrd s 2), .int .u64 (P.wrd s 3)], .agg #[.int .u64 (P.wrd t 0), .int .u64 (P.wrd t 1), .int .u64 (P.wrd t 2), .int .u64 (P.wrd t 3)]] w fun e w' => e = .returned (.bool (decide (s ||| t = t))) ∧ Below w.heap.size w w' := by
  go_enter Tryd.func10, Tryd.ntmps10
  go_wp2
  obtain ⟨W, hW⟩ : ∃ W : World, W = (w.alloc (.cells #[.int .u64 (P.wrd s 0), .int .u64 (P.wrd s 1), .int .u64 (P.wrd s 2), .int .u64 (P.wrd s 3)] 37)).alloc (.cells #[.int .u64 (P.wrd t 0), .int .u64 (P.wrd t 1), .int .u64 (P.wrd t 2), .int .u64 (P.wrd t 3)] 37) := ⟨_, rfl⟩
  have k00 : ∀ d os, (grow (redrawn W d) os).cell? ⟨w.heap.size, 0, none⟩ = some (.int .u64 (P.wrd s 0)) := cell_regrown (by rw [hW]; simp [go_sem])
  have k01 : ∀ d os, (grow (redrawn W d) os).cell? ⟨w.heap.size, 1, none⟩ = some (.int .u64 (P.wrd s 1)) := cell_regrown (by rw [hW]; simp [go_sem])
  have k02 : ∀ d os, (grow (redrawn W d) os).cell? ⟨w.heap.size, 2, none⟩ = some (.int .u64 (P.wrd s 2)) := cell_regrown (by rw [hW]; simp [go_sem])
  have k03 : ∀ d os, (grow (redrawn W d) os).cell? ⟨w.heap.size, 3, none⟩ = some (.int .u64 (P.wrd s 3)) := cell_regrown (by rw [hW]; simp [go_sem])
  have k10 : ∀ d os, (grow (redrawn W d) os).cell? ⟨w.heap.size + 1, 0, none⟩ = some (.int .u64 (P.wrd t 0)) := cell_regrown (by rw [hW]; simp [go_sem])
  have k11 : ∀ d os, (grow (redrawn W d) os).cell? ⟨w.heap.size + 1, 1, none⟩ = some (.int .u64 (P.wrd t 1)) := cell_regrown (by rw [hW]; simp [go_sem])
  have k12 : ∀ d os, (grow (redrawn W d) os).cell? ⟨w.heap.size + 1, 2, none⟩ = some (.int .u64 (P.wrd t 2)) := cell_regrown (by rw [hW]; simp [go_sem])
  have k13 : ∀ d os, (grow (redrawn W d) os).cell? ⟨w.heap.size + 1, 3, none⟩ = some (.int .u64 (P.wrd t 3)) := cell_regrown (by rw [hW]; simp [go_sem])
  have cO : ∀ d os, Calls Tryd.prog 9 #[.agg #[.int .u64 (P.wrd s 0), .int .u64 (P.wrd s 1), .int .u64 (P.wrd s 2), .int .u64 (P.wrd s 3)], .agg #[.int .u64 (P.wrd t 0), .int .u64 (P.wrd t 1), .int .u64 (P.wrd t 2), .int .u64 (P.wrd t 3)]] (grow (redrawn W d) os) fun e w'' => e = .returned (.agg #[.int .u64 (P.wrd (s ||| t) 0), .int .u64 (P.wrd (s ||| t) 1), .int .u64 (P.wrd (s ||| t) 2), .int .u64 (P.wrd (s ||| t) 3)]) ∧ ∃ p : Regrown, w'' = grow (redrawn W p.d) p.os := fun d os => Calls.regrown_of (or_any s t _)
  have HB : Below w.heap.size w W := by rw [hW]; exact ((Below.refl _ _).alloc (Nat.le_refl _) _).alloc (by simp) _
  have HS : w.heap.size ≤ W.heap.size := HB.size
  rw [← hW]
  clear hW
  have he := fun w => set_eq (s ||| t) t w
  refine wp_region_quiet_below (by kernel_rfl) (by kernel_rfl) ?_
  repeat (quiet_step (first | exact cO _ _))
  refine wpQuiet_nil ?_
  intro _ hw'
  obtain ⟨⟨dq, osq⟩, hw''⟩ := hw'
  subst hw''
  go_wp2
  go_ret
  exact ⟨rfl, HB.trans ((below_regrown W dq osq).mono HS)⟩
end W
end Go.Proofs.YtghdjkpndhcplaaDoor
