/- A position that may be: the program's. -/
import Derived.Test.YtghdjkpndhcplaaDoorMoves
import Derived.Lib.QuietBelow
namespace Go.Proofs.YtghdjkpndhcplaaDoor
open Go.RowKit
namespace W
open Go.Sort (grow)

set_option maxRecDepth 100000 in
set_option maxHeartbeats 1000000 in
theorem check_any (g : P.G) (v : Value) (i : Nat) (w : World) (hv : GameV w v g) (hi : i < g.owner.length) (h1 : g.prio.length = g.owner.length) (h2 : g.moves.length = g.owner.length) :
    Calls Tryd.prog 11 #[v, .int .i64 (i : Int)] w fun e w' => e = .returned (.int .i64 ((g.check i : Nat) : Int)) ∧ Below w.heap.size w w' := by
  obtain ⟨a, b, c, rfl, ⟨ao, ca, rfl, hza, ha⟩, ⟨bo, cb, rfl, hzb, hb⟩, ⟨co, cc, rfl, hzc, hc⟩⟩ := hv
  have hip : i < g.prio.length := by omega
  have him : i < g.moves.length := by omega
  obtain ⟨ba, oa, rfl, la, ka⟩ := ha.resolve_left (fun e => by rw [e] at hi; exact absurd hi (Nat.not_lt_zero i))
  obtain ⟨bb, ob, rfl, lb, kb⟩ := hb.resolve_left (fun e => by rw [e] at hip; exact absurd hip (Nat.not_lt_zero i))
  obtain ⟨bc, oc, rfl, lc, kc⟩ := hc.resolve_left (fun e => by rw [e] at him; exact absurd him (Nat.not_lt_zero i))
  have c1 := ka i hi
  have c2 := kb i hip
  obtain ⟨x, c3, hx⟩ := kc i him
  clear ha hb hc ka kb kc
  unfold P.G.check
  obtain ⟨n, hn⟩ : ∃ n, g.owner.length = n := ⟨_, rfl⟩
  rw [h1, h2]
  rw [hn] at hi hza ⊢
  rw [h1, hn] at hip hzb
  rw [h2, hn] at him hzc
  obtain ⟨o, ho⟩ : ∃ o, g.owner.getD i 0 = o := ⟨_, rfl⟩
  obtain ⟨p, hp⟩ : ∃ p, g.prio.getD i 0 = p := ⟨_, rfl⟩
  obtain ⟨l, hl⟩ : ∃ l, g.moves.getD i [] = l := ⟨_, rfl⟩
  rw [ho] at c1 ⊢
  rw [hp] at c2 ⊢
  rw [hl] at hx ⊢
  have i1 : (i : Int) < (n : Int) := by omega
  have HX := Lib.hid hx
  obtain ⟨xo, xc, rfl, hzl, _⟩ := hx
  clear ho hp hl hip him hn h1 h2
  unfold P.check
  by_cases o0 : o = 0
  · have d0 : (o != 0) = false := by rw [bne_eq_false_iff_eq]; exact o0
    rw [if_neg (by omega)]
    clear o0
    by_cases p1 : p < 0
    · have e1 : decide (p < 0) = true := decide_eq_true p1
      rw [if_pos (.inl p1)]
      go_enter Tryd.func11, Tryd.ntmps11
      go_wp2_with fail
      go_ret
      exact ⟨rfl, (Below.refl _ _).alloc (Nat.le_refl _) _⟩
    · have e1 : decide (p < 0) = false := decide_eq_false p1
      by_cases p2 : 7 < p
      · have e2 : decide (7 < p) = true := decide_eq_true p2
        rw [if_pos (.inr p2)]
        go_enter Tryd.func11, Tryd.ntmps11
        go_wp2_with fail
        go_ret
        exact ⟨rfl, (Below.refl _ _).alloc (Nat.le_refl _) _⟩
      · have e2 : decide (7 < p) = false := decide_eq_false p2
        rw [if_neg (by omega)]
        cases l with
        | nil =>
          rw [if_pos rfl]
          go_enter Tryd.func11, Tryd.ntmps11
          go_wp2_with fail
          go_ret
          exact ⟨rfl, (Below.refl _ _).alloc (Nat.le_refl _) _⟩
        | cons m r =>
          rw [if_neg (List.cons_ne_nil _ _)]
          obtain ⟨l, hl⟩ : ∃ l, m :: r = l := ⟨_, rfl⟩
          have hll : 0 < l.length := by rw [← hl]; exact Nat.succ_pos _
          rw [hl] at HX hzl c3 ⊢
          have e3 : (((l.length : Nat) : Int) == 0) = false := by rw [beq_eq_false_iff_ne]; omega
          clear hl
          cases hr : P.rise (n : Int) (-1) l with
          | true =>
            rw [if_pos rfl]
            have HR := Lib.hid hr
            clear hr
            go_enter Tryd.func11, Tryd.ntmps11
            go_wp2_with fail
            generalize hW : w.alloc (.cells #[.slice (some ⟨ba, oa, none⟩) n ca, .slice (some ⟨bb, ob, none⟩) n cb, .slice (some ⟨bc, oc, none⟩) n cc] 25) = W
            have hb : Below w.heap.size w W := by rw [← hW]; exact (Below.refl _ _).alloc (Nat.le_refl _) _
            have k0 : ∀ d os, (grow (redrawn W d) os).cell? ⟨w.heap.size, 0, none⟩ = some (.slice (some ⟨ba, oa, none⟩) n ca) := fun d os => cell_regrown (by rw [← hW]; simp) d os
            have k2 : ∀ d os, (grow (redrawn W d) os).cell? ⟨w.heap.size, 2, none⟩ = some (.slice (some ⟨bc, oc, none⟩) n cc) := fun d os => cell_regrown (by rw [← hW]; simp) d os
            have k3 : ∀ d os, (grow (redrawn W d) os).cell? ⟨bc, oc + i, none⟩ = some (.slice xo l.length xc) := fun d os => cell_regrown ((hb.cell (p := ⟨bc, oc + i, none⟩) lc).trans c3) d os
            have kC : ∀ d os, Calls Tryd.prog 20 #[.slice xo l.length xc, .int .i64 (n : Int)] (grow (redrawn W d) os) fun e w'' => e = .returned (.bool (P.rise (n : Int) (-1) l)) ∧ ∃ p : Regrown, w'' = grow (redrawn W p.d) p.os := fun d os => (areMoves_any _ l (n : Int) _ ((HX.out.on hb).on (below_regrown W d os))).mono fun e w'' ⟨h1, h2⟩ => ⟨h1, ⟨⟨d, os⟩, h2⟩⟩
            rw [HR.out] at kC
            have HB := Lib.hid hb
            clear hb hW c1 c2 c3
            refine wp_region_quiet_below (by kernel_rfl) (by kernel_rfl) ?_
            repeat (first | go_big_quiet_step (first | (go_at_call 20; exact kC _ _)) | quiet_step (first | (go_at_call 20; exact kC _ _)))
            refine wpQuiet_nil ?_
            intro _ hw'
            obtain ⟨⟨dq, osq⟩, hw''⟩ := hw'
            subst hw''
            go_wp2_with fail
            go_ret
            exact ⟨rfl, HB.out.trans ((below_regrown W dq osq).mono HB.out.size)⟩
          | false =>
            rw [if_neg (by decide)]
            have HR := Lib.hid hr
            clear hr
            go_enter Tryd.func11, Tryd.ntmps11
            go_wp2_with fail
            generalize hW : w.alloc (.cells #[.slice (some ⟨ba, oa, none⟩) n ca, .slice (some ⟨bb, ob, none⟩) n cb, .slice (some ⟨bc, oc, none⟩) n cc] 25) = W
            have hb : Below w.heap.size w W := by rw [← hW]; exact (Below.refl _ _).alloc (Nat.le_refl _) _
            have k0 : ∀ d os, (grow (redrawn W d) os).cell? ⟨w.heap.size, 0, none⟩ = some (.slice (some ⟨ba, oa, none⟩) n ca) := fun d os => cell_regrown (by rw [← hW]; simp) d os
            have k2 : ∀ d os, (grow (redrawn W d) os).cell? ⟨w.heap.size, 2, none⟩ = some (.slice (some ⟨bc, oc, none⟩) n cc) := fun d os => cell_regrown (by rw [← hW]; simp) d os
            have k3 : ∀ d os, (grow (redrawn W d) os).cell? ⟨bc, oc + i, none⟩ = some (.slice xo l.length xc) := fun d os => cell_regrown ((hb.cell (p := ⟨bc, oc + i, none⟩) lc).trans c3) d os
            have kC : ∀ d os, Calls Tryd.prog 20 #[.slice xo l.length xc, .int .i64 (n : Int)] (grow (redrawn W d) os) fun e w'' => e = .returned (.bool (P.rise (n : Int) (-1) l)) ∧ ∃ p : Regrown, w'' = grow (redrawn W p.d) p.os := fun d os => (areMoves_any _ l (n : Int) _ ((HX.out.on hb).on (below_regrown W d os))).mono fun e w'' ⟨h1, h2⟩ => ⟨h1, ⟨⟨d, os⟩, h2⟩⟩
            rw [HR.out] at kC
            have HB := Lib.hid hb
            clear hb hW c1 c2 c3
            refine wp_region_quiet_below (by kernel_rfl) (by kernel_rfl) ?_
            repeat (first | go_big_quiet_step (first | (go_at_call 20; exact kC _ _)) | quiet_step (first | (go_at_call 20; exact kC _ _)))
            refine wpQuiet_nil ?_
            intro _ hw'
            obtain ⟨⟨dq, osq⟩, hw''⟩ := hw'
            subst hw''
            go_wp2_with fail
            go_ret
            exact ⟨rfl, HB.out.trans ((below_regrown W dq osq).mono HB.out.size)⟩
  · have d0 : (o != 0) = true := by rw [bne_iff_ne]; exact o0
    by_cases o1 : o = 1
    · have d1 : (o != 1) = false := by rw [bne_eq_false_iff_eq]; exact o1
      rw [if_neg (by omega)]
      clear o0 o1
      by_cases p1 : p < 0
      · have e1 : decide (p < 0) = true := decide_eq_true p1
        rw [if_pos (.inl p1)]
        go_enter Tryd.func11, Tryd.ntmps11
        go_wp2_with fail
        go_ret
        exact ⟨rfl, (Below.refl _ _).alloc (Nat.le_refl _) _⟩
      · have e1 : decide (p < 0) = false := decide_eq_false p1
        by_cases p2 : 7 < p
        · have e2 : decide (7 < p) = true := decide_eq_true p2
          rw [if_pos (.inr p2)]
          go_enter Tryd.func11, Tryd.ntmps11
          go_wp2_with fail
          go_ret
          exact ⟨rfl, (Below.refl _ _).alloc (Nat.le_refl _) _⟩
        · have e2 : decide (7 < p) = false := decide_eq_false p2
          rw [if_neg (by omega)]
          cases l with
          | nil =>
            rw [if_pos rfl]
            go_enter Tryd.func11, Tryd.ntmps11
            go_wp2_with fail
            go_ret
            exact ⟨rfl, (Below.refl _ _).alloc (Nat.le_refl _) _⟩
          | cons m r =>
            rw [if_neg (List.cons_ne_nil _ _)]
            obtain ⟨l, hl⟩ : ∃ l, m :: r = l := ⟨_, rfl⟩
            have hll : 0 < l.length := by rw [← hl]; exact Nat.succ_pos _
            rw [hl] at HX hzl c3 ⊢
            have e3 : (((l.length : Nat) : Int) == 0) = false := by rw [beq_eq_false_iff_ne]; omega
            clear hl
            cases hr : P.rise (n : Int) (-1) l with
            | true =>
              rw [if_pos rfl]
              have HR := Lib.hid hr
              clear hr
              go_enter Tryd.func11, Tryd.ntmps11
              go_wp2_with fail
              generalize hW : w.alloc (.cells #[.slice (some ⟨ba, oa, none⟩) n ca, .slice (some ⟨bb, ob, none⟩) n cb, .slice (some ⟨bc, oc, none⟩) n cc] 25) = W
              have hb : Below w.heap.size w W := by rw [← hW]; exact (Below.refl _ _).alloc (Nat.le_refl _) _
              have k0 : ∀ d os, (grow (redrawn W d) os).cell? ⟨w.heap.size, 0, none⟩ = some (.slice (some ⟨ba, oa, none⟩) n ca) := fun d os => cell_regrown (by rw [← hW]; simp) d os
              have k2 : ∀ d os, (grow (redrawn W d) os).cell? ⟨w.heap.size, 2, none⟩ = some (.slice (some ⟨bc, oc, none⟩) n cc) := fun d os => cell_regrown (by rw [← hW]; simp) d os
              have k3 : ∀ d os, (grow (redrawn W d) os).cell? ⟨bc, oc + i, none⟩ = some (.slice xo l.length xc) := fun d os => cell_regrown ((hb.cell (p := ⟨bc, oc + i, none⟩) lc).trans c3) d os
              have kC : ∀ d os, Calls Tryd.prog 20 #[.slice xo l.length xc, .int .i64 (n : Int)] (grow (redrawn W d) os) fun e w'' => e = .returned (.bool (P.rise (n : Int) (-1) l)) ∧ ∃ p : Regrown, w'' = grow (redrawn W p.d) p.os := fun d os => (areMoves_any _ l (n : Int) _ ((HX.out.on hb).on (below_regrown W d os))).mono fun e w'' ⟨h1, h2⟩ => ⟨h1, ⟨⟨d, os⟩, h2⟩⟩
              rw [HR.out] at kC
              have HB := Lib.hid hb
              clear hb hW c1 c2 c3
              refine wp_region_quiet_below (by kernel_rfl) (by kernel_rfl) ?_
              repeat (first | go_big_quiet_step (first | (go_at_call 20; exact kC _ _)) | quiet_step (first | (go_at_call 20; exact kC _ _)))
              refine wpQuiet_nil ?_
              intro _ hw'
              obtain ⟨⟨dq, osq⟩, hw''⟩ := hw'
              subst hw''
              go_wp2_with fail
              go_ret
              exact ⟨rfl, HB.out.trans ((below_regrown W dq osq).mono HB.out.size)⟩
            | false =>
              rw [if_neg (by decide)]
              have HR := Lib.hid hr
              clear hr
              go_enter Tryd.func11, Tryd.ntmps11
              go_wp2_with fail
              generalize hW : w.alloc (.cells #[.slice (some ⟨ba, oa, none⟩) n ca, .slice (some ⟨bb, ob, none⟩) n cb, .slice (some ⟨bc, oc, none⟩) n cc] 25) = W
              have hb : Below w.heap.size w W := by rw [← hW]; exact (Below.refl _ _).alloc (Nat.le_refl _) _
              have k0 : ∀ d os, (grow (redrawn W d) os).cell? ⟨w.heap.size, 0, none⟩ = some (.slice (some ⟨ba, oa, none⟩) n ca) := fun d os => cell_regrown (by rw [← hW]; simp) d os
              have k2 : ∀ d os, (grow (redrawn W d) os).cell? ⟨w.heap.size, 2, none⟩ = some (.slice (some ⟨bc, oc, none⟩) n cc) := fun d os => cell_regrown (by rw [← hW]; simp) d os
              have k3 : ∀ d os, (grow (redrawn W d) os).cell? ⟨bc, oc + i, none⟩ = some (.slice xo l.length xc) := fun d os => cell_regrown ((hb.cell (p := ⟨bc, oc + i, none⟩) lc).trans c3) d os
              have kC : ∀ d os, Calls Tryd.prog 20 #[.slice xo l.length xc, .int .i64 (n : Int)] (grow (redrawn W d) os) fun e w'' => e = .returned (.bool (P.rise (n : Int) (-1) l)) ∧ ∃ p : Regrown, w'' = grow (redrawn W p.d) p.os := fun d os => (areMoves_any _ l (n : Int) _ ((HX.out.on hb).on (below_regrown W d os))).mono fun e w'' ⟨h1, h2⟩ => ⟨h1, ⟨⟨d, os⟩, h2⟩⟩
              rw [HR.out] at kC
              have HB := Lib.hid hb
              clear hb hW c1 c2 c3
              refine wp_region_quiet_below (by kernel_rfl) (by kernel_rfl) ?_
              repeat (first | go_big_quiet_step (first | (go_at_call 20; exact kC _ _)) | quiet_step (first | (go_at_call 20; exact kC _ _)))
              refine wpQuiet_nil ?_
              intro _ hw'
              obtain ⟨⟨dq, osq⟩, hw''⟩ := hw'
              subst hw''
              go_wp2_with fail
              go_ret
              exact ⟨rfl, HB.out.trans ((below_regrown W dq osq).mono HB.out.size)⟩
    · have d1 : (o != 1) = true := by rw [bne_iff_ne]; exact o1
      rw [if_pos ⟨o0, o1⟩]
      clear o0 o1
      go_enter Tryd.func11, Tryd.ntmps11
      go_wp2_with fail
      go_ret
      exact ⟨rfl, (Below.refl _ _).alloc (Nat.le_refl _) _⟩
end W
end Go.Proofs.YtghdjkpndhcplaaDoor
