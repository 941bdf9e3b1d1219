/- MeasureCompares: the walk. -/
import Derived.Test.YteeaojciobmcaaaShown
import Derived.Test.YteeaojciobmcaaaRCmp
import Derived.Test.YteeaojciobmcaaaFrame
import Derived.Lib.QuietBelow
import Derived.Deep.Cut
import Derived.Lib.Hide
import Derived.Deep.QuietTactic
import Derived.BigQuiet
namespace Go.Proofs.Yteeaojciobmcaaa
open Go.RowKit Go.Sort
namespace W
theorem rRCompare (W : World) (s t : P.Tup) (p : Int) (d : Nat) (os : Array Obj) : Calls Try.prog 15 #[.agg #[.bool s.top, .int .i64 s.a, .int .i64 s.b, .int .i64 s.c, .int .i64 s.d], .agg #[.bool t.top, .int .i64 t.a, .int .i64 t.b, .int .i64 t.c, .int .i64 t.d], .int .i64 p] (grow (redrawn W d) os) fun e w'' => e = .returned (.int .i64 (P.Tup.cmp s t p)) ∧ ∃ p : Regrown, w'' = grow (redrawn W p.d) p.os := Calls.regrown_of (rcompare_any s t p _)

set_option maxRecDepth 100000 in
set_option maxHeartbeats 1000000 in
theorem compares_any (s t : P.Tup) (p : Int) (w : World) (_ : Fr.In64 s) (_ : Fr.In64 t) : Calls Try.prog 3 #[.agg (tc s), .agg (tc t), .int .i64 p] w fun e w' => e = .returned (.bool true) ∧ Below w.heap.size w w' := by
  unfold tc
  go_enter Try.func3, Try.ntmps3
  go_wp2_with fail
  have bx0 : Box ((w.alloc (.cells #[.bool s.top, .int .i64 s.a, .int .i64 s.b, .int .i64 s.c, .int .i64 s.d] 24)).alloc (.cells #[.bool t.top, .int .i64 t.a, .int .i64 t.b, .int .i64 t.c, .int .i64 t.d] 24)) (w.heap.size) 24 #[.bool s.top, .int .i64 s.a, .int .i64 s.b, .int .i64 s.c, .int .i64 s.d] := Box.alloc (Box.new w 24 #[.bool s.top, .int .i64 s.a, .int .i64 s.b, .int .i64 s.c, .int .i64 s.d]) (.cells #[.bool t.top, .int .i64 t.a, .int .i64 t.b, .int .i64 t.c, .int .i64 t.d] 24)
  have bx1 : Box ((w.alloc (.cells #[.bool s.top, .int .i64 s.a, .int .i64 s.b, .int .i64 s.c, .int .i64 s.d] 24)).alloc (.cells #[.bool t.top, .int .i64 t.a, .int .i64 t.b, .int .i64 t.c, .int .i64 t.d] 24)) (w.heap.size + 1) 24 #[.bool t.top, .int .i64 t.a, .int .i64 t.b, .int .i64 t.c, .int .i64 t.d] := by
    have := Box.new (w.alloc (.cells #[.bool s.top, .int .i64 s.a, .int .i64 s.b, .int .i64 s.c, .int .i64 s.d] 24)) 24 #[.bool t.top, .int .i64 t.a, .int .i64 t.b, .int .i64 t.c, .int .i64 t.d]
    simpa using this
  have hbq : Below w.heap.size w ((w.alloc (.cells #[.bool s.top, .int .i64 s.a, .int .i64 s.b, .int .i64 s.c, .int .i64 s.d] 24)).alloc (.cells #[.bool t.top, .int .i64 t.a, .int .i64 t.b, .int .i64 t.c, .int .i64 t.d] 24)) := ((Below.refl _ w).alloc (Nat.le_refl _) _).alloc (by simp) _
  have lt0 : w.heap.size < w.heap.size + 1 := Nat.lt_succ_self _
  have hle0 : w.heap.size ≤ w.heap.size := Nat.le_refl _
  generalize ((w.alloc (.cells #[.bool s.top, .int .i64 s.a, .int .i64 s.b, .int .i64 s.c, .int .i64 s.d] 24)).alloc (.cells #[.bool t.top, .int .i64 t.a, .int .i64 t.b, .int .i64 t.c, .int .i64 t.d] 24)) = w0 at bx0 bx1 hbq  ⊢
  have BQa := Lib.hid bx0
  have BQb := Lib.hid bx1
  have W := Lib.hid hbq
  have LTab := Lib.hid lt0
  have LEa := Lib.hid hle0
  clear hbq hle0 bx0 bx1 lt0
  generalize w.heap.size + 1 = qb at BQb LTab ⊢
  obtain ⟨qa, hqa⟩ : ∃ qa, w.heap.size = qa := ⟨_, rfl⟩
  rw [hqa] at BQa LTab ⊢
  have LEa : Hid (w.heap.size ≤ qa) := Lib.hid (by omega)
  clear hqa
  refine (shown_any w0).mono ?_
  rintro e w1 ⟨rfl, hb⟩
  replace BQa := Lib.hid (BQa.out.keep (grown_of_below hb none))
  replace BQb := Lib.hid (BQb.out.keep (grown_of_below hb none))
  replace W := Lib.hid (W.out.trans (hb.mono W.out.size))
  clear hb
  have hbb := BQa.out
  have ac0 : w1.cell? ⟨qa, 0, none⟩ = some (.bool s.top) := hbb.cell 0 _ rfl
  have ac1 : w1.cell? ⟨qa, 1, none⟩ = some (.int .i64 s.a) := hbb.cell 1 _ rfl
  have ac2 : w1.cell? ⟨qa, 2, none⟩ = some (.int .i64 s.b) := hbb.cell 2 _ rfl
  have ac3 : w1.cell? ⟨qa, 3, none⟩ = some (.int .i64 s.c) := hbb.cell 3 _ rfl
  have ac4 : w1.cell? ⟨qa, 4, none⟩ = some (.int .i64 s.d) := hbb.cell 4 _ rfl
  clear hbb
  go_upto_region 3 with (fail)
  have bq : Box (w1.alloc (.cells #[.bool s.top, .int .i64 s.a, .int .i64 s.b, .int .i64 s.c, .int .i64 s.d] 26)) w1.heap.size 26 #[.bool s.top, .int .i64 s.a, .int .i64 s.b, .int .i64 s.c, .int .i64 s.d] := Box.new _ _ _
  have hgq := World.grownBy_alloc w1 (.cells #[.bool s.top, .int .i64 s.a, .int .i64 s.b, .int .i64 s.c, .int .i64 s.d] 26) none
  replace BQa := Lib.hid (BQa.out.keep hgq)
  replace BQb := Lib.hid (BQb.out.keep hgq)
  replace W := Lib.hid (W.out.trans ((below_of_grown hgq).mono W.out.size))
  generalize (w1.alloc (.cells #[.bool s.top, .int .i64 s.a, .int .i64 s.b, .int .i64 s.c, .int .i64 s.d] 26)) = w2 at bq BQa BQb W ⊢
  generalize w1.heap.size = qx at bq ⊢
  have BQx := Lib.hid bq
  clear bq hgq
  clear ac0 ac1 ac2 ac3 ac4
  have hbb := BQb.out
  have bc0 : w2.cell? ⟨qb, 0, none⟩ = some (.bool t.top) := hbb.cell 0 _ rfl
  have bc1 : w2.cell? ⟨qb, 1, none⟩ = some (.int .i64 t.a) := hbb.cell 1 _ rfl
  have bc2 : w2.cell? ⟨qb, 2, none⟩ = some (.int .i64 t.b) := hbb.cell 2 _ rfl
  have bc3 : w2.cell? ⟨qb, 3, none⟩ = some (.int .i64 t.c) := hbb.cell 3 _ rfl
  have bc4 : w2.cell? ⟨qb, 4, none⟩ = some (.int .i64 t.d) := hbb.cell 4 _ rfl
  clear hbb
  go_upto_region 4 with (fail)
  have bq : Box (w2.alloc (.cells #[.bool t.top, .int .i64 t.a, .int .i64 t.b, .int .i64 t.c, .int .i64 t.d] 26)) w2.heap.size 26 #[.bool t.top, .int .i64 t.a, .int .i64 t.b, .int .i64 t.c, .int .i64 t.d] := Box.new _ _ _
  have hgq := World.grownBy_alloc w2 (.cells #[.bool t.top, .int .i64 t.a, .int .i64 t.b, .int .i64 t.c, .int .i64 t.d] 26) none
  replace BQa := Lib.hid (BQa.out.keep hgq)
  replace BQb := Lib.hid (BQb.out.keep hgq)
  replace W := Lib.hid (W.out.trans ((below_of_grown hgq).mono W.out.size))
  replace BQx := Lib.hid (BQx.out.keep hgq)
  generalize (w2.alloc (.cells #[.bool t.top, .int .i64 t.a, .int .i64 t.b, .int .i64 t.c, .int .i64 t.d] 26)) = w3 at bq BQa BQb W BQx ⊢
  generalize w2.heap.size = qy at bq ⊢
  have BQy := Lib.hid bq
  clear bq hgq
  clear bc0 bc1 bc2 bc3 bc4
  have ka0 : ∀ (d : Nat) (os : Array Obj), (grow (redrawn w3 d) os).cell? ⟨qa, 0, none⟩ = some (.bool s.top) := fun d os => (BQa.out.keep (grown_of_below (below_regrown w3 d os) none)).cell 0 _ rfl
  have ka1 : ∀ (d : Nat) (os : Array Obj), (grow (redrawn w3 d) os).cell? ⟨qa, 1, none⟩ = some (.int .i64 s.a) := fun d os => (BQa.out.keep (grown_of_below (below_regrown w3 d os) none)).cell 1 _ rfl
  have ka2 : ∀ (d : Nat) (os : Array Obj), (grow (redrawn w3 d) os).cell? ⟨qa, 2, none⟩ = some (.int .i64 s.b) := fun d os => (BQa.out.keep (grown_of_below (below_regrown w3 d os) none)).cell 2 _ rfl
  have ka3 : ∀ (d : Nat) (os : Array Obj), (grow (redrawn w3 d) os).cell? ⟨qa, 3, none⟩ = some (.int .i64 s.c) := fun d os => (BQa.out.keep (grown_of_below (below_regrown w3 d os) none)).cell 3 _ rfl
  have ka4 : ∀ (d : Nat) (os : Array Obj), (grow (redrawn w3 d) os).cell? ⟨qa, 4, none⟩ = some (.int .i64 s.d) := fun d os => (BQa.out.keep (grown_of_below (below_regrown w3 d os) none)).cell 4 _ rfl
  have kb0 : ∀ (d : Nat) (os : Array Obj), (grow (redrawn w3 d) os).cell? ⟨qb, 0, none⟩ = some (.bool t.top) := fun d os => (BQb.out.keep (grown_of_below (below_regrown w3 d os) none)).cell 0 _ rfl
  have kb1 : ∀ (d : Nat) (os : Array Obj), (grow (redrawn w3 d) os).cell? ⟨qb, 1, none⟩ = some (.int .i64 t.a) := fun d os => (BQb.out.keep (grown_of_below (below_regrown w3 d os) none)).cell 1 _ rfl
  have kb2 : ∀ (d : Nat) (os : Array Obj), (grow (redrawn w3 d) os).cell? ⟨qb, 2, none⟩ = some (.int .i64 t.b) := fun d os => (BQb.out.keep (grown_of_below (below_regrown w3 d os) none)).cell 2 _ rfl
  have kb3 : ∀ (d : Nat) (os : Array Obj), (grow (redrawn w3 d) os).cell? ⟨qb, 3, none⟩ = some (.int .i64 t.c) := fun d os => (BQb.out.keep (grown_of_below (below_regrown w3 d os) none)).cell 3 _ rfl
  have kb4 : ∀ (d : Nat) (os : Array Obj), (grow (redrawn w3 d) os).cell? ⟨qb, 4, none⟩ = some (.int .i64 t.d) := fun d os => (BQb.out.keep (grown_of_below (below_regrown w3 d os) none)).cell 4 _ rfl
  have kx0 : ∀ (d : Nat) (os : Array Obj), (grow (redrawn w3 d) os).cell? ⟨qx, 0, none⟩ = some (.bool s.top) := fun d os => (BQx.out.keep (grown_of_below (below_regrown w3 d os) none)).cell 0 _ rfl
  have kx1 : ∀ (d : Nat) (os : Array Obj), (grow (redrawn w3 d) os).cell? ⟨qx, 1, none⟩ = some (.int .i64 s.a) := fun d os => (BQx.out.keep (grown_of_below (below_regrown w3 d os) none)).cell 1 _ rfl
  have kx2 : ∀ (d : Nat) (os : Array Obj), (grow (redrawn w3 d) os).cell? ⟨qx, 2, none⟩ = some (.int .i64 s.b) := fun d os => (BQx.out.keep (grown_of_below (below_regrown w3 d os) none)).cell 2 _ rfl
  have kx3 : ∀ (d : Nat) (os : Array Obj), (grow (redrawn w3 d) os).cell? ⟨qx, 3, none⟩ = some (.int .i64 s.c) := fun d os => (BQx.out.keep (grown_of_below (below_regrown w3 d os) none)).cell 3 _ rfl
  have kx4 : ∀ (d : Nat) (os : Array Obj), (grow (redrawn w3 d) os).cell? ⟨qx, 4, none⟩ = some (.int .i64 s.d) := fun d os => (BQx.out.keep (grown_of_below (below_regrown w3 d os) none)).cell 4 _ rfl
  have ky0 : ∀ (d : Nat) (os : Array Obj), (grow (redrawn w3 d) os).cell? ⟨qy, 0, none⟩ = some (.bool t.top) := fun d os => (BQy.out.keep (grown_of_below (below_regrown w3 d os) none)).cell 0 _ rfl
  have ky1 : ∀ (d : Nat) (os : Array Obj), (grow (redrawn w3 d) os).cell? ⟨qy, 1, none⟩ = some (.int .i64 t.a) := fun d os => (BQy.out.keep (grown_of_below (below_regrown w3 d os) none)).cell 1 _ rfl
  have ky2 : ∀ (d : Nat) (os : Array Obj), (grow (redrawn w3 d) os).cell? ⟨qy, 2, none⟩ = some (.int .i64 t.b) := fun d os => (BQy.out.keep (grown_of_below (below_regrown w3 d os) none)).cell 2 _ rfl
  have ky3 : ∀ (d : Nat) (os : Array Obj), (grow (redrawn w3 d) os).cell? ⟨qy, 3, none⟩ = some (.int .i64 t.c) := fun d os => (BQy.out.keep (grown_of_below (below_regrown w3 d os) none)).cell 3 _ rfl
  have ky4 : ∀ (d : Nat) (os : Array Obj), (grow (redrawn w3 d) os).cell? ⟨qy, 4, none⟩ = some (.int .i64 t.d) := fun d os => (BQy.out.keep (grown_of_below (below_regrown w3 d os) none)).cell 4 _ rfl
  have c1 := fun d os => rCompare w3 s t p d os
  have c2 := fun d os => rCompare w3 t s p d os
  have c3 := fun d os => rRCompare w3 s t p d os
  have c4 := fun d os => rRCompare w3 t s p d os
  have e1 : (P.Tup.cmp s t p == P.Tup.cmp s t p) = true := beq_self_eq_true _
  have e2 : (P.Tup.cmp t s p == P.Tup.cmp t s p) = true := beq_self_eq_true _
  refine wp_region_quiet_below (by kernel_rfl) (by kernel_rfl) ?_
  repeat (first | go_big_quiet_step (first | with_reducible exact c1 _ _ | with_reducible exact c2 _ _ | with_reducible exact c3 _ _ | with_reducible exact c4 _ _) | quiet_step (first | with_reducible exact c1 _ _ | with_reducible exact c2 _ _ | with_reducible exact c3 _ _ | with_reducible exact c4 _ _))
  refine wpQuiet_nil ?_
  intro _ hw'
  obtain ⟨⟨dq, osq⟩, hw''⟩ := hw'
  subst hw''
  clear c1 c2 c3 c4 e1 e2 ka0 ka1 ka2 ka3 ka4 kb0 kb1 kb2 kb3 kb4 kx0 kx1 kx2 kx3 kx4 ky0 ky1 ky2 ky3 ky4
  have hb := below_regrown w3 dq osq
  replace W := Lib.hid (W.out.trans (hb.mono W.out.size))
  clear hb
  generalize (grow (redrawn w3 dq) osq) = w6 at W ⊢
  go_wp2_with fail
  exact bodyPost_ret (v := .bool true) (by simp [results, Try.results3, go_sem]) rfl ⟨rfl, W.out⟩
end W
end Go.Proofs.Yteeaojciobmcaaa
