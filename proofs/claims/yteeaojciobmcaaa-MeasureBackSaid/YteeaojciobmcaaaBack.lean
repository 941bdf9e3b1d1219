/- MeasureBack: the walk. -/
import Derived.Test.YteeaojciobmcaaaShown
import Derived.Test.YteeaojciobmcaaaTupsF
import Derived.Test.YteeaojciobmcaaaFrame
import Derived.Lib.QuietBelow
import Derived.Deep.Cut
import Derived.Deep.CutRange
import Derived.Lib.Hide
import Derived.Deep.QuietTactic
import Derived.BigQuiet
namespace Go.Proofs.Yteeaojciobmcaaa
open Go.RowKit Go.Sort
namespace W

theorem cmp_zero_le (s t : P.Tup) : P.Tup.cmp s t 0 = 0 → P.Tup.le s t ∧ P.Tup.le t s := fun h => ⟨(P.Tup.cmp_le s t).1 (by omega), (P.Tup.cmp_le t s).1 (by rw [P.Tup.cmp_back s t]; omega)⟩
theorem three_int (x y z : Int) (h1 : x = -1 ∨ x = 0 ∨ x = 1) (h2 : y = -1 ∨ y = 0 ∨ y = 1) (h3 : z = -1 ∨ z = 0 ∨ z = 1) (up : x ≤ 0 → y ≤ 0 → z ≤ 0) (down : 0 ≤ x → 0 ≤ y → 0 ≤ z)
    (q1 : z ≤ 0 → 0 ≤ y → x ≤ 0) (q2 : 0 ≤ x → z ≤ 0 → y ≤ 0) (q3 : y ≤ 0 → 0 ≤ z → 0 ≤ x) (q4 : 0 ≤ z → x ≤ 0 → 0 ≤ y) : (x = -1 ∧ y = -1 ∧ z = -1) ∨ (x = -1 ∧ y = 0 ∧ z = -1) ∨ (x = 0 ∧ y = -1 ∧ z = -1) ∨ (x = 0 ∧ y = 0 ∧ z = 0) ∨ (x = 0 ∧ y = 1 ∧ z = 1) ∨ (x = 1 ∧ y = 0 ∧ z = 1) ∨ (x = 1 ∧ y = 1 ∧ z = 1) ∨ (x = -1 ∧ y = 1 ∧ z = -1) ∨ (x = -1 ∧ y = 1 ∧ z = 0) ∨ (x = -1 ∧ y = 1 ∧ z = 1) ∨ (x = 1 ∧ y = -1 ∧ z = -1) ∨ (x = 1 ∧ y = -1 ∧ z = 0) ∨ (x = 1 ∧ y = -1 ∧ z = 1) := by
  rcases h1 with rfl | rfl | rfl <;> rcases h2 with rfl | rfl | rfl <;> rcases h3 with rfl | rfl | rfl <;> first | (exfalso; omega) | simp
/-- How three tuples can stand. -/
theorem three (s t u : P.Tup) : (P.Tup.cmp s t 0 = -1 ∧ P.Tup.cmp t u 0 = -1 ∧ P.Tup.cmp s u 0 = -1) ∨ (P.Tup.cmp s t 0 = -1 ∧ P.Tup.cmp t u 0 = 0 ∧ P.Tup.cmp s u 0 = -1) ∨ (P.Tup.cmp s t 0 = 0 ∧ P.Tup.cmp t u 0 = -1 ∧ P.Tup.cmp s u 0 = -1) ∨ (P.Tup.cmp s t 0 = 0 ∧ P.Tup.cmp t u 0 = 0 ∧ P.Tup.cmp s u 0 = 0) ∨ (P.Tup.cmp s t 0 = 0 ∧ P.Tup.cmp t u 0 = 1 ∧ P.Tup.cmp s u 0 = 1) ∨ (P.Tup.cmp s t 0 = 1 ∧ P.Tup.cmp t u 0 = 0 ∧ P.Tup.cmp s u 0 = 1) ∨ (P.Tup.cmp s t 0 = 1 ∧ P.Tup.cmp t u 0 = 1 ∧ P.Tup.cmp s u 0 = 1) ∨ (P.Tup.cmp s t 0 = -1 ∧ P.Tup.cmp t u 0 = 1 ∧ P.Tup.cmp s u 0 = -1) ∨ (P.Tup.cmp s t 0 = -1 ∧ P.Tup.cmp t u 0 = 1 ∧ P.Tup.cmp s u 0 = 0) ∨ (P.Tup.cmp s t 0 = -1 ∧ P.Tup.cmp t u 0 = 1 ∧ P.Tup.cmp s u 0 = 1) ∨ (P.Tup.cmp s t 0 = 1 ∧ P.Tup.cmp t u 0 = -1 ∧ P.Tup.cmp s u 0 = -1) ∨ (P.Tup.cmp s t 0 = 1 ∧ P.Tup.cmp t u 0 = -1 ∧ P.Tup.cmp s u 0 = 0) ∨ (P.Tup.cmp s t 0 = 1 ∧ P.Tup.cmp t u 0 = -1 ∧ P.Tup.cmp s u 0 = 1) := by
  have b1 := P.Tup.cmp_back s t 0
  have b2 := P.Tup.cmp_back t u 0
  have b3 := P.Tup.cmp_back s u 0
  refine three_int _ _ _ (P.Tup.cmp_one s t 0) (P.Tup.cmp_one t u 0) (P.Tup.cmp_one s u 0) (fun a b => (P.Tup.cmp_le s u).2 (P.Tup.le_trans ((P.Tup.cmp_le s t).1 a) ((P.Tup.cmp_le t u).1 b))) (fun a b => ?_) (fun a b => ?_) (fun a b => ?_) (fun a b => ?_) (fun a b => ?_)
  · have := (P.Tup.cmp_le u s).2 (P.Tup.le_trans ((P.Tup.cmp_le u t).1 (by omega)) ((P.Tup.cmp_le t s).1 (by omega)))
    omega
  · exact (P.Tup.cmp_le s t).2 (P.Tup.le_trans ((P.Tup.cmp_le s u).1 a) ((P.Tup.cmp_le u t).1 (by omega)))
  · exact (P.Tup.cmp_le t u).2 (P.Tup.le_trans ((P.Tup.cmp_le t s).1 (by omega)) ((P.Tup.cmp_le s u).1 b))
  · have := (P.Tup.cmp_le t s).2 (P.Tup.le_trans ((P.Tup.cmp_le t u).1 a) ((P.Tup.cmp_le u s).1 (by omega)))
    omega
  · have := (P.Tup.cmp_le u t).2 (P.Tup.le_trans ((P.Tup.cmp_le u s).1 (by omega)) ((P.Tup.cmp_le s t).1 b))
    omega
theorem dig_less {p q x y r r' : Int} (h : P.Tup.dig (p + 1) q x y r' ≠ 0) (hr : r' ≠ 0 → r = r') : P.Tup.dig p q x y r = P.Tup.dig (p + 1) q x y r' := by
  unfold P.Tup.dig at *
  by_cases hq : q < p + 1
  · rw [if_pos hq] at h
    exact absurd rfl h
  · rw [if_neg hq] at h ⊢
    rw [if_neg (by omega)]
    by_cases h1 : x < y
    · rw [if_pos h1, if_pos h1]
    · rw [if_neg h1] at h ⊢
      rw [if_neg h1]
      by_cases h2 : y < x
      · rw [if_pos h2, if_pos h2]
      · rw [if_neg h2] at h ⊢
        rw [if_neg h2]
        exact hr h
theorem cmp_less (s t : P.Tup) (p : Int) (h : P.Tup.cmp s t (p + 1) ≠ 0) : P.Tup.cmp s t p = P.Tup.cmp s t (p + 1) := by
  unfold P.Tup.cmp at *
  split at h
  · rename_i h1
    rw [if_pos h1, if_pos h1]
  · rename_i h1
    rw [if_neg h1, if_neg h1]
    split at h
    · rename_i h2
      rw [if_pos h2, if_pos h2]
    · rename_i h2
      rw [if_neg h2, if_neg h2]
      exact dig_less h (fun h => dig_less h (fun h => dig_less h (fun h => dig_less h (fun h => absurd rfl h))))
set_option maxRecDepth 100000 in
set_option maxHeartbeats 4000000 in
theorem back_any (s t u : P.Tup) (w : World) (_ : Fr.In64 s) (_ : Fr.In64 t) (_ : Fr.In64 u) : Calls Try.prog 11 #[.agg (tc s), .agg (tc t), .agg (tc u)] w fun e w' => e = .returned (.bool true) ∧ Below w.heap.size w w' := by
  unfold tc
  go_enter Try.func11, Try.ntmps11
  go_wp2_with fail
  have bx0 : Box (((w.alloc (.cells #[.bool s.top, .int .i64 s.a, .int .i64 s.b, .int .i64 s.c, .int .i64 s.d] 24)).alloc (.cells #[.bool t.top, .int .i64 t.a, .int .i64 t.b, .int .i64 t.c, .int .i64 t.d] 24)).alloc (.cells #[.bool u.top, .int .i64 u.a, .int .i64 u.b, .int .i64 u.c, .int .i64 u.d] 24)) (w.heap.size) 24 #[.bool s.top, .int .i64 s.a, .int .i64 s.b, .int .i64 s.c, .int .i64 s.d] := Box.alloc (Box.alloc (Box.new w 24 #[.bool s.top, .int .i64 s.a, .int .i64 s.b, .int .i64 s.c, .int .i64 s.d]) (.cells #[.bool t.top, .int .i64 t.a, .int .i64 t.b, .int .i64 t.c, .int .i64 t.d] 24)) (.cells #[.bool u.top, .int .i64 u.a, .int .i64 u.b, .int .i64 u.c, .int .i64 u.d] 24)
  have bx1 : Box (((w.alloc (.cells #[.bool s.top, .int .i64 s.a, .int .i64 s.b, .int .i64 s.c, .int .i64 s.d] 24)).alloc (.cells #[.bool t.top, .int .i64 t.a, .int .i64 t.b, .int .i64 t.c, .int .i64 t.d] 24)).alloc (.cells #[.bool u.top, .int .i64 u.a, .int .i64 u.b, .int .i64 u.c, .int .i64 u.d] 24)) (w.heap.size + 1) 24 #[.bool t.top, .int .i64 t.a, .int .i64 t.b, .int .i64 t.c, .int .i64 t.d] := by
    have := Box.alloc (Box.new (w.alloc (.cells #[.bool s.top, .int .i64 s.a, .int .i64 s.b, .int .i64 s.c, .int .i64 s.d] 24)) 24 #[.bool t.top, .int .i64 t.a, .int .i64 t.b, .int .i64 t.c, .int .i64 t.d]) (.cells #[.bool u.top, .int .i64 u.a, .int .i64 u.b, .int .i64 u.c, .int .i64 u.d] 24)
    simpa using this
  have bx2 : Box (((w.alloc (.cells #[.bool s.top, .int .i64 s.a, .int .i64 s.b, .int .i64 s.c, .int .i64 s.d] 24)).alloc (.cells #[.bool t.top, .int .i64 t.a, .int .i64 t.b, .int .i64 t.c, .int .i64 t.d] 24)).alloc (.cells #[.bool u.top, .int .i64 u.a, .int .i64 u.b, .int .i64 u.c, .int .i64 u.d] 24)) (w.heap.size + 1 + 1) 24 #[.bool u.top, .int .i64 u.a, .int .i64 u.b, .int .i64 u.c, .int .i64 u.d] := by
    have := Box.new ((w.alloc (.cells #[.bool s.top, .int .i64 s.a, .int .i64 s.b, .int .i64 s.c, .int .i64 s.d] 24)).alloc (.cells #[.bool t.top, .int .i64 t.a, .int .i64 t.b, .int .i64 t.c, .int .i64 t.d] 24)) 24 #[.bool u.top, .int .i64 u.a, .int .i64 u.b, .int .i64 u.c, .int .i64 u.d]
    simpa using this
  have hbq : Below w.heap.size w (((w.alloc (.cells #[.bool s.top, .int .i64 s.a, .int .i64 s.b, .int .i64 s.c, .int .i64 s.d] 24)).alloc (.cells #[.bool t.top, .int .i64 t.a, .int .i64 t.b, .int .i64 t.c, .int .i64 t.d] 24)).alloc (.cells #[.bool u.top, .int .i64 u.a, .int .i64 u.b, .int .i64 u.c, .int .i64 u.d] 24)) := (((Below.refl _ w).alloc (Nat.le_refl _) _).alloc (by simp) _).alloc (by simp; omega) _
  have lt0 : w.heap.size < w.heap.size + 1 := Nat.lt_succ_self _
  have lt1 : w.heap.size + 1 < w.heap.size + 1 + 1 := Nat.lt_succ_self _
  have hle0 : w.heap.size ≤ w.heap.size := Nat.le_refl _
  generalize (((w.alloc (.cells #[.bool s.top, .int .i64 s.a, .int .i64 s.b, .int .i64 s.c, .int .i64 s.d] 24)).alloc (.cells #[.bool t.top, .int .i64 t.a, .int .i64 t.b, .int .i64 t.c, .int .i64 t.d] 24)).alloc (.cells #[.bool u.top, .int .i64 u.a, .int .i64 u.b, .int .i64 u.c, .int .i64 u.d] 24)) = w0 at bx0 bx1 bx2 hbq  ⊢
  have BQa := Lib.hid bx0
  have BQb := Lib.hid bx1
  have BQc := Lib.hid bx2
  have W := Lib.hid hbq
  have LTab := Lib.hid lt0
  have LTbc := Lib.hid lt1
  have LEa := Lib.hid hle0
  clear hbq hle0 bx0 bx1 bx2 lt0 lt1
  generalize w.heap.size + 1 + 1 = qc at BQc LTbc ⊢
  generalize w.heap.size + 1 = qb at BQb LTbc LTab ⊢
  obtain ⟨qa, hqa⟩ : ∃ qa, w.heap.size = qa := ⟨_, rfl⟩
  rw [hqa] at BQa LTab ⊢
  have LEa : Hid (w.heap.size ≤ qa) := Lib.hid (by omega)
  clear hqa
  refine (shown_any w0).mono ?_
  rintro e w1 ⟨rfl, hb⟩
  replace BQa := Lib.hid (BQa.out.keep (grown_of_below hb none))
  replace BQb := Lib.hid (BQb.out.keep (grown_of_below hb none))
  replace BQc := Lib.hid (BQc.out.keep (grown_of_below hb none))
  replace W := Lib.hid (W.out.trans (hb.mono W.out.size))
  clear hb
  have hbb := BQa.out
  have ac0 : w1.cell? ⟨qa, 0, none⟩ = some (.bool s.top) := hbb.cell 0 _ rfl
  have ac1 : w1.cell? ⟨qa, 1, none⟩ = some (.int .i64 s.a) := hbb.cell 1 _ rfl
  have ac2 : w1.cell? ⟨qa, 2, none⟩ = some (.int .i64 s.b) := hbb.cell 2 _ rfl
  have ac3 : w1.cell? ⟨qa, 3, none⟩ = some (.int .i64 s.c) := hbb.cell 3 _ rfl
  have ac4 : w1.cell? ⟨qa, 4, none⟩ = some (.int .i64 s.d) := hbb.cell 4 _ rfl
  clear hbb
  have hbb := BQb.out
  have bc0 : w1.cell? ⟨qb, 0, none⟩ = some (.bool t.top) := hbb.cell 0 _ rfl
  have bc1 : w1.cell? ⟨qb, 1, none⟩ = some (.int .i64 t.a) := hbb.cell 1 _ rfl
  have bc2 : w1.cell? ⟨qb, 2, none⟩ = some (.int .i64 t.b) := hbb.cell 2 _ rfl
  have bc3 : w1.cell? ⟨qb, 3, none⟩ = some (.int .i64 t.c) := hbb.cell 3 _ rfl
  have bc4 : w1.cell? ⟨qb, 4, none⟩ = some (.int .i64 t.d) := hbb.cell 4 _ rfl
  clear hbb
  have hbb := BQc.out
  have cc0 : w1.cell? ⟨qc, 0, none⟩ = some (.bool u.top) := hbb.cell 0 _ rfl
  have cc1 : w1.cell? ⟨qc, 1, none⟩ = some (.int .i64 u.a) := hbb.cell 1 _ rfl
  have cc2 : w1.cell? ⟨qc, 2, none⟩ = some (.int .i64 u.b) := hbb.cell 2 _ rfl
  have cc3 : w1.cell? ⟨qc, 3, none⟩ = some (.int .i64 u.c) := hbb.cell 3 _ rfl
  have cc4 : w1.cell? ⟨qc, 4, none⟩ = some (.int .i64 u.d) := hbb.cell 4 _ rfl
  clear hbb
  go_wp2_with fail
  clear ac0 ac1 ac2 ac3 ac4 bc0 bc1 bc2 bc3 bc4 cc0 cc1 cc2 cc3 cc4
  have bq : Box (w1.alloc (.cells #[.bool s.top, .int .i64 s.a, .int .i64 s.b, .int .i64 s.c, .int .i64 s.d, .bool t.top, .int .i64 t.a, .int .i64 t.b, .int .i64 t.c, .int .i64 t.d, .bool u.top, .int .i64 u.a, .int .i64 u.b, .int .i64 u.c, .int .i64 u.d] 24)) w1.heap.size 24 (flatT [s, t, u]) := Box.new _ _ _
  have hgq := World.grownBy_alloc w1 (.cells #[.bool s.top, .int .i64 s.a, .int .i64 s.b, .int .i64 s.c, .int .i64 s.d, .bool t.top, .int .i64 t.a, .int .i64 t.b, .int .i64 t.c, .int .i64 t.d, .bool u.top, .int .i64 u.a, .int .i64 u.b, .int .i64 u.c, .int .i64 u.d] 24) none
  replace BQa := Lib.hid (BQa.out.keep hgq)
  replace BQb := Lib.hid (BQb.out.keep hgq)
  replace BQc := Lib.hid (BQc.out.keep hgq)
  replace W := Lib.hid (W.out.trans ((below_of_grown hgq).mono W.out.size))
  generalize (w1.alloc (.cells #[.bool s.top, .int .i64 s.a, .int .i64 s.b, .int .i64 s.c, .int .i64 s.d, .bool t.top, .int .i64 t.a, .int .i64 t.b, .int .i64 t.c, .int .i64 t.d, .bool u.top, .int .i64 u.a, .int .i64 u.b, .int .i64 u.c, .int .i64 u.d] 24)) = w2 at bq BQa BQb BQc W ⊢
  generalize w1.heap.size = ql at bq ⊢
  refine (tuples_any [s, t, u] (by simp) _ w2 (bq.tups (by simp) 3)).mono ?_
  rintro e w3 ⟨v', rfl, ho, hb⟩
  obtain ⟨gb, gk, rfl, -, -⟩ := World.ownsRow.form (w := w3) ho (by simp)
  have hcl := (ho.tups (by simp)).open_ rfl (by simp)
  obtain ⟨gb', off', gk', e9, -, hc⟩ := hcl
  have hc15 : ∀ w', Below w3.heap.size w3 w' → ∀ (j : Nat) (x : Value), (flatL [s, t, u])[j]? = some x → w'.cell? ⟨gb, j, none⟩ = some x := by
    intro w' hw j x hx
    have hj : j < 15 := (List.getElem?_eq_some_iff.1 hx).1
    obtain ⟨rfl, rfl⟩ : gb = gb' ∧ off' = 0 := by injection e9 with h1 h2 h3; injection h1 with h1; injection h1 with h1 h2; exact ⟨h1, h2.symm⟩
    have h := hc w' hw (j / 5) (by show j / 5 < 3; omega) (j % 5) x (by
      rw [← flatL_at [s, t, u] (j / 5) (j % 5) (by show j / 5 < 3; omega) (Nat.mod_lt _ (by omega))]
      rw [show j / 5 * 5 + j % 5 = j by omega]
      exact hx)
    rw [show 0 + j / 5 * 5 + j % 5 = j by omega] at h
    exact h
  replace BQa := Lib.hid (BQa.out.keep (grown_of_below hb none))
  replace BQb := Lib.hid (BQb.out.keep (grown_of_below hb none))
  replace BQc := Lib.hid (BQc.out.keep (grown_of_below hb none))
  replace W := Lib.hid (W.out.trans (hb.mono W.out.size))
  have W3 := Lib.hid (Below.refl w3.heap.size w3)
  have HC := Lib.hid hc15
  clear hb e9 hc ho hc15 bq hgq
  simp only [List.length_cons, List.length_nil, Nat.zero_add, Nat.reduceAdd]
  go_upto_region 3 with (fail)
  have kl0 : ∀ (d : Nat) (os : Array Obj), (grow (redrawn w3 d) os).cell? ⟨gb, 0, none⟩ = some (.bool s.top) := fun d os => HC.out _ (W3.out.trans ((below_regrown w3 d os).mono W3.out.size)) 0 _ rfl
  have kl1 : ∀ (d : Nat) (os : Array Obj), (grow (redrawn w3 d) os).cell? ⟨gb, 1, none⟩ = some (.int .i64 s.a) := fun d os => HC.out _ (W3.out.trans ((below_regrown w3 d os).mono W3.out.size)) 1 _ rfl
  have kl2 : ∀ (d : Nat) (os : Array Obj), (grow (redrawn w3 d) os).cell? ⟨gb, 2, none⟩ = some (.int .i64 s.b) := fun d os => HC.out _ (W3.out.trans ((below_regrown w3 d os).mono W3.out.size)) 2 _ rfl
  have kl3 : ∀ (d : Nat) (os : Array Obj), (grow (redrawn w3 d) os).cell? ⟨gb, 3, none⟩ = some (.int .i64 s.c) := fun d os => HC.out _ (W3.out.trans ((below_regrown w3 d os).mono W3.out.size)) 3 _ rfl
  have kl4 : ∀ (d : Nat) (os : Array Obj), (grow (redrawn w3 d) os).cell? ⟨gb, 4, none⟩ = some (.int .i64 s.d) := fun d os => HC.out _ (W3.out.trans ((below_regrown w3 d os).mono W3.out.size)) 4 _ rfl
  have kl5 : ∀ (d : Nat) (os : Array Obj), (grow (redrawn w3 d) os).cell? ⟨gb, 5, none⟩ = some (.bool t.top) := fun d os => HC.out _ (W3.out.trans ((below_regrown w3 d os).mono W3.out.size)) 5 _ rfl
  have kl6 : ∀ (d : Nat) (os : Array Obj), (grow (redrawn w3 d) os).cell? ⟨gb, 6, none⟩ = some (.int .i64 t.a) := fun d os => HC.out _ (W3.out.trans ((below_regrown w3 d os).mono W3.out.size)) 6 _ rfl
  have kl7 : ∀ (d : Nat) (os : Array Obj), (grow (redrawn w3 d) os).cell? ⟨gb, 7, none⟩ = some (.int .i64 t.b) := fun d os => HC.out _ (W3.out.trans ((below_regrown w3 d os).mono W3.out.size)) 7 _ rfl
  have kl8 : ∀ (d : Nat) (os : Array Obj), (grow (redrawn w3 d) os).cell? ⟨gb, 8, none⟩ = some (.int .i64 t.c) := fun d os => HC.out _ (W3.out.trans ((below_regrown w3 d os).mono W3.out.size)) 8 _ rfl
  have kl9 : ∀ (d : Nat) (os : Array Obj), (grow (redrawn w3 d) os).cell? ⟨gb, 9, none⟩ = some (.int .i64 t.d) := fun d os => HC.out _ (W3.out.trans ((below_regrown w3 d os).mono W3.out.size)) 9 _ rfl
  have c1 := fun d os => rCompare w3 s t 0 d os
  refine wp_region_quiet_below (by kernel_rfl) (by kernel_rfl) ?_
  repeat (first | go_big_quiet_step (with_reducible exact c1 _ _) | quiet_step (with_reducible exact c1 _ _))
  refine wpQuiet_nil ?_
  intro _ hw'
  obtain ⟨⟨dq, osq⟩, hw''⟩ := hw'
  subst hw''
  clear c1 kl0 kl1 kl2 kl3 kl4 kl5 kl6 kl7 kl8 kl9
  have hb := below_regrown w3 dq osq
  replace BQa := Lib.hid (BQa.out.keep (grown_of_below hb none))
  replace BQb := Lib.hid (BQb.out.keep (grown_of_below hb none))
  replace BQc := Lib.hid (BQc.out.keep (grown_of_below hb none))
  replace W := Lib.hid (W.out.trans (hb.mono W.out.size))
  replace W3 := Lib.hid (W3.out.trans (hb.mono W3.out.size))
  clear hb
  generalize (grow (redrawn w3 dq) osq) = w4 at BQa BQb BQc W W3 ⊢
  go_upto_region 4 with (fail)
  have kl5 : ∀ (d : Nat) (os : Array Obj), (grow (redrawn w4 d) os).cell? ⟨gb, 5, none⟩ = some (.bool t.top) := fun d os => HC.out _ (W3.out.trans ((below_regrown w4 d os).mono W3.out.size)) 5 _ rfl
  have kl6 : ∀ (d : Nat) (os : Array Obj), (grow (redrawn w4 d) os).cell? ⟨gb, 6, none⟩ = some (.int .i64 t.a) := fun d os => HC.out _ (W3.out.trans ((below_regrown w4 d os).mono W3.out.size)) 6 _ rfl
  have kl7 : ∀ (d : Nat) (os : Array Obj), (grow (redrawn w4 d) os).cell? ⟨gb, 7, none⟩ = some (.int .i64 t.b) := fun d os => HC.out _ (W3.out.trans ((below_regrown w4 d os).mono W3.out.size)) 7 _ rfl
  have kl8 : ∀ (d : Nat) (os : Array Obj), (grow (redrawn w4 d) os).cell? ⟨gb, 8, none⟩ = some (.int .i64 t.c) := fun d os => HC.out _ (W3.out.trans ((below_regrown w4 d os).mono W3.out.size)) 8 _ rfl
  have kl9 : ∀ (d : Nat) (os : Array Obj), (grow (redrawn w4 d) os).cell? ⟨gb, 9, none⟩ = some (.int .i64 t.d) := fun d os => HC.out _ (W3.out.trans ((below_regrown w4 d os).mono W3.out.size)) 9 _ rfl
  have kl10 : ∀ (d : Nat) (os : Array Obj), (grow (redrawn w4 d) os).cell? ⟨gb, 10, none⟩ = some (.bool u.top) := fun d os => HC.out _ (W3.out.trans ((below_regrown w4 d os).mono W3.out.size)) 10 _ rfl
  have kl11 : ∀ (d : Nat) (os : Array Obj), (grow (redrawn w4 d) os).cell? ⟨gb, 11, none⟩ = some (.int .i64 u.a) := fun d os => HC.out _ (W3.out.trans ((below_regrown w4 d os).mono W3.out.size)) 11 _ rfl
  have kl12 : ∀ (d : Nat) (os : Array Obj), (grow (redrawn w4 d) os).cell? ⟨gb, 12, none⟩ = some (.int .i64 u.b) := fun d os => HC.out _ (W3.out.trans ((below_regrown w4 d os).mono W3.out.size)) 12 _ rfl
  have kl13 : ∀ (d : Nat) (os : Array Obj), (grow (redrawn w4 d) os).cell? ⟨gb, 13, none⟩ = some (.int .i64 u.c) := fun d os => HC.out _ (W3.out.trans ((below_regrown w4 d os).mono W3.out.size)) 13 _ rfl
  have kl14 : ∀ (d : Nat) (os : Array Obj), (grow (redrawn w4 d) os).cell? ⟨gb, 14, none⟩ = some (.int .i64 u.d) := fun d os => HC.out _ (W3.out.trans ((below_regrown w4 d os).mono W3.out.size)) 14 _ rfl
  have c1 := fun d os => rCompare w4 t u 0 d os
  refine wp_region_quiet_below (by kernel_rfl) (by kernel_rfl) ?_
  repeat (first | go_big_quiet_step (with_reducible exact c1 _ _) | quiet_step (with_reducible exact c1 _ _))
  refine wpQuiet_nil ?_
  intro _ hw'
  obtain ⟨⟨dq, osq⟩, hw''⟩ := hw'
  subst hw''
  clear c1 kl5 kl6 kl7 kl8 kl9 kl10 kl11 kl12 kl13 kl14
  have hb := below_regrown w4 dq osq
  replace BQa := Lib.hid (BQa.out.keep (grown_of_below hb none))
  replace BQb := Lib.hid (BQb.out.keep (grown_of_below hb none))
  replace BQc := Lib.hid (BQc.out.keep (grown_of_below hb none))
  replace W := Lib.hid (W.out.trans (hb.mono W.out.size))
  replace W3 := Lib.hid (W3.out.trans (hb.mono W3.out.size))
  clear hb
  generalize (grow (redrawn w4 dq) osq) = w5 at BQa BQb BQc W W3 ⊢
  go_upto_region 5 with (fail)
  have kl0 : ∀ (d : Nat) (os : Array Obj), (grow (redrawn w5 d) os).cell? ⟨gb, 0, none⟩ = some (.bool s.top) := fun d os => HC.out _ (W3.out.trans ((below_regrown w5 d os).mono W3.out.size)) 0 _ rfl
  have kl1 : ∀ (d : Nat) (os : Array Obj), (grow (redrawn w5 d) os).cell? ⟨gb, 1, none⟩ = some (.int .i64 s.a) := fun d os => HC.out _ (W3.out.trans ((below_regrown w5 d os).mono W3.out.size)) 1 _ rfl
  have kl2 : ∀ (d : Nat) (os : Array Obj), (grow (redrawn w5 d) os).cell? ⟨gb, 2, none⟩ = some (.int .i64 s.b) := fun d os => HC.out _ (W3.out.trans ((below_regrown w5 d os).mono W3.out.size)) 2 _ rfl
  have kl3 : ∀ (d : Nat) (os : Array Obj), (grow (redrawn w5 d) os).cell? ⟨gb, 3, none⟩ = some (.int .i64 s.c) := fun d os => HC.out _ (W3.out.trans ((below_regrown w5 d os).mono W3.out.size)) 3 _ rfl
  have kl4 : ∀ (d : Nat) (os : Array Obj), (grow (redrawn w5 d) os).cell? ⟨gb, 4, none⟩ = some (.int .i64 s.d) := fun d os => HC.out _ (W3.out.trans ((below_regrown w5 d os).mono W3.out.size)) 4 _ rfl
  have kl10 : ∀ (d : Nat) (os : Array Obj), (grow (redrawn w5 d) os).cell? ⟨gb, 10, none⟩ = some (.bool u.top) := fun d os => HC.out _ (W3.out.trans ((below_regrown w5 d os).mono W3.out.size)) 10 _ rfl
  have kl11 : ∀ (d : Nat) (os : Array Obj), (grow (redrawn w5 d) os).cell? ⟨gb, 11, none⟩ = some (.int .i64 u.a) := fun d os => HC.out _ (W3.out.trans ((below_regrown w5 d os).mono W3.out.size)) 11 _ rfl
  have kl12 : ∀ (d : Nat) (os : Array Obj), (grow (redrawn w5 d) os).cell? ⟨gb, 12, none⟩ = some (.int .i64 u.b) := fun d os => HC.out _ (W3.out.trans ((below_regrown w5 d os).mono W3.out.size)) 12 _ rfl
  have kl13 : ∀ (d : Nat) (os : Array Obj), (grow (redrawn w5 d) os).cell? ⟨gb, 13, none⟩ = some (.int .i64 u.c) := fun d os => HC.out _ (W3.out.trans ((below_regrown w5 d os).mono W3.out.size)) 13 _ rfl
  have kl14 : ∀ (d : Nat) (os : Array Obj), (grow (redrawn w5 d) os).cell? ⟨gb, 14, none⟩ = some (.int .i64 u.d) := fun d os => HC.out _ (W3.out.trans ((below_regrown w5 d os).mono W3.out.size)) 14 _ rfl
  have c1 := fun d os => rCompare w5 s u 0 d os
  refine wp_region_quiet_below (by kernel_rfl) (by kernel_rfl) ?_
  repeat (first | go_big_quiet_step (with_reducible exact c1 _ _) | quiet_step (with_reducible exact c1 _ _))
  refine wpQuiet_nil ?_
  intro _ hw'
  obtain ⟨⟨dq, osq⟩, hw''⟩ := hw'
  subst hw''
  clear c1 kl0 kl1 kl2 kl3 kl4 kl10 kl11 kl12 kl13 kl14
  have hb := below_regrown w5 dq osq
  replace BQa := Lib.hid (BQa.out.keep (grown_of_below hb none))
  replace BQb := Lib.hid (BQb.out.keep (grown_of_below hb none))
  replace BQc := Lib.hid (BQc.out.keep (grown_of_below hb none))
  replace W := Lib.hid (W.out.trans (hb.mono W.out.size))
  replace W3 := Lib.hid (W3.out.trans (hb.mono W3.out.size))
  clear hb
  generalize (grow (redrawn w5 dq) osq) = w6 at BQa BQb BQc W W3 ⊢
  go_upto_region 6 with (fail)
  have hbk := P.Tup.cmp_back s t 0
  have HX := Lib.hid (three s t u)
  have kl0 : ∀ (d : Nat) (os : Array Obj), (grow (redrawn w6 d) os).cell? ⟨gb, 0, none⟩ = some (.bool s.top) := fun d os => HC.out _ (W3.out.trans ((below_regrown w6 d os).mono W3.out.size)) 0 _ rfl
  have kl1 : ∀ (d : Nat) (os : Array Obj), (grow (redrawn w6 d) os).cell? ⟨gb, 1, none⟩ = some (.int .i64 s.a) := fun d os => HC.out _ (W3.out.trans ((below_regrown w6 d os).mono W3.out.size)) 1 _ rfl
  have kl2 : ∀ (d : Nat) (os : Array Obj), (grow (redrawn w6 d) os).cell? ⟨gb, 2, none⟩ = some (.int .i64 s.b) := fun d os => HC.out _ (W3.out.trans ((below_regrown w6 d os).mono W3.out.size)) 2 _ rfl
  have kl3 : ∀ (d : Nat) (os : Array Obj), (grow (redrawn w6 d) os).cell? ⟨gb, 3, none⟩ = some (.int .i64 s.c) := fun d os => HC.out _ (W3.out.trans ((below_regrown w6 d os).mono W3.out.size)) 3 _ rfl
  have kl4 : ∀ (d : Nat) (os : Array Obj), (grow (redrawn w6 d) os).cell? ⟨gb, 4, none⟩ = some (.int .i64 s.d) := fun d os => HC.out _ (W3.out.trans ((below_regrown w6 d os).mono W3.out.size)) 4 _ rfl
  have kl5 : ∀ (d : Nat) (os : Array Obj), (grow (redrawn w6 d) os).cell? ⟨gb, 5, none⟩ = some (.bool t.top) := fun d os => HC.out _ (W3.out.trans ((below_regrown w6 d os).mono W3.out.size)) 5 _ rfl
  have kl6 : ∀ (d : Nat) (os : Array Obj), (grow (redrawn w6 d) os).cell? ⟨gb, 6, none⟩ = some (.int .i64 t.a) := fun d os => HC.out _ (W3.out.trans ((below_regrown w6 d os).mono W3.out.size)) 6 _ rfl
  have kl7 : ∀ (d : Nat) (os : Array Obj), (grow (redrawn w6 d) os).cell? ⟨gb, 7, none⟩ = some (.int .i64 t.b) := fun d os => HC.out _ (W3.out.trans ((below_regrown w6 d os).mono W3.out.size)) 7 _ rfl
  have kl8 : ∀ (d : Nat) (os : Array Obj), (grow (redrawn w6 d) os).cell? ⟨gb, 8, none⟩ = some (.int .i64 t.c) := fun d os => HC.out _ (W3.out.trans ((below_regrown w6 d os).mono W3.out.size)) 8 _ rfl
  have kl9 : ∀ (d : Nat) (os : Array Obj), (grow (redrawn w6 d) os).cell? ⟨gb, 9, none⟩ = some (.int .i64 t.d) := fun d os => HC.out _ (W3.out.trans ((below_regrown w6 d os).mono W3.out.size)) 9 _ rfl
  have c1 := fun d os => rCompare w6 t s 0 d os
  obtain ⟨x, hx⟩ : ∃ x, P.Tup.cmp s t 0 = x := ⟨_, rfl⟩
  obtain ⟨y, hy⟩ : ∃ y, P.Tup.cmp t u 0 = y := ⟨_, rfl⟩
  obtain ⟨z, hz⟩ : ∃ z, P.Tup.cmp s u 0 = z := ⟨_, rfl⟩
  rw [hx] at hbk HX ⊢
  rw [hy] at HX ⊢
  rw [hz] at HX ⊢
  rw [hbk] at c1
  clear hbk hx hy hz
  go_cut [91] from 42 to 91 (fun c wx => c = .bool false ∧ Below w6.heap.size w6 wx)
  case first =>
    rcases HX.out with ⟨rfl, rfl, rfl⟩ | ⟨rfl, rfl, rfl⟩ | ⟨rfl, rfl, rfl⟩ | ⟨rfl, rfl, rfl⟩ | ⟨rfl, rfl, rfl⟩ | ⟨rfl, rfl, rfl⟩ | ⟨rfl, rfl, rfl⟩ | ⟨rfl, rfl, rfl⟩ | ⟨rfl, rfl, rfl⟩ | ⟨rfl, rfl, rfl⟩ | ⟨rfl, rfl, rfl⟩ | ⟨rfl, rfl, rfl⟩ | ⟨rfl, rfl, rfl⟩
    all_goals
      clear HX
      refine wp_region_quiet_below (by kernel_rfl) (by kernel_rfl) ?_
      repeat (first | go_big_quiet_step (with_reducible exact c1 _ _) | quiet_step (with_reducible exact c1 _ _))
      refine wpQuiet_nil ?_
      intro _ hw'
      obtain ⟨⟨dq, osq⟩, hw''⟩ := hw'
      subst hw''
      have hb := below_regrown w6 dq osq
      go_wp2
      go_meet
      exact ⟨rfl, hb⟩
  case rest =>
    obtain ⟨rfl, hb⟩ := hcut
    clear HX c1 kl0 kl1 kl2 kl3 kl4 kl5 kl6 kl7 kl8 kl9
    replace BQa := Lib.hid (BQa.out.keep (grown_of_below hb none))
    replace BQb := Lib.hid (BQb.out.keep (grown_of_below hb none))
    replace BQc := Lib.hid (BQc.out.keep (grown_of_below hb none))
    replace W := Lib.hid (W.out.trans (hb.mono W.out.size))
    replace W3 := Lib.hid (W3.out.trans (hb.mono W3.out.size))
    clear hb
    generalize wc = w7 at BQa BQb BQc W W3 ⊢
    go_wp2_with fail
    go_loopw [12] (fun iv wr => ∃ k : Nat, k ≤ 9 ∧ iv = .int .i64 (k : Int) ∧ Below w7.heap.size w7 wr) (fun iv _ => 9 - (intOf iv).toNat)
    case atStart => exact ⟨0, by omega, rfl, Below.refl _ _⟩
    case round =>
      obtain ⟨k, hk, rfl, hb⟩ := hrel
      replace BQa := Lib.hid (BQa.out.keep (grown_of_below hb none))
      replace BQb := Lib.hid (BQb.out.keep (grown_of_below hb none))
      replace BQc := Lib.hid (BQc.out.keep (grown_of_below hb none))
      replace W := Lib.hid (W.out.trans (hb.mono W.out.size))
      replace W3 := Lib.hid (W3.out.trans (hb.mono W3.out.size))
      have W7 := Lib.hid hb
      clear hb
      have hk0 : (0 : Int) ≤ (k : Int) := Int.natCast_nonneg _
      by_cases hlt : k < 9
      · have fk : decide ((k : Int) < 9) = true := decide_eq_true (by omega)
        have hki : (k : Int) < 9 := by omega
        go_upto_region 11 with (fail)
        have kl0 : ∀ (d : Nat) (os : Array Obj), (grow (redrawn wr d) os).cell? ⟨gb, 0, none⟩ = some (.bool s.top) := fun d os => HC.out _ (W3.out.trans ((below_regrown wr d os).mono W3.out.size)) 0 _ rfl
        have kl1 : ∀ (d : Nat) (os : Array Obj), (grow (redrawn wr d) os).cell? ⟨gb, 1, none⟩ = some (.int .i64 s.a) := fun d os => HC.out _ (W3.out.trans ((below_regrown wr d os).mono W3.out.size)) 1 _ rfl
        have kl2 : ∀ (d : Nat) (os : Array Obj), (grow (redrawn wr d) os).cell? ⟨gb, 2, none⟩ = some (.int .i64 s.b) := fun d os => HC.out _ (W3.out.trans ((below_regrown wr d os).mono W3.out.size)) 2 _ rfl
        have kl3 : ∀ (d : Nat) (os : Array Obj), (grow (redrawn wr d) os).cell? ⟨gb, 3, none⟩ = some (.int .i64 s.c) := fun d os => HC.out _ (W3.out.trans ((below_regrown wr d os).mono W3.out.size)) 3 _ rfl
        have kl4 : ∀ (d : Nat) (os : Array Obj), (grow (redrawn wr d) os).cell? ⟨gb, 4, none⟩ = some (.int .i64 s.d) := fun d os => HC.out _ (W3.out.trans ((below_regrown wr d os).mono W3.out.size)) 4 _ rfl
        have kl5 : ∀ (d : Nat) (os : Array Obj), (grow (redrawn wr d) os).cell? ⟨gb, 5, none⟩ = some (.bool t.top) := fun d os => HC.out _ (W3.out.trans ((below_regrown wr d os).mono W3.out.size)) 5 _ rfl
        have kl6 : ∀ (d : Nat) (os : Array Obj), (grow (redrawn wr d) os).cell? ⟨gb, 6, none⟩ = some (.int .i64 t.a) := fun d os => HC.out _ (W3.out.trans ((below_regrown wr d os).mono W3.out.size)) 6 _ rfl
        have kl7 : ∀ (d : Nat) (os : Array Obj), (grow (redrawn wr d) os).cell? ⟨gb, 7, none⟩ = some (.int .i64 t.b) := fun d os => HC.out _ (W3.out.trans ((below_regrown wr d os).mono W3.out.size)) 7 _ rfl
        have kl8 : ∀ (d : Nat) (os : Array Obj), (grow (redrawn wr d) os).cell? ⟨gb, 8, none⟩ = some (.int .i64 t.c) := fun d os => HC.out _ (W3.out.trans ((below_regrown wr d os).mono W3.out.size)) 8 _ rfl
        have kl9 : ∀ (d : Nat) (os : Array Obj), (grow (redrawn wr d) os).cell? ⟨gb, 9, none⟩ = some (.int .i64 t.d) := fun d os => HC.out _ (W3.out.trans ((below_regrown wr d os).mono W3.out.size)) 9 _ rfl
        have c1 := fun d os => rCompare wr s t (k : Int) d os
        refine wp_region_quiet_below (by kernel_rfl) (by kernel_rfl) ?_
        repeat (first | go_big_quiet_step (with_reducible exact c1 _ _) | quiet_step (with_reducible exact c1 _ _))
        refine wpQuiet_nil ?_
        intro _ hw'
        obtain ⟨⟨dq, osq⟩, hw''⟩ := hw'
        subst hw''
        clear c1 kl0 kl1 kl2 kl3 kl4 kl5 kl6 kl7 kl8 kl9
        have hb := below_regrown wr dq osq
        replace BQa := Lib.hid (BQa.out.keep (grown_of_below hb none))
        replace BQb := Lib.hid (BQb.out.keep (grown_of_below hb none))
        replace BQc := Lib.hid (BQc.out.keep (grown_of_below hb none))
        replace W := Lib.hid (W.out.trans (hb.mono W.out.size))
        replace W3 := Lib.hid (W3.out.trans (hb.mono W3.out.size))
        replace W7 := Lib.hid (W7.out.trans (hb.mono W7.out.size))
        clear hb
        generalize (grow (redrawn wr dq) osq) = w8 at BQa BQb BQc W W3 W7 ⊢
        go_upto_region 12 with (fail)
        have hwr : IntKind.i64.wrap ((k : Int) + 1) = (k : Int) + 1 := by rw [IntKind.wrap_i64]; omega
        have kl0 : ∀ (d : Nat) (os : Array Obj), (grow (redrawn w8 d) os).cell? ⟨gb, 0, none⟩ = some (.bool s.top) := fun d os => HC.out _ (W3.out.trans ((below_regrown w8 d os).mono W3.out.size)) 0 _ rfl
        have kl1 : ∀ (d : Nat) (os : Array Obj), (grow (redrawn w8 d) os).cell? ⟨gb, 1, none⟩ = some (.int .i64 s.a) := fun d os => HC.out _ (W3.out.trans ((below_regrown w8 d os).mono W3.out.size)) 1 _ rfl
        have kl2 : ∀ (d : Nat) (os : Array Obj), (grow (redrawn w8 d) os).cell? ⟨gb, 2, none⟩ = some (.int .i64 s.b) := fun d os => HC.out _ (W3.out.trans ((below_regrown w8 d os).mono W3.out.size)) 2 _ rfl
        have kl3 : ∀ (d : Nat) (os : Array Obj), (grow (redrawn w8 d) os).cell? ⟨gb, 3, none⟩ = some (.int .i64 s.c) := fun d os => HC.out _ (W3.out.trans ((below_regrown w8 d os).mono W3.out.size)) 3 _ rfl
        have kl4 : ∀ (d : Nat) (os : Array Obj), (grow (redrawn w8 d) os).cell? ⟨gb, 4, none⟩ = some (.int .i64 s.d) := fun d os => HC.out _ (W3.out.trans ((below_regrown w8 d os).mono W3.out.size)) 4 _ rfl
        have kl5 : ∀ (d : Nat) (os : Array Obj), (grow (redrawn w8 d) os).cell? ⟨gb, 5, none⟩ = some (.bool t.top) := fun d os => HC.out _ (W3.out.trans ((below_regrown w8 d os).mono W3.out.size)) 5 _ rfl
        have kl6 : ∀ (d : Nat) (os : Array Obj), (grow (redrawn w8 d) os).cell? ⟨gb, 6, none⟩ = some (.int .i64 t.a) := fun d os => HC.out _ (W3.out.trans ((below_regrown w8 d os).mono W3.out.size)) 6 _ rfl
        have kl7 : ∀ (d : Nat) (os : Array Obj), (grow (redrawn w8 d) os).cell? ⟨gb, 7, none⟩ = some (.int .i64 t.b) := fun d os => HC.out _ (W3.out.trans ((below_regrown w8 d os).mono W3.out.size)) 7 _ rfl
        have kl8 : ∀ (d : Nat) (os : Array Obj), (grow (redrawn w8 d) os).cell? ⟨gb, 8, none⟩ = some (.int .i64 t.c) := fun d os => HC.out _ (W3.out.trans ((below_regrown w8 d os).mono W3.out.size)) 8 _ rfl
        have kl9 : ∀ (d : Nat) (os : Array Obj), (grow (redrawn w8 d) os).cell? ⟨gb, 9, none⟩ = some (.int .i64 t.d) := fun d os => HC.out _ (W3.out.trans ((below_regrown w8 d os).mono W3.out.size)) 9 _ rfl
        have c1 := fun d os => rCompare w8 s t ((k : Int) + 1) d os
        refine wp_region_quiet_below (by kernel_rfl) (by kernel_rfl) ?_
        repeat (first | go_big_quiet_step (with_reducible exact c1 _ _) | quiet_step (with_reducible exact c1 _ _))
        refine wpQuiet_nil ?_
        intro _ hw'
        obtain ⟨⟨dq, osq⟩, hw''⟩ := hw'
        subst hw''
        clear c1 kl0 kl1 kl2 kl3 kl4 kl5 kl6 kl7 kl8 kl9
        have hb := below_regrown w8 dq osq
        replace BQa := Lib.hid (BQa.out.keep (grown_of_below hb none))
        replace BQb := Lib.hid (BQb.out.keep (grown_of_below hb none))
        replace BQc := Lib.hid (BQc.out.keep (grown_of_below hb none))
        replace W := Lib.hid (W.out.trans (hb.mono W.out.size))
        replace W3 := Lib.hid (W3.out.trans (hb.mono W3.out.size))
        replace W7 := Lib.hid (W7.out.trans (hb.mono W7.out.size))
        clear hb
        generalize (grow (redrawn w8 dq) osq) = w9 at BQa BQb BQc W W3 W7 ⊢
        clear hwr
        have HLS := Lib.hid (cmp_less s t (k : Int))
        have HTP := Lib.hid (show s.top = true → t.top = false → P.Tup.cmp s t (k : Int) = 1 from fun h1 h2 => by unfold P.Tup.cmp; rw [if_pos h1, if_neg (by rw [h2]; simp)])
        go_upto_region 13 with (fail)
        have hbb := BQa.out
        have ac0 : w9.cell? ⟨qa, 0, none⟩ = some (.bool s.top) := hbb.cell 0 _ rfl
        have ac1 : w9.cell? ⟨qa, 1, none⟩ = some (.int .i64 s.a) := hbb.cell 1 _ rfl
        have ac2 : w9.cell? ⟨qa, 2, none⟩ = some (.int .i64 s.b) := hbb.cell 2 _ rfl
        have ac3 : w9.cell? ⟨qa, 3, none⟩ = some (.int .i64 s.c) := hbb.cell 3 _ rfl
        have ac4 : w9.cell? ⟨qa, 4, none⟩ = some (.int .i64 s.d) := hbb.cell 4 _ rfl
        clear hbb
        have hbb := BQb.out
        have bc0 : w9.cell? ⟨qb, 0, none⟩ = some (.bool t.top) := hbb.cell 0 _ rfl
        have bc1 : w9.cell? ⟨qb, 1, none⟩ = some (.int .i64 t.a) := hbb.cell 1 _ rfl
        have bc2 : w9.cell? ⟨qb, 2, none⟩ = some (.int .i64 t.b) := hbb.cell 2 _ rfl
        have bc3 : w9.cell? ⟨qb, 3, none⟩ = some (.int .i64 t.c) := hbb.cell 3 _ rfl
        have bc4 : w9.cell? ⟨qb, 4, none⟩ = some (.int .i64 t.d) := hbb.cell 4 _ rfl
        clear hbb
        obtain ⟨x, hx⟩ : ∃ x, P.Tup.cmp s t (k : Int) = x := ⟨_, rfl⟩
        obtain ⟨y, hy⟩ : ∃ y, P.Tup.cmp s t ((k : Int) + 1) = y := ⟨_, rfl⟩
        obtain ⟨b1, h1⟩ : ∃ b, s.top = b := ⟨_, rfl⟩
        obtain ⟨b2, h2⟩ : ∃ b, t.top = b := ⟨_, rfl⟩
        rw [hx, hy] at HLS
        rw [hx, h1, h2] at HTP
        rw [hx, hy]
        rw [h1] at ac0 
        rw [h2] at bc0
        clear hx hy h1 h2
        go_cut [132] from 113 to 132 (fun c wx => c = .bool false ∧ wx = w9)
        case first =>
          by_cases h0 : y = 0
          · have g0 : (y != 0) = false := by rw [bne_eq_false_iff_eq]; exact h0
            clear h0
            cases b1
            · go_wp2_with fail
              go_meet
              exact ⟨rfl, rfl⟩
            · cases b2
              · have e := HTP.out rfl rfl
                have g1 : (x != 1) = false := by rw [bne_eq_false_iff_eq]; exact e
                clear e
                go_wp2_with fail
                go_meet
                exact ⟨rfl, rfl⟩
              · go_wp2_with fail
                go_meet
                exact ⟨rfl, rfl⟩
          · have g0 : (y != 0) = true := by rw [bne_iff_ne]; exact h0
            have e := HLS.out h0
            have g2 : (x != y) = false := by rw [bne_eq_false_iff_eq]; exact e
            clear h0 e
            cases b1
            · go_wp2_with fail
              go_meet
              exact ⟨rfl, rfl⟩
            · cases b2
              · have e := HTP.out rfl rfl
                have g1 : (x != 1) = false := by rw [bne_eq_false_iff_eq]; exact e
                clear e
                go_wp2_with fail
                go_meet
                exact ⟨rfl, rfl⟩
              · go_wp2_with fail
                go_meet
                exact ⟨rfl, rfl⟩
        case rest =>
          obtain ⟨rfl, hw⟩ := hcut
          rw [hw]
          clear hw HLS HTP ac0 ac1 ac2 ac3 ac4 bc0 bc1 bc2 bc3 bc4
          go_wp2_with fail
          go_roundw
          case rel => exact ⟨k + 1, by omega, by first | rfl | go_num, W7.out⟩
          case measure => simp [intOf]; omega
      · have fk : decide ((k : Int) < 9) = false := decide_eq_false (by omega)
        go_wp2_with fail
        exact bodyPost_ret (v := .bool true) (by simp [results, Try.results11, go_sem]) rfl ⟨rfl, W.out⟩
end W
end Go.Proofs.Yteeaojciobmcaaa
