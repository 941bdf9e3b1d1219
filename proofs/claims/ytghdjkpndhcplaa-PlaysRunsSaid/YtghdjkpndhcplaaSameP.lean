/- Are two plays the same? -/
import Derived.Test.YtghdjkpndhcplaaSameGame
import Derived.Test.YtghdjkpndhcplaaReads
import Derived.Test.YtghdjkpndhcplaaHeap
import Derived.Deep.Cut
import Derived.Lib.Hide
import Derived.Deep.QuietTactic
import Derived.BigQuiet
import Derived.StillTailTactics
namespace Go.Proofs.Ytghdjkpndhcplaa
open Go.RowKit
namespace W

set_option maxRecDepth 100000 in
set_option maxHeartbeats 1000000 in
theorem same_any (va1 va2 vb1 vb2 : Value) (s t : Int) (A1 A2 B1 B2 : List Int) (w : World) (ha1 : Ints w va1 A1) (ha2 : Ints w va2 A2) (hb1 : Ints w vb1 B1) (hb2 : Ints w vb2 B2) :
    Calls Try.prog 10 #[.agg #[va1, va2, .int .i64 s], .agg #[vb1, vb2, .int .i64 t]] w fun e w' => e = .returned (.bool (decide (A1 = B1 ∧ A2 = B2 ∧ s = t))) ∧ Below w.heap.size w w' := by
  have IA1 := Lib.hid ha1
  have IA2 := Lib.hid ha2
  have IB1 := Lib.hid hb1
  have IB2 := Lib.hid hb2
  obtain ⟨a1, k1, rfl, -⟩ := ha1
  obtain ⟨a2, k2, rfl, -⟩ := ha2
  obtain ⟨b1, l1, rfl, -⟩ := hb1
  obtain ⟨b2, l2, rfl, -⟩ := hb2
  obtain ⟨m1, e1⟩ : ∃ m, A1.length = m := ⟨_, rfl⟩
  obtain ⟨m2, e2⟩ : ∃ m, A2.length = m := ⟨_, rfl⟩
  obtain ⟨n1, e3⟩ : ∃ m, B1.length = m := ⟨_, rfl⟩
  obtain ⟨n2, e4⟩ : ∃ m, B2.length = m := ⟨_, rfl⟩
  rw [e1] at IA1 ⊢
  rw [e2] at IA2 ⊢
  rw [e3] at IB1 ⊢
  rw [e4] at IB2 ⊢
  clear e1 e2 e3 e4
  go_enter Try.func10, Try.ntmps10
  go_wp2_with fail
  have bx0 : Box ((w.alloc (.cells #[.slice a1 m1 k1, .slice a2 m2 k2, .int .i64 s] 29)).alloc (.cells #[.slice b1 n1 l1, .slice b2 n2 l2, .int .i64 t] 29)) (w.heap.size) 29 #[.slice a1 m1 k1, .slice a2 m2 k2, .int .i64 s] := Box.alloc (Box.new w 29 #[.slice a1 m1 k1, .slice a2 m2 k2, .int .i64 s]) (.cells #[.slice b1 n1 l1, .slice b2 n2 l2, .int .i64 t] 29)
  have bx1 : Box ((w.alloc (.cells #[.slice a1 m1 k1, .slice a2 m2 k2, .int .i64 s] 29)).alloc (.cells #[.slice b1 n1 l1, .slice b2 n2 l2, .int .i64 t] 29)) (w.heap.size + 1) 29 #[.slice b1 n1 l1, .slice b2 n2 l2, .int .i64 t] := by
    have := Box.new (w.alloc (.cells #[.slice a1 m1 k1, .slice a2 m2 k2, .int .i64 s] 29)) 29 #[.slice b1 n1 l1, .slice b2 n2 l2, .int .i64 t]
    simpa using this
  have hbq : Below w.heap.size w ((w.alloc (.cells #[.slice a1 m1 k1, .slice a2 m2 k2, .int .i64 s] 29)).alloc (.cells #[.slice b1 n1 l1, .slice b2 n2 l2, .int .i64 t] 29)) := ((Below.refl _ w).alloc (Nat.le_refl _) _).alloc (by simp) _
  have lt0 : w.heap.size < w.heap.size + 1 := Nat.lt_succ_self _
  have hle0 : w.heap.size ≤ w.heap.size := Nat.le_refl _
  replace IA1 := Lib.hid (IA1.out.on hbq)
  replace IA2 := Lib.hid (IA2.out.on hbq)
  replace IB1 := Lib.hid (IB1.out.on hbq)
  replace IB2 := Lib.hid (IB2.out.on hbq)
  generalize ((w.alloc (.cells #[.slice a1 m1 k1, .slice a2 m2 k2, .int .i64 s] 29)).alloc (.cells #[.slice b1 n1 l1, .slice b2 n2 l2, .int .i64 t] 29)) = w0 at bx0 bx1 hbq IA1 IA2 IB1 IB2 ⊢
  have BQa := Lib.hid bx0
  have BQb := Lib.hid bx1
  have W := Lib.hid hbq
  have LTab := Lib.hid lt0
  have LEa := Lib.hid hle0
  clear hbq hle0 bx0 bx1 lt0
  generalize w.heap.size + 1 = qb at BQb LTab ⊢
  obtain ⟨qa, hqa⟩ : ∃ qa, w.heap.size = qa := ⟨_, rfl⟩
  rw [hqa] at BQa LTab ⊢
  have LEa : Hid (w.heap.size ≤ qa) := Lib.hid (by omega)
  clear hqa
  clear LEa LTab
  have hbb := BQa.out
  have ac0 : w0.cell? ⟨qa, 0, none⟩ = some (.slice a1 m1 k1) := hbb.cell 0 _ rfl
  have ac1 : w0.cell? ⟨qa, 1, none⟩ = some (.slice a2 m2 k2) := hbb.cell 1 _ rfl
  have ac2 : w0.cell? ⟨qa, 2, none⟩ = some (.int .i64 s) := hbb.cell 2 _ rfl
  clear hbb
  have hbb := BQb.out
  have bc0 : w0.cell? ⟨qb, 0, none⟩ = some (.slice b1 n1 l1) := hbb.cell 0 _ rfl
  have bc1 : w0.cell? ⟨qb, 1, none⟩ = some (.slice b2 n2 l2) := hbb.cell 1 _ rfl
  have bc2 : w0.cell? ⟨qb, 2, none⟩ = some (.int .i64 t) := hbb.cell 2 _ rfl
  clear hbb
  go_wp2_with fail
  refine (sameints_any _ _ A1 B1 w0 IA1.out IB1.out).mono ?_
  rintro e w1 ⟨rfl, hb⟩
  replace W := Lib.hid (W.out.trans (hb.mono W.out.size))
  replace BQa := Lib.hid (BQa.out.keep (grown_of_below hb none))
  replace BQb := Lib.hid (BQb.out.keep (grown_of_below hb none))
  replace IA1 := Lib.hid (IA1.out.on hb)
  replace IA2 := Lib.hid (IA2.out.on hb)
  replace IB1 := Lib.hid (IB1.out.on hb)
  replace IB2 := Lib.hid (IB2.out.on hb)
  clear hb ac0 ac1 ac2 bc0 bc1 bc2
  have hbb := BQa.out
  have ac0 : w1.cell? ⟨qa, 0, none⟩ = some (.slice a1 m1 k1) := hbb.cell 0 _ rfl
  have ac1 : w1.cell? ⟨qa, 1, none⟩ = some (.slice a2 m2 k2) := hbb.cell 1 _ rfl
  have ac2 : w1.cell? ⟨qa, 2, none⟩ = some (.int .i64 s) := hbb.cell 2 _ rfl
  clear hbb
  have hbb := BQb.out
  have bc0 : w1.cell? ⟨qb, 0, none⟩ = some (.slice b1 n1 l1) := hbb.cell 0 _ rfl
  have bc1 : w1.cell? ⟨qb, 1, none⟩ = some (.slice b2 n2 l2) := hbb.cell 1 _ rfl
  have bc2 : w1.cell? ⟨qb, 2, none⟩ = some (.int .i64 t) := hbb.cell 2 _ rfl
  clear hbb
  go_wp2_with fail
  refine (sameints_any _ _ A2 B2 w1 IA2.out IB2.out).mono ?_
  rintro e w2 ⟨rfl, hb⟩
  replace W := Lib.hid (W.out.trans (hb.mono W.out.size))
  replace BQa := Lib.hid (BQa.out.keep (grown_of_below hb none))
  replace BQb := Lib.hid (BQb.out.keep (grown_of_below hb none))
  replace IA1 := Lib.hid (IA1.out.on hb)
  replace IA2 := Lib.hid (IA2.out.on hb)
  replace IB1 := Lib.hid (IB1.out.on hb)
  replace IB2 := Lib.hid (IB2.out.on hb)
  clear hb ac0 ac1 ac2 bc0 bc1 bc2
  have hbb := BQa.out
  have ac0 : w2.cell? ⟨qa, 0, none⟩ = some (.slice a1 m1 k1) := hbb.cell 0 _ rfl
  have ac1 : w2.cell? ⟨qa, 1, none⟩ = some (.slice a2 m2 k2) := hbb.cell 1 _ rfl
  have ac2 : w2.cell? ⟨qa, 2, none⟩ = some (.int .i64 s) := hbb.cell 2 _ rfl
  clear hbb
  have hbb := BQb.out
  have bc0 : w2.cell? ⟨qb, 0, none⟩ = some (.slice b1 n1 l1) := hbb.cell 0 _ rfl
  have bc1 : w2.cell? ⟨qb, 1, none⟩ = some (.slice b2 n2 l2) := hbb.cell 1 _ rfl
  have bc2 : w2.cell? ⟨qb, 2, none⟩ = some (.int .i64 t) := hbb.cell 2 _ rfl
  clear hbb
  by_cases h1 : A1 = B1
  · have f1 : decide (A1 = B1) = true := decide_eq_true h1
    by_cases h2 : A2 = B2
    · have f2 : decide (A2 = B2) = true := decide_eq_true h2
      have HF := Lib.hid (show decide (A1 = B1 ∧ A2 = B2 ∧ s = t) = (s == t) by
        rw [Bool.eq_iff_iff, decide_eq_true_iff, beq_iff_eq]
        exact ⟨fun h => h.2.2, fun h => ⟨h1, h2, h⟩⟩)
      clear h1 h2
      go_wp2_with fail
      go_ret
      exact ⟨by rw [HF.out]; rfl, W.out⟩
    · have f2 : decide (A2 = B2) = false := decide_eq_false h2
      have HF := Lib.hid (show decide (A1 = B1 ∧ A2 = B2 ∧ s = t) = false from decide_eq_false fun h => h2 h.2.1)
      clear h1 h2
      go_wp2_with fail
      go_ret
      exact ⟨by rw [HF.out]; rfl, W.out⟩
  · have f1 : decide (A1 = B1) = false := decide_eq_false h1
    have HF := Lib.hid (show decide (A1 = B1 ∧ A2 = B2 ∧ s = t) = false from decide_eq_false fun h => h1 h.1)
    clear h1
    go_wp2_with fail
    go_ret
    exact ⟨by rw [HF.out]; rfl, W.out⟩
end W
end Go.Proofs.Ytghdjkpndhcplaa
