/- Stage 13: the example at the head of each statement. -/
import Derived.Test.YtpjmboonaciplaaDoorSvA
import Derived.Test.YtpjmboonaciplaaDoorDecA
import Derived.Test.YtpjmboonaciplaaDoorLiteral
import Derived.Deep.Cut
import Derived.Lib.Hide
import Derived.Deep.QuietTactic
import Derived.BigQuiet
import Derived.StillTailTactics
namespace Go.Proofs.YtpjmboonaciplaaDoor
open Go.RowKit
namespace W

def EXL (w : World) : List Obj := [.cells #[.int .i64 0, .int .i64 1] 3, .cells #[.int .i64 0, .int .i64 1] 3, .cells #[.int .i64 0, .int .i64 1] 3, .cells #[.int .i64 0, .int .i64 1] 3, .cells #[.slice (some ⟨w.heap.size + 1 + 1, 0, none⟩) 2 2, .slice (some ⟨w.heap.size + 1 + 1 + 1, 0, none⟩) 2 2] 22]
theorem ex_lit (w : World) : GameV (allocs w (EXL w)) (.agg #[.slice (some ⟨w.heap.size, 0, none⟩) 2 2, .slice (some ⟨w.heap.size + 1, 0, none⟩) 2 2, .slice (some ⟨w.heap.size + 1 + 1 + 1 + 1, 0, none⟩) 2 2]) P.EX13 := by
  refine ⟨_, _, _, rfl, (allocs_box 0 rfl).ints [0, 1] rfl (by decide) _ _ rfl, (allocs_box 1 rfl).ints [0, 1] rfl (by decide) _ _ rfl, (allocs_box 4 rfl).grid [[0, 1], [0, 1]] rfl (by decide) (fun j x hx => ?_) _ _ rfl⟩
  match j, hx with
  | 0, hx => simp at hx; subst hx; exact (allocs_box 2 rfl).ints [0, 1] rfl (by decide) _ _ rfl
  | 1, hx => simp at hx; subst hx; exact (allocs_box 3 rfl).ints [0, 1] rfl (by decide) _ _ rfl
theorem GameV.grown_ {w w' : World} {v : Value} {g : P.G} (h : GameV w v g) (hg : w.grownBy w' none) : GameV w' v g := h.on (below_of_grown hg)
set_option maxRecDepth 100000 in
set_option maxHeartbeats 4000000 in
theorem shown_any (w : World) (hT : Tab w) : Calls Tryd.prog 11 #[] w fun e w' => e = .returned (.bool true) ∧ Below w.heap.size w w' := by
  have T := Lib.hid hT
  clear hT
  go_enter Tryd.func11, Tryd.ntmps11
  go_upto_region 2 with (fail)
  have hbx : Box ((((((w.alloc (.cells #[.int .i64 0, .int .i64 1] 3)).alloc (.cells #[.int .i64 0, .int .i64 1] 3)).alloc (.cells #[.int .i64 0, .int .i64 1] 3)).alloc (.cells #[.int .i64 0, .int .i64 1] 3)).alloc (.cells #[.slice (some ⟨w.heap.size + 1 + 1, 0, none⟩) 2 2, .slice (some ⟨w.heap.size + 1 + 1 + 1, 0, none⟩) 2 2] 22)).alloc (.cells #[.slice (some ⟨w.heap.size, 0, none⟩) 2 2, .slice (some ⟨w.heap.size + 1, 0, none⟩) 2 2, .slice (some ⟨w.heap.size + 1 + 1 + 1 + 1, 0, none⟩) 2 2] 25)) (w.heap.size + 1 + 1 + 1 + 1 + 1) 25 #[.slice (some ⟨w.heap.size, 0, none⟩) 2 2, .slice (some ⟨w.heap.size + 1, 0, none⟩) 2 2, .slice (some ⟨w.heap.size + 1 + 1 + 1 + 1, 0, none⟩) 2 2] := by
    have h := Box.new (allocs w (EXL w)) 25 #[.slice (some ⟨w.heap.size, 0, none⟩) 2 2, .slice (some ⟨w.heap.size + 1, 0, none⟩) 2 2, .slice (some ⟨w.heap.size + 1 + 1 + 1 + 1, 0, none⟩) 2 2]
    rw [allocs_size] at h
    exact h
  have hgv : GameV ((((((w.alloc (.cells #[.int .i64 0, .int .i64 1] 3)).alloc (.cells #[.int .i64 0, .int .i64 1] 3)).alloc (.cells #[.int .i64 0, .int .i64 1] 3)).alloc (.cells #[.int .i64 0, .int .i64 1] 3)).alloc (.cells #[.slice (some ⟨w.heap.size + 1 + 1, 0, none⟩) 2 2, .slice (some ⟨w.heap.size + 1 + 1 + 1, 0, none⟩) 2 2] 22)).alloc (.cells #[.slice (some ⟨w.heap.size, 0, none⟩) 2 2, .slice (some ⟨w.heap.size + 1, 0, none⟩) 2 2, .slice (some ⟨w.heap.size + 1 + 1 + 1 + 1, 0, none⟩) 2 2] 25)) (.agg #[.slice (some ⟨w.heap.size, 0, none⟩) 2 2, .slice (some ⟨w.heap.size + 1, 0, none⟩) 2 2, .slice (some ⟨w.heap.size + 1 + 1 + 1 + 1, 0, none⟩) 2 2]) P.EX13 := (ex_lit w).grown_ (World.grownBy_alloc (allocs w (EXL w)) (.cells #[.slice (some ⟨w.heap.size, 0, none⟩) 2 2, .slice (some ⟨w.heap.size + 1, 0, none⟩) 2 2, .slice (some ⟨w.heap.size + 1 + 1 + 1 + 1, 0, none⟩) 2 2] 25) none)
  have hb : Below w.heap.size w ((((((w.alloc (.cells #[.int .i64 0, .int .i64 1] 3)).alloc (.cells #[.int .i64 0, .int .i64 1] 3)).alloc (.cells #[.int .i64 0, .int .i64 1] 3)).alloc (.cells #[.int .i64 0, .int .i64 1] 3)).alloc (.cells #[.slice (some ⟨w.heap.size + 1 + 1, 0, none⟩) 2 2, .slice (some ⟨w.heap.size + 1 + 1 + 1, 0, none⟩) 2 2] 22)).alloc (.cells #[.slice (some ⟨w.heap.size, 0, none⟩) 2 2, .slice (some ⟨w.heap.size + 1, 0, none⟩) 2 2, .slice (some ⟨w.heap.size + 1 + 1 + 1 + 1, 0, none⟩) 2 2] 25)) := below_of_grown ((allocs_grown w (EXL w)).trans (World.grownBy_alloc (allocs w (EXL w)) (.cells #[.slice (some ⟨w.heap.size, 0, none⟩) 2 2, .slice (some ⟨w.heap.size + 1, 0, none⟩) 2 2, .slice (some ⟨w.heap.size + 1 + 1 + 1 + 1, 0, none⟩) 2 2] 25) none))
  generalize ((((((w.alloc (.cells #[.int .i64 0, .int .i64 1] 3)).alloc (.cells #[.int .i64 0, .int .i64 1] 3)).alloc (.cells #[.int .i64 0, .int .i64 1] 3)).alloc (.cells #[.int .i64 0, .int .i64 1] 3)).alloc (.cells #[.slice (some ⟨w.heap.size + 1 + 1, 0, none⟩) 2 2, .slice (some ⟨w.heap.size + 1 + 1 + 1, 0, none⟩) 2 2] 22)).alloc (.cells #[.slice (some ⟨w.heap.size, 0, none⟩) 2 2, .slice (some ⟨w.heap.size + 1, 0, none⟩) 2 2, .slice (some ⟨w.heap.size + 1 + 1 + 1 + 1, 0, none⟩) 2 2] 25)) = w1 at hbx hgv hb ⊢
  generalize (w.heap.size + 1 + 1 + 1 + 1 + 1) = q1 at hbx ⊢
  generalize (some ⟨w.heap.size + 1 + 1 + 1 + 1, 0, none⟩ : Option Addr) = co at hbx hgv ⊢
  generalize (some ⟨w.heap.size + 1, 0, none⟩ : Option Addr) = bo at hbx hgv ⊢
  generalize (some ⟨w.heap.size, 0, none⟩ : Option Addr) = ao at hbx hgv ⊢
  have BQ1 := Lib.hid hbx
  have GEX := Lib.hid hgv
  have W := Lib.hid hb
  clear hbx hgv hb
  have hbb := BQ1.out
  have qc0 : w1.cell? ⟨q1, 0, none⟩ = some (.slice ao 2 2) := hbb.cell 0 _ rfl
  have qc1 : w1.cell? ⟨q1, 1, none⟩ = some (.slice bo 2 2) := hbb.cell 1 _ rfl
  have qc2 : w1.cell? ⟨q1, 2, none⟩ = some (.slice co 2 2) := hbb.cell 2 _ rfl
  clear hbb
  go_wp2_with fail
  clear qc0 qc1 qc2
  refine (decomp_any P.EX13 P.ex13_right 2 rfl _ w1 GEX.out (T.out.on W.out)).mono ?_
  rintro e w2 ⟨X, Y, c1, d1, r0, r1, b0, b1, rfl, hd, hb⟩
  obtain ⟨e0, e1, hx0, hy1, hc0, hc1⟩ := P.ex13_is hd.ap
  have hz := hd.zero
  have ho := hd.one
  have hdp := hd.deep.1
  unfold ROWS lstI at hz ho
  rw [e0] at hz
  rw [e1] at ho
  obtain ⟨hz1, hz2, -⟩ := hz
  obtain ⟨ho1, ho2, -⟩ := ho
  have m0 : mvF P.EX13 0 X c1 0 = 0 := by unfold mvF; rw [if_pos ⟨hx0, rfl⟩, hc0]
  have m1 : mvF P.EX13 1 Y c1 1 = 1 := by unfold mvF; rw [if_pos ⟨hy1, rfl⟩, hc1]
  obtain ⟨x0, k0, rfl, -, -, hr0, -⟩ := own_form hz1 (by decide)
  obtain ⟨x1, k1, rfl, -, -, hr1, -⟩ := own_form ho1 (by decide)
  have cr0 : w2.cell? ⟨x0, 0, none⟩ = some (.int .i64 0) := hr0 0 _ rfl
  have cr1 : w2.cell? ⟨x1, 0, none⟩ = some (.int .i64 1) := hr1 0 _ rfl
  have cm0 : w2.cell? ⟨b0, 0, none⟩ = some (.int .i64 0) := by rw [hz2.cellAt 0 (by decide), List.getElem?_map, P.rowOf_at _ (by decide), m0]; rfl
  have cm1 : w2.cell? ⟨b1, 1, none⟩ = some (.int .i64 1) := by rw [ho2.cellAt 1 (by decide), List.getElem?_map, P.rowOf_at _ (by decide), m1]; rfl
  have HLT : Hid (x0 < w2.heap.size ∧ x1 < w2.heap.size ∧ b0 < w2.heap.size ∧ b1 < w2.heap.size) := Lib.hid ⟨(own_lt hz1 x0 rfl).2, (own_lt ho1 x1 rfl).2, (own_lt hz2 b0 rfl).2, (own_lt ho2 b1 rfl).2⟩
  simp only [List.length_cons, List.length_nil, Nat.zero_add]
  clear hd hz1 hz2 ho1 ho2 hr0 hr1 m0 m1 hx0 hy1 hc0 hc1 e0 e1
  replace W := Lib.hid (W.out.trans (hb.mono W.out.size))
  clear hb
  go_upto_region 3 with (fail)
  have hal := World.grownBy_alloc w2 (.cells #[.slice (some ⟨x0, 0, none⟩) 1 k0, .slice (some ⟨x1, 0, none⟩) 1 k1, .slice (some ⟨b0, 0, none⟩) 2 2, .slice (some ⟨b1, 0, none⟩) 2 2] 32) none
  have bq : Box (w2.alloc (.cells #[.slice (some ⟨x0, 0, none⟩) 1 k0, .slice (some ⟨x1, 0, none⟩) 1 k1, .slice (some ⟨b0, 0, none⟩) 2 2, .slice (some ⟨b1, 0, none⟩) 2 2] 32)) w2.heap.size 32 #[.slice (some ⟨x0, 0, none⟩) 1 k0, .slice (some ⟨x1, 0, none⟩) 1 k1, .slice (some ⟨b0, 0, none⟩) 2 2, .slice (some ⟨b1, 0, none⟩) 2 2] := Box.new _ _ _
  replace cr0 := hal.cell cr0 (by simp)
  replace cr1 := hal.cell cr1 (by simp)
  replace cm0 := hal.cell cm0 (by simp)
  replace cm1 := hal.cell cm1 (by simp)
  replace W := Lib.hid (W.out.trans ((below_of_grown hal).mono W.out.size))
  clear hal
  generalize (w2.alloc (.cells #[.slice (some ⟨x0, 0, none⟩) 1 k0, .slice (some ⟨x1, 0, none⟩) 1 k1, .slice (some ⟨b0, 0, none⟩) 2 2, .slice (some ⟨b1, 0, none⟩) 2 2] 32)) = w3 at bq cr0 cr1 cm0 cm1 W ⊢
  have BQ2 := Lib.hid bq
  have fd : decide ((1 : Int) ≤ d1) = true := decide_eq_true hdp
  clear bq
  generalize w2.heap.size = q2 at BQ2 ⊢
  have hbb := BQ2.out
  have cc0 : w3.cell? ⟨q2, 0, none⟩ = some (.slice (some ⟨x0, 0, none⟩) 1 k0) := hbb.cell 0 _ rfl
  have cc1 : w3.cell? ⟨q2, 1, none⟩ = some (.slice (some ⟨x1, 0, none⟩) 1 k1) := hbb.cell 1 _ rfl
  have cc2 : w3.cell? ⟨q2, 2, none⟩ = some (.slice (some ⟨b0, 0, none⟩) 2 2) := hbb.cell 2 _ rfl
  have cc3 : w3.cell? ⟨q2, 3, none⟩ = some (.slice (some ⟨b1, 0, none⟩) 2 2) := hbb.cell 3 _ rfl
  clear hbb
  go_wp2_with fail
  exact bodyPost_ret (v := .bool true) (by simp [results, Tryd.results11, go_sem]) rfl ⟨rfl, W.out⟩
end W
end Go.Proofs.YtpjmboonaciplaaDoor
