/- Stage 17: the example at the head of each statement. -/
import Derived.Test.YtghdjkpndhcplaaDoorPlW
import Derived.Test.YtghdjkpndhcplaaDoorLiteral
import Derived.Deep.Cut
import Derived.Lib.Hide
namespace Go.Proofs.YtghdjkpndhcplaaDoor
open Go.RowKit
namespace P
def EX17 : G := ⟨[0, 1], [0, 1], [[0, 1], [0, 1]]⟩
theorem ex17_right : EX17.Right := (G.ok_iff _).1 (by decide +kernel)
theorem ex17_play : PlayP EX17 1 0 [0] [1, 1, 0] [1, 1, 1] [0] 0 0 := by
  refine .inr (.inr ⟨⟨by decide +kernel, by decide, .inl rfl⟩, by decide, .inl ⟨[(1, 0), (1, 1), (1, 2), (0, 0)], (0, 0), 3, ⟨by decide, ?_, rfl⟩, rfl, rfl, rfl, by decide +kernel, rfl⟩⟩)
  exact ⟨by decide +kernel, by decide +kernel, by decide +kernel, show stepS EX17 0 [0] (scr [1, 1, 0]) (0, 0) = some (0, 0) by decide +kernel⟩
end P
namespace W

def EXL (w : World) : List Obj := [.cells #[.int .i64 0, .int .i64 1] 3, .cells #[.int .i64 0, .int .i64 1] 3, .cells #[.int .i64 0, .int .i64 1] 3, .cells #[.int .i64 0, .int .i64 1] 3, .cells #[.slice (some ⟨w.heap.size + 1 + 1, 0, none⟩) 2 2, .slice (some ⟨w.heap.size + 1 + 1 + 1, 0, none⟩) 2 2] 22, .cells #[.slice (some ⟨w.heap.size, 0, none⟩) 2 2, .slice (some ⟨w.heap.size + 1, 0, none⟩) 2 2, .slice (some ⟨w.heap.size + 1 + 1 + 1 + 1, 0, none⟩) 2 2] 25, .cells #[.int .i64 0] 3, .cells #[.int .i64 1, .int .i64 1, .int .i64 0] 3]
theorem ex_lit (w : World) : GameV (allocs w (EXL w)) (.agg #[.slice (some ⟨w.heap.size, 0, none⟩) 2 2, .slice (some ⟨w.heap.size + 1, 0, none⟩) 2 2, .slice (some ⟨w.heap.size + 1 + 1 + 1 + 1, 0, none⟩) 2 2]) P.EX17 := by
  refine ⟨_, _, _, rfl, (allocs_box 0 rfl).ints [0, 1] rfl (by decide) _ _ rfl, (allocs_box 1 rfl).ints [0, 1] rfl (by decide) _ _ rfl, (allocs_box 4 rfl).grid [[0, 1], [0, 1]] rfl (by decide) (fun j x hx => ?_) _ _ rfl⟩
  match j, hx with
  | 0, hx => simp at hx; subst hx; exact (allocs_box 2 rfl).ints [0, 1] rfl (by decide) _ _ rfl
  | 1, hx => simp at hx; subst hx; exact (allocs_box 3 rfl).ints [0, 1] rfl (by decide) _ _ rfl
theorem ex_mv (w : World) : Ints (allocs w (EXL w)) (.slice (some ⟨w.heap.size + 1 + 1 + 1 + 1 + 1 + 1, 0, none⟩) 1 1) [0] := (allocs_box 6 rfl).ints [0] rfl (by decide) _ _ rfl
theorem ex_sc (w : World) : Ints (allocs w (EXL w)) (.slice (some ⟨w.heap.size + 1 + 1 + 1 + 1 + 1 + 1 + 1, 0, none⟩) 3 3) [1, 1, 0] := (allocs_box 7 rfl).ints [1, 1, 0] rfl (by decide) _ _ rfl
set_option maxRecDepth 100000 in
set_option maxHeartbeats 1000000 in
theorem shown_any (w : World) : Calls Tryd.prog 4 #[] w fun e w' => e = .returned (.bool true) ∧ Below w.heap.size w w' := by
  go_enter Tryd.func4, Tryd.ntmps4
  go_wp2_with fail
  have hgv : GameV ((((((((w.alloc (.cells #[.int .i64 0, .int .i64 1] 3)).alloc (.cells #[.int .i64 0, .int .i64 1] 3)).alloc (.cells #[.int .i64 0, .int .i64 1] 3)).alloc (.cells #[.int .i64 0, .int .i64 1] 3)).alloc (.cells #[.slice (some ⟨w.heap.size + 1 + 1, 0, none⟩) 2 2, .slice (some ⟨w.heap.size + 1 + 1 + 1, 0, none⟩) 2 2] 22)).alloc (.cells #[.slice (some ⟨w.heap.size, 0, none⟩) 2 2, .slice (some ⟨w.heap.size + 1, 0, none⟩) 2 2, .slice (some ⟨w.heap.size + 1 + 1 + 1 + 1, 0, none⟩) 2 2] 25)).alloc (.cells #[.int .i64 0] 3)).alloc (.cells #[.int .i64 1, .int .i64 1, .int .i64 0] 3)) (.agg #[.slice (some ⟨w.heap.size, 0, none⟩) 2 2, .slice (some ⟨w.heap.size + 1, 0, none⟩) 2 2, .slice (some ⟨w.heap.size + 1 + 1 + 1 + 1, 0, none⟩) 2 2]) P.EX17 := ex_lit w
  have hmv : Ints ((((((((w.alloc (.cells #[.int .i64 0, .int .i64 1] 3)).alloc (.cells #[.int .i64 0, .int .i64 1] 3)).alloc (.cells #[.int .i64 0, .int .i64 1] 3)).alloc (.cells #[.int .i64 0, .int .i64 1] 3)).alloc (.cells #[.slice (some ⟨w.heap.size + 1 + 1, 0, none⟩) 2 2, .slice (some ⟨w.heap.size + 1 + 1 + 1, 0, none⟩) 2 2] 22)).alloc (.cells #[.slice (some ⟨w.heap.size, 0, none⟩) 2 2, .slice (some ⟨w.heap.size + 1, 0, none⟩) 2 2, .slice (some ⟨w.heap.size + 1 + 1 + 1 + 1, 0, none⟩) 2 2] 25)).alloc (.cells #[.int .i64 0] 3)).alloc (.cells #[.int .i64 1, .int .i64 1, .int .i64 0] 3)) (.slice (some ⟨w.heap.size + 1 + 1 + 1 + 1 + 1 + 1, 0, none⟩) 1 1) [0] := ex_mv w
  have hsc : Ints ((((((((w.alloc (.cells #[.int .i64 0, .int .i64 1] 3)).alloc (.cells #[.int .i64 0, .int .i64 1] 3)).alloc (.cells #[.int .i64 0, .int .i64 1] 3)).alloc (.cells #[.int .i64 0, .int .i64 1] 3)).alloc (.cells #[.slice (some ⟨w.heap.size + 1 + 1, 0, none⟩) 2 2, .slice (some ⟨w.heap.size + 1 + 1 + 1, 0, none⟩) 2 2] 22)).alloc (.cells #[.slice (some ⟨w.heap.size, 0, none⟩) 2 2, .slice (some ⟨w.heap.size + 1, 0, none⟩) 2 2, .slice (some ⟨w.heap.size + 1 + 1 + 1 + 1, 0, none⟩) 2 2] 25)).alloc (.cells #[.int .i64 0] 3)).alloc (.cells #[.int .i64 1, .int .i64 1, .int .i64 0] 3)) (.slice (some ⟨w.heap.size + 1 + 1 + 1 + 1 + 1 + 1 + 1, 0, none⟩) 3 3) [1, 1, 0] := ex_sc w
  have hb : Below w.heap.size w ((((((((w.alloc (.cells #[.int .i64 0, .int .i64 1] 3)).alloc (.cells #[.int .i64 0, .int .i64 1] 3)).alloc (.cells #[.int .i64 0, .int .i64 1] 3)).alloc (.cells #[.int .i64 0, .int .i64 1] 3)).alloc (.cells #[.slice (some ⟨w.heap.size + 1 + 1, 0, none⟩) 2 2, .slice (some ⟨w.heap.size + 1 + 1 + 1, 0, none⟩) 2 2] 22)).alloc (.cells #[.slice (some ⟨w.heap.size, 0, none⟩) 2 2, .slice (some ⟨w.heap.size + 1, 0, none⟩) 2 2, .slice (some ⟨w.heap.size + 1 + 1 + 1 + 1, 0, none⟩) 2 2] 25)).alloc (.cells #[.int .i64 0] 3)).alloc (.cells #[.int .i64 1, .int .i64 1, .int .i64 0] 3)) := below_of_grown (allocs_grown w (EXL w))
  generalize ((((((((w.alloc (.cells #[.int .i64 0, .int .i64 1] 3)).alloc (.cells #[.int .i64 0, .int .i64 1] 3)).alloc (.cells #[.int .i64 0, .int .i64 1] 3)).alloc (.cells #[.int .i64 0, .int .i64 1] 3)).alloc (.cells #[.slice (some ⟨w.heap.size + 1 + 1, 0, none⟩) 2 2, .slice (some ⟨w.heap.size + 1 + 1 + 1, 0, none⟩) 2 2] 22)).alloc (.cells #[.slice (some ⟨w.heap.size, 0, none⟩) 2 2, .slice (some ⟨w.heap.size + 1, 0, none⟩) 2 2, .slice (some ⟨w.heap.size + 1 + 1 + 1 + 1, 0, none⟩) 2 2] 25)).alloc (.cells #[.int .i64 0] 3)).alloc (.cells #[.int .i64 1, .int .i64 1, .int .i64 0] 3)) = w1 at hgv hmv hsc hb ⊢
  refine (run_any P.EX17 _ 1 0 _ _ [0] [1, 1, 0] w1 hgv hmv hsc).mono ?_
  rintro e w2 ⟨⟨v1, v2, A, B, tp, c, rfl, ho1, ho2, -, hp⟩, hb2⟩
  obtain ⟨rfl, rfl, rfl, rfl⟩ := hp.unique P.ex17_play
  obtain ⟨b1, k1, rfl, -⟩ := own_form ho1 (by decide)
  obtain ⟨b2, k2, rfl, -, -, hc2, -⟩ := own_form ho2 (by decide)
  have d0 : w2.cell? ⟨b2, 0, none⟩ = some (.int .i64 0) := hc2 0 _ rfl
  have W := Lib.hid (hb.trans (hb2.mono hb.size))
  simp only [List.length_cons, List.length_nil, Nat.zero_add, Nat.reduceAdd]
  clear hgv hmv hsc hb hb2 ho1 ho2 hc2 hp
  go_upto_region 3 with (fail)
  have hbq := Box.new w2 40 #[.slice (some ⟨b1, 0, none⟩) 3 k1, .slice (some ⟨b2, 0, none⟩) 1 k2, .int .i64 0]
  have hg := below_of_grown (World.grownBy_alloc w2 (.cells #[.slice (some ⟨b1, 0, none⟩) 3 k1, .slice (some ⟨b2, 0, none⟩) 1 k2, .int .i64 0] 40) none)
  have d1 := (hg.cell (p := ⟨b2, 0, none⟩) (cell_lt d0)).trans d0
  have W3 := Lib.hid (W.out.trans (hg.mono W.out.size))
  generalize w2.alloc (.cells #[.slice (some ⟨b1, 0, none⟩) 3 k1, .slice (some ⟨b2, 0, none⟩) 1 k2, .int .i64 0] 40) = w3 at hbq d1 W3 ⊢
  generalize w2.heap.size = qp at hbq ⊢
  clear hg d0 W
  have pc0 : w3.cell? ⟨qp, 0, none⟩ = some (.slice (some ⟨b1, 0, none⟩) 3 k1) := hbq.cell 0 _ rfl
  have pc1 : w3.cell? ⟨qp, 1, none⟩ = some (.slice (some ⟨b2, 0, none⟩) 1 k2) := hbq.cell 1 _ rfl
  have pc2 : w3.cell? ⟨qp, 2, none⟩ = some (.int .i64 0) := hbq.cell 2 _ rfl
  go_wp2_with fail
  go_ret
  exact ⟨rfl, W3.out⟩
end W
end Go.Proofs.YtghdjkpndhcplaaDoor
