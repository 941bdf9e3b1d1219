/- Stage 14: the example at the head of each statement. -/
import Derived.Test.YteeaojciobmcaaaSolveX
import Derived.Test.YteeaojciobmcaaaEvenP
import Derived.Test.YteeaojciobmcaaaMea
import Derived.Test.YteeaojciobmcaaaLiteral
import Derived.Deep.Cut
import Derived.Lib.Hide
namespace Go.Proofs.Yteeaojciobmcaaa
open Go.RowKit
namespace W

def EXL (w : World) : List Obj := [.cells #[.int .i64 0, .int .i64 1] 3, .cells #[.int .i64 1, .int .i64 2] 3, .cells #[.int .i64 0, .int .i64 1] 3, .cells #[.int .i64 0] 3, .cells #[.slice (some ⟨w.heap.size + 1 + 1, 0, none⟩) 2 2, .slice (some ⟨w.heap.size + 1 + 1 + 1, 0, none⟩) 1 1] 30]
theorem ex_lit (w : World) : GameV (allocs w (EXL w)) (.agg #[.slice (some ⟨w.heap.size, 0, none⟩) 2 2, .slice (some ⟨w.heap.size + 1, 0, none⟩) 2 2, .slice (some ⟨w.heap.size + 1 + 1 + 1 + 1, 0, none⟩) 2 2]) P.EX14 := by
  refine ⟨_, _, _, rfl, (allocs_box 0 rfl).ints [0, 1] rfl (by decide) _ _ rfl, (allocs_box 1 rfl).ints [1, 2] rfl (by decide) _ _ rfl, (allocs_box 4 rfl).grid [[0, 1], [0]] rfl (by decide) (fun j x hx => ?_) _ _ rfl⟩
  match j, hx with
  | 0, hx => simp at hx; subst hx; exact (allocs_box 2 rfl).ints [0, 1] rfl (by decide) _ _ rfl
  | 1, hx => simp at hx; subst hx; exact (allocs_box 3 rfl).ints [0] rfl (by decide) _ _ rfl
theorem GameV.grown_ {w w' : World} {v : Value} {g : P.G} (h : GameV w v g) (hg : w.grownBy w' none) : GameV w' v g := h.on (below_of_grown hg)
theorem ex_even1 : evF P.EL14 P.EL14.length = [0, 1] := by decide +kernel
theorem ex_even2 : (List.range P.EL14.length).map (evT P.EX14 P.EL14) = [1, -1] := by decide +kernel
set_option maxRecDepth 100000 in
set_option maxHeartbeats 1000000 in
theorem shown_any (w : World) : Calls Try.prog 13 #[] w fun e w' => e = .returned (.bool true) ∧ Below w.heap.size w w' := by
  go_enter Try.func13, Try.ntmps13
  go_wp2_with fail
  have hbx : Box ((((((w.alloc (.cells #[.int .i64 0, .int .i64 1] 3)).alloc (.cells #[.int .i64 1, .int .i64 2] 3)).alloc (.cells #[.int .i64 0, .int .i64 1] 3)).alloc (.cells #[.int .i64 0] 3)).alloc (.cells #[.slice (some ⟨w.heap.size + 1 + 1, 0, none⟩) 2 2, .slice (some ⟨w.heap.size + 1 + 1 + 1, 0, none⟩) 1 1] 30)).alloc (.cells #[.slice (some ⟨w.heap.size, 0, none⟩) 2 2, .slice (some ⟨w.heap.size + 1, 0, none⟩) 2 2, .slice (some ⟨w.heap.size + 1 + 1 + 1 + 1, 0, none⟩) 2 2] 33)) (w.heap.size + 1 + 1 + 1 + 1 + 1) 33 #[.slice (some ⟨w.heap.size, 0, none⟩) 2 2, .slice (some ⟨w.heap.size + 1, 0, none⟩) 2 2, .slice (some ⟨w.heap.size + 1 + 1 + 1 + 1, 0, none⟩) 2 2] := by
    have h := Box.new (allocs w (EXL w)) 33 #[.slice (some ⟨w.heap.size, 0, none⟩) 2 2, .slice (some ⟨w.heap.size + 1, 0, none⟩) 2 2, .slice (some ⟨w.heap.size + 1 + 1 + 1 + 1, 0, none⟩) 2 2]
    rw [allocs_size] at h
    exact h
  have hgv : GameV ((((((w.alloc (.cells #[.int .i64 0, .int .i64 1] 3)).alloc (.cells #[.int .i64 1, .int .i64 2] 3)).alloc (.cells #[.int .i64 0, .int .i64 1] 3)).alloc (.cells #[.int .i64 0] 3)).alloc (.cells #[.slice (some ⟨w.heap.size + 1 + 1, 0, none⟩) 2 2, .slice (some ⟨w.heap.size + 1 + 1 + 1, 0, none⟩) 1 1] 30)).alloc (.cells #[.slice (some ⟨w.heap.size, 0, none⟩) 2 2, .slice (some ⟨w.heap.size + 1, 0, none⟩) 2 2, .slice (some ⟨w.heap.size + 1 + 1 + 1 + 1, 0, none⟩) 2 2] 33)) (.agg #[.slice (some ⟨w.heap.size, 0, none⟩) 2 2, .slice (some ⟨w.heap.size + 1, 0, none⟩) 2 2, .slice (some ⟨w.heap.size + 1 + 1 + 1 + 1, 0, none⟩) 2 2]) P.EX14 := (ex_lit w).grown_ (World.grownBy_alloc (allocs w (EXL w)) (.cells #[.slice (some ⟨w.heap.size, 0, none⟩) 2 2, .slice (some ⟨w.heap.size + 1, 0, none⟩) 2 2, .slice (some ⟨w.heap.size + 1 + 1 + 1 + 1, 0, none⟩) 2 2] 33) none)
  have hb : Below w.heap.size w ((((((w.alloc (.cells #[.int .i64 0, .int .i64 1] 3)).alloc (.cells #[.int .i64 1, .int .i64 2] 3)).alloc (.cells #[.int .i64 0, .int .i64 1] 3)).alloc (.cells #[.int .i64 0] 3)).alloc (.cells #[.slice (some ⟨w.heap.size + 1 + 1, 0, none⟩) 2 2, .slice (some ⟨w.heap.size + 1 + 1 + 1, 0, none⟩) 1 1] 30)).alloc (.cells #[.slice (some ⟨w.heap.size, 0, none⟩) 2 2, .slice (some ⟨w.heap.size + 1, 0, none⟩) 2 2, .slice (some ⟨w.heap.size + 1 + 1 + 1 + 1, 0, none⟩) 2 2] 33)) := below_of_grown ((allocs_grown w (EXL w)).trans (World.grownBy_alloc (allocs w (EXL w)) (.cells #[.slice (some ⟨w.heap.size, 0, none⟩) 2 2, .slice (some ⟨w.heap.size + 1, 0, none⟩) 2 2, .slice (some ⟨w.heap.size + 1 + 1 + 1 + 1, 0, none⟩) 2 2] 33) none))
  generalize ((((((w.alloc (.cells #[.int .i64 0, .int .i64 1] 3)).alloc (.cells #[.int .i64 1, .int .i64 2] 3)).alloc (.cells #[.int .i64 0, .int .i64 1] 3)).alloc (.cells #[.int .i64 0] 3)).alloc (.cells #[.slice (some ⟨w.heap.size + 1 + 1, 0, none⟩) 2 2, .slice (some ⟨w.heap.size + 1 + 1 + 1, 0, none⟩) 1 1] 30)).alloc (.cells #[.slice (some ⟨w.heap.size, 0, none⟩) 2 2, .slice (some ⟨w.heap.size + 1, 0, none⟩) 2 2, .slice (some ⟨w.heap.size + 1 + 1 + 1 + 1, 0, none⟩) 2 2] 33)) = w1 at hbx hgv hb ⊢
  generalize (w.heap.size + 1 + 1 + 1 + 1 + 1) = q1 at hbx ⊢
  generalize (some ⟨w.heap.size + 1 + 1 + 1 + 1, 0, none⟩ : Option Addr) = co at hbx hgv ⊢
  generalize (some ⟨w.heap.size + 1, 0, none⟩ : Option Addr) = bo at hbx hgv ⊢
  generalize (some ⟨w.heap.size, 0, none⟩ : Option Addr) = ao at hbx hgv ⊢
  have BQ1 := Lib.hid hbx
  have GEX := Lib.hid hgv
  have W := Lib.hid hb
  clear hbx hgv hb
  refine (solve_any P.EX14 P.ex14_right _ w1 GEX.out).mono ?_
  rintro e w2 ⟨u, rfl, ⟨pt, l, rfl, hsol, -, hbt⟩, hb⟩
  obtain rfl := P.ex14_is hsol
  have hbt2 : Box w2 pt 26 (flatT P.EL14) := hbt
  have BQt := Lib.hid hbt2
  clear hbt hbt2 hsol
  replace BQ1 := Lib.hid (BQ1.out.keep (grown_of_below hb none))
  replace GEX := Lib.hid (GEX.out.on hb)
  replace W := Lib.hid (W.out.trans (hb.mono W.out.size))
  clear hb
  simp only [show P.EX14.owner.length = 2 from rfl]
  have hbb := BQ1.out
  have qc0 : w2.cell? ⟨q1, 0, none⟩ = some (.slice ao 2 2) := hbb.cell 0 _ rfl
  have qc1 : w2.cell? ⟨q1, 1, none⟩ = some (.slice bo 2 2) := hbb.cell 1 _ rfl
  have qc2 : w2.cell? ⟨q1, 2, none⟩ = some (.slice co 2 2) := hbb.cell 2 _ rfl
  clear hbb
  go_wp2_with fail
  clear qc0 qc1 qc2
  refine (even_good P.EX14 P.ex14_right P.EL14 rfl (fun j k hk => sol_low P.ex14_sol.1 j k hk) _ _ w2 GEX.out (BQt.out.tups (by decide) 2)).mono ?_
  rintro e w3 ⟨v1, v2, rfl, ho1, ho2, hb⟩
  rw [ex_even1] at ho1
  rw [ex_even2] at ho2
  obtain ⟨x1, k1, rfl, -⟩ := own_at ho1
  obtain ⟨b2, k2, rfl, -, -, hc2, -⟩ := own_form ho2 (by decide)
  have d0 : w3.cell? ⟨b2, 0, none⟩ = some (.int .i64 1) := hc2 0 _ rfl
  simp only [List.length_cons, List.length_nil, Nat.zero_add, Nat.reduceAdd]
  clear hc2 ho1 ho2
  replace BQt := Lib.hid (BQt.out.keep (grown_of_below hb none))
  replace W := Lib.hid (W.out.trans (hb.mono W.out.size))
  clear hb
  have hbb := BQt.out
  have tc0 : w3.cell? ⟨pt, 0, none⟩ = some (.bool false) := hbb.cell 0 _ rfl
  have tc1 : w3.cell? ⟨pt, 1, none⟩ = some (.int .i64 1) := hbb.cell 1 _ rfl
  have tc2 : w3.cell? ⟨pt, 2, none⟩ = some (.int .i64 0) := hbb.cell 2 _ rfl
  have tc3 : w3.cell? ⟨pt, 3, none⟩ = some (.int .i64 0) := hbb.cell 3 _ rfl
  have tc4 : w3.cell? ⟨pt, 4, none⟩ = some (.int .i64 0) := hbb.cell 4 _ rfl
  have tc5 : w3.cell? ⟨pt, 5, none⟩ = some (.bool false) := hbb.cell 5 _ rfl
  have tc6 : w3.cell? ⟨pt, 6, none⟩ = some (.int .i64 0) := hbb.cell 6 _ rfl
  have tc7 : w3.cell? ⟨pt, 7, none⟩ = some (.int .i64 0) := hbb.cell 7 _ rfl
  have tc8 : w3.cell? ⟨pt, 8, none⟩ = some (.int .i64 0) := hbb.cell 8 _ rfl
  have tc9 : w3.cell? ⟨pt, 9, none⟩ = some (.int .i64 0) := hbb.cell 9 _ rfl
  clear hbb
  have he1 : ∀ w, (binOp .eql 26 (.agg #[.bool false, .int .i64 1, .int .i64 0, .int .i64 0, .int .i64 0]) (.agg #[.bool false, .int .i64 1, .int .i64 0, .int .i64 0, .int .i64 0])).run Try.prog w = .ok (.bool true) w := fun w => tup_eql ⟨false, 1, 0, 0, 0⟩ ⟨false, 1, 0, 0, 0⟩ w
  have he0 : ∀ w, (binOp .eql 26 (.agg #[.bool false, .int .i64 0, .int .i64 0, .int .i64 0, .int .i64 0]) (.agg #[.bool false, .int .i64 0, .int .i64 0, .int .i64 0, .int .i64 0])).run Try.prog w = .ok (.bool true) w := fun w => tup_eql .zero .zero w
  go_wp2_with fail
  exact bodyPost_ret (v := .bool true) (by simp [results, Try.results13, go_sem]) rfl ⟨rfl, W.out⟩
end W
end Go.Proofs.Yteeaojciobmcaaa
