/- GameDuals: the walk. -/
import Derived.Test.YtlbikfimfaecnaaDoorShown
import Derived.Test.YtlbikfimfaecnaaDoorDualsP
import Derived.Test.YtlbikfimfaecnaaDoorSharesP
import Derived.Test.YtlbikfimfaecnaaDoorRights
import Derived.Test.YtlbikfimfaecnaaDoorDual
import Derived.Test.YtlbikfimfaecnaaDoorCopies
import Derived.Test.YtlbikfimfaecnaaDoorShares
import Derived.Test.YtlbikfimfaecnaaDoorIs
import Derived.Test.YtlbikfimfaecnaaDoorReads
import Derived.Deep.Cut
import Derived.Deep.CutRange
import Derived.Laws.StructEq
namespace Go.Proofs.YtlbikfimfaecnaaDoor
open Go.RowKit Go.Sort
namespace W

theorem at_zero_any {g : P.G} (h : g.Right) (z : Int) : (!decide (P.places z g.prio g.prio.length = 0#256)) = decide (z ∈ g.prio) := by
  have hle : g.prio.length ≤ 200 := by have := h.prio; have := h.many; omega
  by_cases hz : z ∈ g.prio
  · rw [decide_eq_true hz]
    obtain ⟨i, hi, e⟩ := P.G.prio_mem h hz
    have hi' : i < g.prio.length := by rw [h.prio]; exact hi
    have hne : ¬ P.places z g.prio g.prio.length = 0#256 := fun e0 => by
      have hb := g.atp_bit z i (by omega)
      have e1 : g.atp z = 0#256 := e0
      rw [e1, BitVec.getLsbD_zero, e, decide_eq_true hi', decide_eq_true rfl] at hb
      cases hb
    rw [decide_eq_false hne]
    rfl
  · rw [decide_eq_false hz]
    have he : P.places z g.prio g.prio.length = 0#256 := by
      show g.atp z = 0#256
      apply BitVec.eq_of_getLsbD_eq
      intro i hi
      rw [g.atp_bit z i hi, BitVec.getLsbD_zero]
      by_cases hl : i < g.prio.length
      · have hm := P.G.mem_prio h i (by rw [← h.prio]; exact hl)
        rw [decide_eq_false (show ¬ g.prio.getD i 0 = z from fun e => hz (e ▸ hm)), Bool.and_false]
      · rw [decide_eq_false hl, Bool.false_and]
    rw [decide_eq_true he]
    rfl
set_option maxRecDepth 100000 in
set_option maxHeartbeats 4000000 in
theorem duals_bad (g : P.G) (v : Value) (w : World) (hv : GameV w v g) (hT : Tab w) (hok : g.ok = false) (hd : g.dual = P.G.none) : Calls Tryd.prog 7 #[v] w fun e w' => e = .returned (.bool true) ∧ Below w.heap.size w w' := by
  have HV := Lib.hid hv
  obtain ⟨a, b, c, rfl, -⟩ := hv
  have T := Lib.hid hT
  have W := Lib.hid (Below.refl w.heap.size w)
  have HOK := Lib.hid hok
  have HD := Lib.hid hd
  clear hT hok hd
  go_enter Tryd.func7, Tryd.ntmps7
  go_wp2_with fail
  have bq : Box (w.alloc (.cells #[a, b, c] 25)) w.heap.size 25 #[a, b, c] := Box.new _ _ _
  have hgq := World.grownBy_alloc w (.cells #[a, b, c] 25) none
  have T := Lib.hid (T.out.on (below_of_grown hgq))
  have W := Lib.hid (W.out.trans ((below_of_grown hgq).mono W.out.size))
  generalize (w.alloc (.cells #[a, b, c] 25)) = w1 at bq T W ⊢
  generalize w.heap.size = qg at bq ⊢
  have BQg := Lib.hid bq
  clear bq hgq
  refine (shown_any _ T.out).mono ?_
  rintro e w2 ⟨rfl, hb⟩
  have BQg := Lib.hid (BQg.out.keep (grown_of_below hb none))
  have W := Lib.hid (W.out.trans (hb.mono W.out.size))
  clear hb T
  have bb := BQg.out
  have pc0 : w2.cell? ⟨qg, 0, none⟩ = some a := bb.cell 0 _ rfl
  have pc1 : w2.cell? ⟨qg, 1, none⟩ = some b := bb.cell 1 _ rfl
  have pc2 : w2.cell? ⟨qg, 2, none⟩ = some c := bb.cell 2 _ rfl
  clear bb
  go_wp2_with fail
  refine (isright_any g _ _ (HV.out.on W.out)).mono ?_
  rintro e w3 ⟨rfl, hb⟩
  have BQg := Lib.hid (BQg.out.keep (grown_of_below hb none))
  have W := Lib.hid (W.out.trans (hb.mono W.out.size))
  rw [HOK.out]
  clear hb pc0 pc1 pc2
  have bb := BQg.out
  have pc0 : w3.cell? ⟨qg, 0, none⟩ = some a := bb.cell 0 _ rfl
  have pc1 : w3.cell? ⟨qg, 1, none⟩ = some b := bb.cell 1 _ rfl
  have pc2 : w3.cell? ⟨qg, 2, none⟩ = some c := bb.cell 2 _ rfl
  clear bb
  go_wp2_with fail
  refine (dual_any g _ _ (HV.out.on W.out)).mono ?_
  rintro e w4 ⟨dav, dbv, dcv, dL, rfl, ho, hb⟩
  have hgd := ho.game (fits_dual HV.out.fits)
  rw [HD.out] at ho hgd
  obtain ⟨da, dka, db, dkb, dc, dkc, rfl, rfl, rfl⟩ := ho.forms
  have BQg := Lib.hid (BQg.out.keep (grown_of_below hb none))
  have W := Lib.hid (W.out.trans (hb.mono W.out.size))
  have GD := Lib.hid hgd
  clear hb ho hgd pc0 pc1 pc2
  go_upto_region 4 with (fail)
  have bq : Box (w4.alloc (.cells #[.slice da P.G.none.owner.length dka, .slice db P.G.none.prio.length dkb, .slice dc P.G.none.moves.length dkc] 25)) w4.heap.size 25 #[.slice da P.G.none.owner.length dka, .slice db P.G.none.prio.length dkb, .slice dc P.G.none.moves.length dkc] := Box.new _ _ _
  have hgq := World.grownBy_alloc w4 (.cells #[.slice da P.G.none.owner.length dka, .slice db P.G.none.prio.length dkb, .slice dc P.G.none.moves.length dkc] 25) none
  have BQg := Lib.hid (BQg.out.keep hgq)
  have W := Lib.hid (W.out.trans ((below_of_grown hgq).mono W.out.size))
  have GD := Lib.hid (GD.out.on (below_of_grown hgq))
  generalize (w4.alloc (.cells #[.slice da P.G.none.owner.length dka, .slice db P.G.none.prio.length dkb, .slice dc P.G.none.moves.length dkc] 25)) = w5 at bq BQg W GD ⊢
  generalize w4.heap.size = qd at bq ⊢
  have BQd := Lib.hid bq
  clear bq hgq
  have bb := BQg.out
  have pc0 : w5.cell? ⟨qg, 0, none⟩ = some a := bb.cell 0 _ rfl
  have pc1 : w5.cell? ⟨qg, 1, none⟩ = some b := bb.cell 1 _ rfl
  have pc2 : w5.cell? ⟨qg, 2, none⟩ = some c := bb.cell 2 _ rfl
  clear bb
  obtain ⟨s0, hs0⟩ : ∃ s, P.places 0 g.prio g.prio.length = s := ⟨_, rfl⟩
  have z0 := fun w => set_neq s0 0#256 w
  rw [wrd_none 0 (by decide), wrd_none 1 (by decide), wrd_none 2 (by decide), wrd_none 3 (by decide)] at z0
  have HS0 := Lib.hid hs0
  clear hs0
  go_wp2_with fail
  refine (at_any g _ 0 _ (HV.out.on W.out)).mono ?_
  rintro e w6 ⟨rfl, hb⟩
  rw [HS0.out]
  have BQg := Lib.hid (BQg.out.keep (grown_of_below hb none))
  have W := Lib.hid (W.out.trans (hb.mono W.out.size))
  have BQd := Lib.hid (BQd.out.keep (grown_of_below hb none))
  have GD := Lib.hid (GD.out.on hb)
  clear hb pc0 pc1 pc2
  go_upto_region 5 with (fail)
  clear z0
  have bb := BQg.out
  have pc0 : w6.cell? ⟨qg, 0, none⟩ = some a := bb.cell 0 _ rfl
  have pc1 : w6.cell? ⟨qg, 1, none⟩ = some b := bb.cell 1 _ rfl
  have pc2 : w6.cell? ⟨qg, 2, none⟩ = some c := bb.cell 2 _ rfl
  clear bb
  obtain ⟨s7, hs7⟩ : ∃ s, P.places 7 g.prio g.prio.length = s := ⟨_, rfl⟩
  have z7 := fun w => set_neq s7 0#256 w
  rw [wrd_none 0 (by decide), wrd_none 1 (by decide), wrd_none 2 (by decide), wrd_none 3 (by decide)] at z7
  have HS7 := Lib.hid hs7
  clear hs7
  go_wp2_with fail
  refine (at_any g _ 7 _ (HV.out.on W.out)).mono ?_
  rintro e w7 ⟨rfl, hb⟩
  rw [HS7.out]
  have BQg := Lib.hid (BQg.out.keep (grown_of_below hb none))
  have W := Lib.hid (W.out.trans (hb.mono W.out.size))
  have BQd := Lib.hid (BQd.out.keep (grown_of_below hb none))
  have GD := Lib.hid (GD.out.on hb)
  clear hb pc0 pc1 pc2
  go_upto_region 6 with (fail)
  clear z7
  generalize (!decide (s0 = 0#256)) = lo
  generalize (!decide (s7 = 0#256)) = hi
  have bb := BQd.out
  have pc0 : w7.cell? ⟨qd, 0, none⟩ = some (.slice da P.G.none.owner.length dka) := bb.cell 0 _ rfl
  have pc1 : w7.cell? ⟨qd, 1, none⟩ = some (.slice db P.G.none.prio.length dkb) := bb.cell 1 _ rfl
  have pc2 : w7.cell? ⟨qd, 2, none⟩ = some (.slice dc P.G.none.moves.length dkc) := bb.cell 2 _ rfl
  clear bb
  simp only [P.G.none, List.length_nil] at pc0 pc1 pc2
  go_wp2_with fail
  exact bodyPost_ret (v := .bool true) (by simp [results, Tryd.results7, go_sem]) rfl ⟨rfl, W.out⟩
set_option maxRecDepth 100000 in
set_option maxHeartbeats 4000000 in
theorem duals_both (g : P.G) (v : Value) (w : World) (hv : GameV w v g) (hT : Tab w) (hok : g.Right) (h0 : (0 : Int) ∈ g.prio) (h7 : (7 : Int) ∈ g.prio) (hd : g.dual = P.G.none) : Calls Tryd.prog 7 #[v] w fun e w' => e = .returned (.bool true) ∧ Below w.heap.size w w' := by
  have E0 := Lib.hid ((at_zero_any hok 0).trans (decide_eq_true h0))
  have E7 := Lib.hid ((at_zero_any hok 7).trans (decide_eq_true h7))
  clear h0 h7
  have HV := Lib.hid hv
  obtain ⟨a, b, c, rfl, -⟩ := hv
  have T := Lib.hid hT
  have W := Lib.hid (Below.refl w.heap.size w)
  have HOK := Lib.hid ((P.G.ok_iff g).2 hok)
  have HD := Lib.hid hd
  clear hT hok hd
  go_enter Tryd.func7, Tryd.ntmps7
  go_wp2_with fail
  have bq : Box (w.alloc (.cells #[a, b, c] 25)) w.heap.size 25 #[a, b, c] := Box.new _ _ _
  have hgq := World.grownBy_alloc w (.cells #[a, b, c] 25) none
  have T := Lib.hid (T.out.on (below_of_grown hgq))
  have W := Lib.hid (W.out.trans ((below_of_grown hgq).mono W.out.size))
  generalize (w.alloc (.cells #[a, b, c] 25)) = w1 at bq T W ⊢
  generalize w.heap.size = qg at bq ⊢
  have BQg := Lib.hid bq
  clear bq hgq
  refine (shown_any _ T.out).mono ?_
  rintro e w2 ⟨rfl, hb⟩
  have BQg := Lib.hid (BQg.out.keep (grown_of_below hb none))
  have W := Lib.hid (W.out.trans (hb.mono W.out.size))
  clear hb T
  have bb := BQg.out
  have pc0 : w2.cell? ⟨qg, 0, none⟩ = some a := bb.cell 0 _ rfl
  have pc1 : w2.cell? ⟨qg, 1, none⟩ = some b := bb.cell 1 _ rfl
  have pc2 : w2.cell? ⟨qg, 2, none⟩ = some c := bb.cell 2 _ rfl
  clear bb
  go_wp2_with fail
  refine (isright_any g _ _ (HV.out.on W.out)).mono ?_
  rintro e w3 ⟨rfl, hb⟩
  have BQg := Lib.hid (BQg.out.keep (grown_of_below hb none))
  have W := Lib.hid (W.out.trans (hb.mono W.out.size))
  rw [HOK.out]
  clear hb pc0 pc1 pc2
  have bb := BQg.out
  have pc0 : w3.cell? ⟨qg, 0, none⟩ = some a := bb.cell 0 _ rfl
  have pc1 : w3.cell? ⟨qg, 1, none⟩ = some b := bb.cell 1 _ rfl
  have pc2 : w3.cell? ⟨qg, 2, none⟩ = some c := bb.cell 2 _ rfl
  clear bb
  go_wp2_with fail
  refine (dual_any g _ _ (HV.out.on W.out)).mono ?_
  rintro e w4 ⟨dav, dbv, dcv, dL, rfl, ho, hb⟩
  have hgd := ho.game (fits_dual HV.out.fits)
  rw [HD.out] at ho hgd
  obtain ⟨da, dka, db, dkb, dc, dkc, rfl, rfl, rfl⟩ := ho.forms
  have BQg := Lib.hid (BQg.out.keep (grown_of_below hb none))
  have W := Lib.hid (W.out.trans (hb.mono W.out.size))
  have GD := Lib.hid hgd
  clear hb ho hgd pc0 pc1 pc2
  go_upto_region 4 with (fail)
  have bq : Box (w4.alloc (.cells #[.slice da P.G.none.owner.length dka, .slice db P.G.none.prio.length dkb, .slice dc P.G.none.moves.length dkc] 25)) w4.heap.size 25 #[.slice da P.G.none.owner.length dka, .slice db P.G.none.prio.length dkb, .slice dc P.G.none.moves.length dkc] := Box.new _ _ _
  have hgq := World.grownBy_alloc w4 (.cells #[.slice da P.G.none.owner.length dka, .slice db P.G.none.prio.length dkb, .slice dc P.G.none.moves.length dkc] 25) none
  have BQg := Lib.hid (BQg.out.keep hgq)
  have W := Lib.hid (W.out.trans ((below_of_grown hgq).mono W.out.size))
  have GD := Lib.hid (GD.out.on (below_of_grown hgq))
  generalize (w4.alloc (.cells #[.slice da P.G.none.owner.length dka, .slice db P.G.none.prio.length dkb, .slice dc P.G.none.moves.length dkc] 25)) = w5 at bq BQg W GD ⊢
  generalize w4.heap.size = qd at bq ⊢
  have BQd := Lib.hid bq
  clear bq hgq
  have bb := BQg.out
  have pc0 : w5.cell? ⟨qg, 0, none⟩ = some a := bb.cell 0 _ rfl
  have pc1 : w5.cell? ⟨qg, 1, none⟩ = some b := bb.cell 1 _ rfl
  have pc2 : w5.cell? ⟨qg, 2, none⟩ = some c := bb.cell 2 _ rfl
  clear bb
  obtain ⟨s0, hs0⟩ : ∃ s, P.places 0 g.prio g.prio.length = s := ⟨_, rfl⟩
  have z0 := fun w => set_neq s0 0#256 w
  rw [wrd_none 0 (by decide), wrd_none 1 (by decide), wrd_none 2 (by decide), wrd_none 3 (by decide)] at z0
  have HS0 := Lib.hid hs0
  clear hs0
  go_wp2_with fail
  refine (at_any g _ 0 _ (HV.out.on W.out)).mono ?_
  rintro e w6 ⟨rfl, hb⟩
  rw [HS0.out]
  have BQg := Lib.hid (BQg.out.keep (grown_of_below hb none))
  have W := Lib.hid (W.out.trans (hb.mono W.out.size))
  have BQd := Lib.hid (BQd.out.keep (grown_of_below hb none))
  have GD := Lib.hid (GD.out.on hb)
  clear hb pc0 pc1 pc2
  go_upto_region 5 with (fail)
  clear z0
  have bb := BQg.out
  have pc0 : w6.cell? ⟨qg, 0, none⟩ = some a := bb.cell 0 _ rfl
  have pc1 : w6.cell? ⟨qg, 1, none⟩ = some b := bb.cell 1 _ rfl
  have pc2 : w6.cell? ⟨qg, 2, none⟩ = some c := bb.cell 2 _ rfl
  clear bb
  obtain ⟨s7, hs7⟩ : ∃ s, P.places 7 g.prio g.prio.length = s := ⟨_, rfl⟩
  have z7 := fun w => set_neq s7 0#256 w
  rw [wrd_none 0 (by decide), wrd_none 1 (by decide), wrd_none 2 (by decide), wrd_none 3 (by decide)] at z7
  have HS7 := Lib.hid hs7
  clear hs7
  go_wp2_with fail
  refine (at_any g _ 7 _ (HV.out.on W.out)).mono ?_
  rintro e w7 ⟨rfl, hb⟩
  rw [HS7.out]
  have BQg := Lib.hid (BQg.out.keep (grown_of_below hb none))
  have W := Lib.hid (W.out.trans (hb.mono W.out.size))
  have BQd := Lib.hid (BQd.out.keep (grown_of_below hb none))
  have GD := Lib.hid (GD.out.on hb)
  clear hb pc0 pc1 pc2
  go_upto_region 6 with (fail)
  clear z7
  rw [← HS0.out, ← HS7.out, E0.out, E7.out]
  have bb := BQd.out
  have pc0 : w7.cell? ⟨qd, 0, none⟩ = some (.slice da P.G.none.owner.length dka) := bb.cell 0 _ rfl
  have pc1 : w7.cell? ⟨qd, 1, none⟩ = some (.slice db P.G.none.prio.length dkb) := bb.cell 1 _ rfl
  have pc2 : w7.cell? ⟨qd, 2, none⟩ = some (.slice dc P.G.none.moves.length dkc) := bb.cell 2 _ rfl
  clear bb
  simp only [P.G.none, List.length_nil] at pc0 pc1 pc2
  go_wp2_with fail
  exact bodyPost_ret (v := .bool true) (by simp [results, Tryd.results7, go_sem]) rfl ⟨rfl, W.out⟩

/-- What stays through the loops. -/
structure InvD (w w4 : World) (qg qd : Nat) (gv dv : Array Value) (wr : World) : Prop where
  fg : Box wr qg 25 gv
  fd : Box wr qd 25 dv
  fw : Below w.heap.size w wr
  f4 : Below w4.heap.size w4 wr
/-- What stays through the last loop. -/
structure InvB (w w4 wb : World) (qg qd qb : Nat) (gv dv bv : Array Value) (wr : World) : Prop where
  fd : InvD w w4 qg qd gv dv wr
  fb : Box wr qb 25 bv
  f5 : Below wb.heap.size wb wr
theorem InvD.on {w w4 : World} {qg qd : Nat} {gv dv : Array Value} {wr w' : World} (h : InvD w w4 qg qd gv dv wr) (hb : Below wr.heap.size wr w') : InvD w w4 qg qd gv dv w' :=
  ⟨h.fg.keep (grown_of_below hb none), h.fd.keep (grown_of_below hb none), h.fw.trans (hb.mono h.fw.size), h.f4.trans (hb.mono h.f4.size)⟩
theorem InvB.on {w w4 wb : World} {qg qd qb : Nat} {gv dv bv : Array Value} {wr w' : World} (h : InvB w w4 wb qg qd qb gv dv bv wr) (hb : Below wr.heap.size wr w') : InvB w w4 wb qg qd qb gv dv bv w' :=
  ⟨h.fd.on hb, h.fb.keep (grown_of_below hb none), h.f5.trans (hb.mono h.f5.size)⟩
theorem odd_sum (x y s : Int) (h : x = y + s) (hs : s = 1 ∨ s = -1) (h0 : 0 ≤ y ∧ y ≤ 7) (h1 : 0 ≤ x ∧ x ≤ 7) : IntKind.i64.wrap (x + y) = x + y ∧ ((x + y).tmod 2 != 1) = false := by
  have e := Int.tmod_eq_emod_of_nonneg (a := x + y) (b := 2) (by omega)
  exact ⟨by rw [IntKind.wrap_i64]; omega, by rw [bne_eq_false_iff_eq]; omega⟩
theorem even_sum (x y : Int) (s t : Int) (h : x = y + s + t) (hs : s = 1 ∨ s = -1) (ht : t = 1 ∨ t = -1) (h0 : 0 ≤ y ∧ y ≤ 7) (h1 : 0 ≤ x ∧ x ≤ 7) : IntKind.i64.wrap (x + y) = x + y ∧ ((x + y).tmod 2 != 0) = false := by
  have e := Int.tmod_eq_emod_of_nonneg (a := x + y) (b := 2) (by omega)
  exact ⟨by rw [IntKind.wrap_i64]; omega, by rw [bne_eq_false_iff_eq]; omega⟩
theorem decide_pair (a b c d y : Int) (h1 : a = c + y) (h2 : b = d + y) : decide (a < b) = decide (c < d) ∧ (a == b) = (c == d) := by
  subst h1 h2
  refine ⟨decide_eq_decide.2 (by omega), ?_⟩
  rw [Bool.eq_iff_iff, beq_iff_eq, beq_iff_eq]
  omega
set_option maxRecDepth 100000 in
set_option maxHeartbeats 8000000 in
theorem duals_fine (g d b : P.G) (n : Nat) (y z : Int) (v : Value) (w : World) (hv : GameV w v g) (hT : Tab w) (hok : g.Right) (hlo : ¬ ((0 : Int) ∈ g.prio ∧ (7 : Int) ∈ g.prio)) (hd : g.dual = d) (hdb : d.dual = b) (hg : P.OfSize g n) (t1 : P.Turn g d n y) (t2 : P.Turn d b n z) : Calls Tryd.prog 7 #[v] w fun e w' => e = .returned (.bool true) ∧ Below w.heap.size w w' := by
  have EL := Lib.hid (show ((!decide (P.places 0 g.prio g.prio.length = 0#256)) && (!decide (P.places 7 g.prio g.prio.length = 0#256))) = false by
    rw [at_zero_any hok 0, at_zero_any hok 7]
    by_cases h0 : (0 : Int) ∈ g.prio
    · rw [decide_eq_false (fun h7 => hlo ⟨h0, h7⟩), Bool.and_false]
    · rw [decide_eq_false h0, Bool.false_and])
  have hf := Lib.hid hv.fits
  have hfd := Lib.hid (show Fits d by rw [← hd]; exact fits_dual hv.fits)
  have hfb := Lib.hid (show Fits b by rw [← hdb, ← hd]; exact fits_dual (fits_dual hv.fits))
  have HV := Lib.hid hv
  have HGZ := Lib.hid hg
  have HDZ := Lib.hid (show P.OfSize d n by have := t1.right.ofSize; rw [t1.ol] at this; exact this)
  have HBZ := Lib.hid (show P.OfSize b n by have := t2.right.ofSize; rw [t2.ol] at this; exact this)
  have T1 := Lib.hid t1
  have T2 := Lib.hid t2
  have HDB := Lib.hid hdb
  have hn0 := hg.pos
  have hn2 := hg.many
  obtain ⟨ga, gao, gak, gb, gbo, gbk, gc, gco, gck, rfl, hga, hgb, hgc⟩ := hv.open_ hg.ol hg.pl hg.ml hg.pos
  have GA := Lib.hid hga
  have GB := Lib.hid hgb
  have GC := Lib.hid hgc
  clear hga hgb hgc hlo hv hg t1 t2 hdb
  have T := Lib.hid hT
  have W := Lib.hid (Below.refl w.heap.size w)
  have HOK := Lib.hid ((P.G.ok_iff g).2 hok)
  have HD := Lib.hid hd
  clear hT hok hd
  go_enter Tryd.func7, Tryd.ntmps7
  go_wp2_with fail
  have bq : Box (w.alloc (.cells #[.slice (some ⟨ga, gao, none⟩) n gak, .slice (some ⟨gb, gbo, none⟩) n gbk, .slice (some ⟨gc, gco, none⟩) n gck] 25)) w.heap.size 25 #[.slice (some ⟨ga, gao, none⟩) n gak, .slice (some ⟨gb, gbo, none⟩) n gbk, .slice (some ⟨gc, gco, none⟩) n gck] := Box.new _ _ _
  have hgq := World.grownBy_alloc w (.cells #[.slice (some ⟨ga, gao, none⟩) n gak, .slice (some ⟨gb, gbo, none⟩) n gbk, .slice (some ⟨gc, gco, none⟩) n gck] 25) none
  have T := Lib.hid (T.out.on (below_of_grown hgq))
  have W := Lib.hid (W.out.trans ((below_of_grown hgq).mono W.out.size))
  generalize (w.alloc (.cells #[.slice (some ⟨ga, gao, none⟩) n gak, .slice (some ⟨gb, gbo, none⟩) n gbk, .slice (some ⟨gc, gco, none⟩) n gck] 25)) = w1 at bq T W ⊢
  generalize w.heap.size = qg at bq ⊢
  have BQg := Lib.hid bq
  clear bq hgq
  refine (shown_any _ T.out).mono ?_
  rintro e w2 ⟨rfl, hb⟩
  have BQg := Lib.hid (BQg.out.keep (grown_of_below hb none))
  have W := Lib.hid (W.out.trans (hb.mono W.out.size))
  clear hb T
  have bb := BQg.out
  have pc0 : w2.cell? ⟨qg, 0, none⟩ = some (.slice (some ⟨ga, gao, none⟩) n gak) := bb.cell 0 _ rfl
  have pc1 : w2.cell? ⟨qg, 1, none⟩ = some (.slice (some ⟨gb, gbo, none⟩) n gbk) := bb.cell 1 _ rfl
  have pc2 : w2.cell? ⟨qg, 2, none⟩ = some (.slice (some ⟨gc, gco, none⟩) n gck) := bb.cell 2 _ rfl
  clear bb
  go_wp2_with fail
  refine (isright_any g _ _ (HV.out.on W.out)).mono ?_
  rintro e w3 ⟨rfl, hb⟩
  have BQg := Lib.hid (BQg.out.keep (grown_of_below hb none))
  have W := Lib.hid (W.out.trans (hb.mono W.out.size))
  rw [HOK.out]
  clear hb pc0 pc1 pc2
  have bb := BQg.out
  have pc0 : w3.cell? ⟨qg, 0, none⟩ = some (.slice (some ⟨ga, gao, none⟩) n gak) := bb.cell 0 _ rfl
  have pc1 : w3.cell? ⟨qg, 1, none⟩ = some (.slice (some ⟨gb, gbo, none⟩) n gbk) := bb.cell 1 _ rfl
  have pc2 : w3.cell? ⟨qg, 2, none⟩ = some (.slice (some ⟨gc, gco, none⟩) n gck) := bb.cell 2 _ rfl
  clear bb
  go_wp2_with fail
  refine (dual_any g _ _ (HV.out.on W.out)).mono ?_
  rintro e w4 ⟨dav, dbv, dcv, dL, rfl, ho, hb⟩
  rw [HD.out] at ho
  have hgd := ho.game hfd.out
  obtain ⟨da, dao, dak, db, dbo, dbk, dc, dco, dck, hdv, hda, hdb, hdc⟩ := hgd.open_ T1.out.ol T1.out.pl T1.out.ml hn0
  have DA := Lib.hid hda
  have DB := Lib.hid hdb
  have DC := Lib.hid hdc
  have hdv' : #[dav, dbv, dcv] = #[.slice (some ⟨da, dao, none⟩) n dak, .slice (some ⟨db, dbo, none⟩) n dbk, .slice (some ⟨dc, dco, none⟩) n dck] := Value.agg.inj hdv
  simp only [Array.mk.injEq, List.cons.injEq, and_true] at hdv'
  obtain ⟨rfl, rfl, rfl⟩ := hdv'
  have BQg := Lib.hid (BQg.out.keep (grown_of_below hb none))
  have W := Lib.hid (W.out.trans (hb.mono W.out.size))
  have W4 := Lib.hid (Below.refl w4.heap.size w4)
  have GD := Lib.hid hgd
  clear hb ho hgd pc0 pc1 pc2 hda hdb hdc hdv
  go_upto_region 4 with (fail)
  have bq : Box (w4.alloc (.cells #[.slice (some ⟨da, dao, none⟩) n dak, .slice (some ⟨db, dbo, none⟩) n dbk, .slice (some ⟨dc, dco, none⟩) n dck] 25)) w4.heap.size 25 #[.slice (some ⟨da, dao, none⟩) n dak, .slice (some ⟨db, dbo, none⟩) n dbk, .slice (some ⟨dc, dco, none⟩) n dck] := Box.new _ _ _
  have hgq := World.grownBy_alloc w4 (.cells #[.slice (some ⟨da, dao, none⟩) n dak, .slice (some ⟨db, dbo, none⟩) n dbk, .slice (some ⟨dc, dco, none⟩) n dck] 25) none
  have BQg := Lib.hid (BQg.out.keep hgq)
  have W := Lib.hid (W.out.trans ((below_of_grown hgq).mono W.out.size))
  have W4 := Lib.hid (W4.out.trans ((below_of_grown hgq).mono W4.out.size))
  generalize (w4.alloc (.cells #[.slice (some ⟨da, dao, none⟩) n dak, .slice (some ⟨db, dbo, none⟩) n dbk, .slice (some ⟨dc, dco, none⟩) n dck] 25)) = w5 at bq BQg W W4 ⊢
  generalize w4.heap.size = qd at bq ⊢
  have BQd := Lib.hid bq
  clear bq hgq
  have bb := BQg.out
  have pc0 : w5.cell? ⟨qg, 0, none⟩ = some (.slice (some ⟨ga, gao, none⟩) n gak) := bb.cell 0 _ rfl
  have pc1 : w5.cell? ⟨qg, 1, none⟩ = some (.slice (some ⟨gb, gbo, none⟩) n gbk) := bb.cell 1 _ rfl
  have pc2 : w5.cell? ⟨qg, 2, none⟩ = some (.slice (some ⟨gc, gco, none⟩) n gck) := bb.cell 2 _ rfl
  clear bb
  obtain ⟨s0, hs0⟩ : ∃ s, P.places 0 g.prio g.prio.length = s := ⟨_, rfl⟩
  have z0 := fun w => set_neq s0 0#256 w
  rw [wrd_none 0 (by decide), wrd_none 1 (by decide), wrd_none 2 (by decide), wrd_none 3 (by decide)] at z0
  have HS0 := Lib.hid hs0
  clear hs0
  go_wp2_with fail
  refine (at_any g _ 0 _ (HV.out.on W.out)).mono ?_
  rintro e w6 ⟨rfl, hb⟩
  rw [HS0.out]
  have BQg := Lib.hid (BQg.out.keep (grown_of_below hb none))
  have W := Lib.hid (W.out.trans (hb.mono W.out.size))
  have W4 := Lib.hid (W4.out.trans (hb.mono W4.out.size))
  have BQd := Lib.hid (BQd.out.keep (grown_of_below hb none))
  clear hb pc0 pc1 pc2
  go_upto_region 5 with (fail)
  clear z0
  have bb := BQg.out
  have pc0 : w6.cell? ⟨qg, 0, none⟩ = some (.slice (some ⟨ga, gao, none⟩) n gak) := bb.cell 0 _ rfl
  have pc1 : w6.cell? ⟨qg, 1, none⟩ = some (.slice (some ⟨gb, gbo, none⟩) n gbk) := bb.cell 1 _ rfl
  have pc2 : w6.cell? ⟨qg, 2, none⟩ = some (.slice (some ⟨gc, gco, none⟩) n gck) := bb.cell 2 _ rfl
  clear bb
  obtain ⟨s7, hs7⟩ : ∃ s, P.places 7 g.prio g.prio.length = s := ⟨_, rfl⟩
  have z7 := fun w => set_neq s7 0#256 w
  rw [wrd_none 0 (by decide), wrd_none 1 (by decide), wrd_none 2 (by decide), wrd_none 3 (by decide)] at z7
  have HS7 := Lib.hid hs7
  clear hs7
  go_wp2_with fail
  refine (at_any g _ 7 _ (HV.out.on W.out)).mono ?_
  rintro e w7 ⟨rfl, hb⟩
  rw [HS7.out]
  have BQg := Lib.hid (BQg.out.keep (grown_of_below hb none))
  have W := Lib.hid (W.out.trans (hb.mono W.out.size))
  have W4 := Lib.hid (W4.out.trans (hb.mono W4.out.size))
  have BQd := Lib.hid (BQd.out.keep (grown_of_below hb none))
  clear hb pc0 pc1 pc2
  go_upto_region 6 with (fail)
  clear z7
  have el := EL.out
  rw [HS0.out, HS7.out] at el
  generalize (!decide (s0 = 0#256)) = lo at el ⊢
  generalize (!decide (s7 = 0#256)) = hi at el ⊢
  go_cut [40] from 29 to 40 (fun t wx => t = .bool false ∧ wx = w7)
  case first =>
    cases lo <;> cases hi <;> first
      | exact absurd el (by decide)
      | (go_wp2_with fail; go_meet; exact ⟨rfl, rfl⟩)
  case rest =>
    obtain ⟨rfl, rfl⟩ := hcut
    have bb := BQg.out
    have pc0 : wc.cell? ⟨qg, 0, none⟩ = some (.slice (some ⟨ga, gao, none⟩) n gak) := bb.cell 0 _ rfl
    have pc1 : wc.cell? ⟨qg, 1, none⟩ = some (.slice (some ⟨gb, gbo, none⟩) n gbk) := bb.cell 1 _ rfl
    have pc2 : wc.cell? ⟨qg, 2, none⟩ = some (.slice (some ⟨gc, gco, none⟩) n gck) := bb.cell 2 _ rfl
    clear bb
    have bb := BQd.out
    have qc0 : wc.cell? ⟨qd, 0, none⟩ = some (.slice (some ⟨da, dao, none⟩) n dak) := bb.cell 0 _ rfl
    have qc1 : wc.cell? ⟨qd, 1, none⟩ = some (.slice (some ⟨db, dbo, none⟩) n dbk) := bb.cell 1 _ rfl
    have qc2 : wc.cell? ⟨qd, 2, none⟩ = some (.slice (some ⟨dc, dco, none⟩) n dck) := bb.cell 2 _ rfl
    clear bb
    have rz := Lib.hid (right_zero T1.out.right)
    go_wp2_with fail
    refine (right_any d _ _ (GD.out.on W4.out)).mono ?_
    rintro e w8 ⟨rfl, hb⟩
    rw [rz.out]
    have BQg := Lib.hid (BQg.out.keep (grown_of_below hb none))
    have W := Lib.hid (W.out.trans (hb.mono W.out.size))
    have W4 := Lib.hid (W4.out.trans (hb.mono W4.out.size))
    have BQd := Lib.hid (BQd.out.keep (grown_of_below hb none))
    clear hb pc0 pc1 pc2 qc0 qc1 qc2 el
    have bb := BQg.out
    have pc0 : w8.cell? ⟨qg, 0, none⟩ = some (.slice (some ⟨ga, gao, none⟩) n gak) := bb.cell 0 _ rfl
    have pc1 : w8.cell? ⟨qg, 1, none⟩ = some (.slice (some ⟨gb, gbo, none⟩) n gbk) := bb.cell 1 _ rfl
    have pc2 : w8.cell? ⟨qg, 2, none⟩ = some (.slice (some ⟨gc, gco, none⟩) n gck) := bb.cell 2 _ rfl
    clear bb
    have bb := BQd.out
    have qc0 : w8.cell? ⟨qd, 0, none⟩ = some (.slice (some ⟨da, dao, none⟩) n dak) := bb.cell 0 _ rfl
    have qc1 : w8.cell? ⟨qd, 1, none⟩ = some (.slice (some ⟨db, dbo, none⟩) n dbk) := bb.cell 1 _ rfl
    have qc2 : w8.cell? ⟨qd, 2, none⟩ = some (.slice (some ⟨dc, dco, none⟩) n dck) := bb.cell 2 _ rfl
    clear bb
    have IV := Lib.hid (InvD.mk BQg.out BQd.out W.out W4.out)
    go_wp2_with fail
    clear pc0 pc1 pc2 qc0 qc1 qc2
    go_loopw [11] (fun i wr => ∃ k : Nat, k ≤ n ∧ i = .int .i64 k ∧ InvD w w4 qg qd #[.slice (some ⟨ga, gao, none⟩) n gak, .slice (some ⟨gb, gbo, none⟩) n gbk, .slice (some ⟨gc, gco, none⟩) n gck] #[.slice (some ⟨da, dao, none⟩) n dak, .slice (some ⟨db, dbo, none⟩) n dbk, .slice (some ⟨dc, dco, none⟩) n dck] wr) (fun i _ => n - (intOf i).toNat)
    case atStart => exact ⟨0, Nat.zero_le _, rfl, IV.out⟩
    case round =>
      obtain ⟨k, hk, rfl, hI⟩ := hrel
      have IV := Lib.hid hI
      have hk0 : (0 : Int) ≤ (k : Int) := Int.natCast_nonneg _
      clear hI
      by_cases hlt : k < n
      · have fk : decide ((k : Int) < (n : Int)) = true := decide_eq_true (by omega)
        have il : (k : Int) < (n : Int) := by omega
        obtain ⟨xm, cxm, hxm⟩ := DC.out wr IV.out.f4 k hlt
        obtain ⟨ym, cym, hym⟩ := GC.out wr IV.out.fw k hlt
        rw [T1.out.mo k] at hxm
        have k0 : ∀ (d : Nat) (os : Array Obj), (grow (redrawn wr d) os).cell? ⟨qg, 0, none⟩ = some (.slice (some ⟨ga, gao, none⟩) n gak) := fun d os => ((Lib.hid IV.out.fg).out.keep (grown_of_below (below_regrown wr d os) none)).cell 0 _ rfl
        have k1 : ∀ (d : Nat) (os : Array Obj), (grow (redrawn wr d) os).cell? ⟨qg, 1, none⟩ = some (.slice (some ⟨gb, gbo, none⟩) n gbk) := fun d os => ((Lib.hid IV.out.fg).out.keep (grown_of_below (below_regrown wr d os) none)).cell 1 _ rfl
        have k2 : ∀ (d : Nat) (os : Array Obj), (grow (redrawn wr d) os).cell? ⟨qg, 2, none⟩ = some (.slice (some ⟨gc, gco, none⟩) n gck) := fun d os => ((Lib.hid IV.out.fg).out.keep (grown_of_below (below_regrown wr d os) none)).cell 2 _ rfl
        have l0 : ∀ (d : Nat) (os : Array Obj), (grow (redrawn wr d) os).cell? ⟨qd, 0, none⟩ = some (.slice (some ⟨da, dao, none⟩) n dak) := fun d os => ((Lib.hid IV.out.fd).out.keep (grown_of_below (below_regrown wr d os) none)).cell 0 _ rfl
        have l1 : ∀ (d : Nat) (os : Array Obj), (grow (redrawn wr d) os).cell? ⟨qd, 1, none⟩ = some (.slice (some ⟨db, dbo, none⟩) n dbk) := fun d os => ((Lib.hid IV.out.fd).out.keep (grown_of_below (below_regrown wr d os) none)).cell 1 _ rfl
        have l2 : ∀ (d : Nat) (os : Array Obj), (grow (redrawn wr d) os).cell? ⟨qd, 2, none⟩ = some (.slice (some ⟨dc, dco, none⟩) n dck) := fun d os => ((Lib.hid IV.out.fd).out.keep (grown_of_below (below_regrown wr d os) none)).cell 2 _ rfl
        have m0 := fun d os => cell_regrown cxm d os
        have m1 := fun d os => cell_regrown cym d os
        have kC : ∀ d os, Calls Tryd.prog 24 #[xm, ym] (grow (redrawn wr d) os) fun e w'' => e = .returned (.bool true) ∧ ∃ p : Regrown, w'' = grow (redrawn wr p.d) p.os := fun d os => by
          have := Calls.regrown_of (sameints_any xm ym _ _ _ (hxm.on (below_regrown wr d os)) (hym.on (below_regrown wr d os)))
          rw [decide_eq_true rfl] at this
          exact this
        clear hxm hym cxm cym
        go_wp2_with fail
        refine wp_region_quiet_below (by kernel_rfl) (by kernel_rfl) ?_
        repeat (first | go_big_quiet_step (first | (go_at_call 24; exact kC _ _)) | quiet_step (first | (go_at_call 24; exact kC _ _)))
        refine wpQuiet_nil ?_
        intro _ hw'
        obtain ⟨⟨dq, osq⟩, hw''⟩ := hw'
        subst hw''
        clear k0 k1 k2 l0 l1 l2 m0 m1 kC
        have IV := Lib.hid (IV.out.on (below_regrown wr dq osq))
        generalize (grow (redrawn wr dq) osq) = wo at IV ⊢
        obtain ⟨yo, hyo⟩ : ∃ z, g.owner.getD k 0 = z := ⟨_, rfl⟩
        obtain ⟨xo, hxo⟩ : ∃ z, d.owner.getD k 0 = z := ⟨_, rfl⟩
        obtain ⟨yp, hyp⟩ : ∃ z, g.prio.getD k 0 = z := ⟨_, rfl⟩
        obtain ⟨xp, hxp⟩ : ∃ z, d.prio.getD k 0 = z := ⟨_, rfl⟩
        have ca := DA.out wo IV.out.f4 k hlt
        have cb := DB.out wo IV.out.f4 k hlt
        have ea := GA.out wo IV.out.fw k hlt
        have eb := GB.out wo IV.out.fw k hlt
        rw [hxo] at ca
        rw [hxp] at cb
        rw [hyo] at ea
        rw [hyp] at eb
        have e1 := T1.out.ow k hlt
        have e2 := T1.out.pr k hlt
        have e3 := T1.out.y1
        have e4 := HGZ.out.pr k hlt
        have e5 := HGZ.out.ow k hlt
        rw [hxo, hyo] at e1
        rw [hxp, hyp] at e2
        rw [hyp] at e4
        rw [hyo] at e5
        have fo : (xo == yo) = false := by rw [beq_eq_false_iff_ne]; omega
        have e6 := HDZ.out.pr k hlt
        rw [hxp] at e6
        obtain ⟨fw, fm⟩ := odd_sum xp yp y e2 e3 e4 e6
        clear hyo hxo e1 e2 e3 e4 e5 e6 hyp hxp
        have bb := (Lib.hid IV.out.fg).out
        have pc0 : wo.cell? ⟨qg, 0, none⟩ = some (.slice (some ⟨ga, gao, none⟩) n gak) := bb.cell 0 _ rfl
        have pc1 : wo.cell? ⟨qg, 1, none⟩ = some (.slice (some ⟨gb, gbo, none⟩) n gbk) := bb.cell 1 _ rfl
        have pc2 : wo.cell? ⟨qg, 2, none⟩ = some (.slice (some ⟨gc, gco, none⟩) n gck) := bb.cell 2 _ rfl
        clear bb
        have bb := (Lib.hid IV.out.fd).out
        have qc0 : wo.cell? ⟨qd, 0, none⟩ = some (.slice (some ⟨da, dao, none⟩) n dak) := bb.cell 0 _ rfl
        have qc1 : wo.cell? ⟨qd, 1, none⟩ = some (.slice (some ⟨db, dbo, none⟩) n dbk) := bb.cell 1 _ rfl
        have qc2 : wo.cell? ⟨qd, 2, none⟩ = some (.slice (some ⟨dc, dco, none⟩) n dck) := bb.cell 2 _ rfl
        clear bb
        go_wp2_with fail
        go_quiet (fail)
        go_wp2_with fail
        clear ca cb ea eb fo fw fm pc0 pc1 pc2 qc0 qc1 qc2
        have hb := below_drewN (Below.refl wo.heap.size wo) nq
        have IV := Lib.hid (IV.out.on hb)
        clear hb
        generalize wo.drewN nq = wp at IV ⊢
        go_wp2_with fail
        go_loopw [13] (fun i wi => ∃ j : Nat, j ≤ k ∧ i = .int .i64 j ∧ InvD w w4 qg qd #[.slice (some ⟨ga, gao, none⟩) n gak, .slice (some ⟨gb, gbo, none⟩) n gbk, .slice (some ⟨gc, gco, none⟩) n gck] #[.slice (some ⟨da, dao, none⟩) n dak, .slice (some ⟨db, dbo, none⟩) n dbk, .slice (some ⟨dc, dco, none⟩) n dck] wi) (fun i _ => k - (intOf i).toNat)
        case atStart => exact ⟨0, Nat.zero_le _, rfl, IV.out⟩
        case round =>
          obtain ⟨j, hj, rfl, hI⟩ := hrel
          have IV := Lib.hid hI
          have hj0 : (0 : Int) ≤ (j : Int) := Int.natCast_nonneg _
          clear hI
          by_cases hjt : j < k
          · have fj : decide ((j : Int) < (k : Int)) = true := decide_eq_true (by omega)
            have jl : (j : Int) < (n : Int) := by omega
            obtain ⟨yk, hyk⟩ : ∃ z, g.prio.getD k 0 = z := ⟨_, rfl⟩
            obtain ⟨xk, hxk⟩ : ∃ z, d.prio.getD k 0 = z := ⟨_, rfl⟩
            obtain ⟨yj, hyj⟩ : ∃ z, g.prio.getD j 0 = z := ⟨_, rfl⟩
            obtain ⟨xj, hxj⟩ : ∃ z, d.prio.getD j 0 = z := ⟨_, rfl⟩
            have ca := DB.out wr IV.out.f4 k hlt
            have cb := DB.out wr IV.out.f4 j (by omega)
            have ea := GB.out wr IV.out.fw k hlt
            have eb := GB.out wr IV.out.fw j (by omega)
            have e1 := T1.out.pr k hlt
            have e2 := T1.out.pr j (by omega)
            rw [hxk] at ca e1
            rw [hxj] at cb e2
            rw [hyk] at ea e1
            rw [hyj] at eb e2
            obtain ⟨f1, f2⟩ := decide_pair xk xj yk yj y e1 e2
            obtain ⟨q1, h1⟩ : ∃ q, decide (yk < yj) = q := ⟨_, rfl⟩
            obtain ⟨q2, h2⟩ : ∃ q, (yk == yj) = q := ⟨_, rfl⟩
            rw [h1] at f1
            rw [h2] at f2
            have n1 : (q1 != q1) = false := by simp
            have n2 : (q2 != q2) = false := by simp
            clear hyk hxk hyj hxj e1 e2
            have bb := (Lib.hid IV.out.fg).out
            have pc0 : wr.cell? ⟨qg, 0, none⟩ = some (.slice (some ⟨ga, gao, none⟩) n gak) := bb.cell 0 _ rfl
            have pc1 : wr.cell? ⟨qg, 1, none⟩ = some (.slice (some ⟨gb, gbo, none⟩) n gbk) := bb.cell 1 _ rfl
            have pc2 : wr.cell? ⟨qg, 2, none⟩ = some (.slice (some ⟨gc, gco, none⟩) n gck) := bb.cell 2 _ rfl
            clear bb
            have bb := (Lib.hid IV.out.fd).out
            have qc0 : wr.cell? ⟨qd, 0, none⟩ = some (.slice (some ⟨da, dao, none⟩) n dak) := bb.cell 0 _ rfl
            have qc1 : wr.cell? ⟨qd, 1, none⟩ = some (.slice (some ⟨db, dbo, none⟩) n dbk) := bb.cell 1 _ rfl
            have qc2 : wr.cell? ⟨qd, 2, none⟩ = some (.slice (some ⟨dc, dco, none⟩) n dck) := bb.cell 2 _ rfl
            clear bb
            go_wp2_with fail
            go_quiet (fail)
            go_wp2_with fail
            go_roundw
            case rel => exact ⟨j + 1, by omega, by go_num, IV.out.on (below_drewN (Below.refl wr.heap.size wr) _)⟩
            case measure => simp [intOf]; omega
          · have fj : decide ((j : Int) < (k : Int)) = false := decide_eq_false (by omega)
            go_wp2_with fail
            go_roundw
            case rel => exact ⟨k + 1, by omega, by go_num, IV.out⟩
            case measure => simp [intOf]; omega
      · obtain rfl : k = n := by omega
        have fk : decide ((k : Int) < (k : Int)) = false := decide_eq_false (Int.lt_irrefl _)
        have bb := (Lib.hid IV.out.fg).out
        have pc0 : wr.cell? ⟨qg, 0, none⟩ = some (.slice (some ⟨ga, gao, none⟩) k gak) := bb.cell 0 _ rfl
        have pc1 : wr.cell? ⟨qg, 1, none⟩ = some (.slice (some ⟨gb, gbo, none⟩) k gbk) := bb.cell 1 _ rfl
        have pc2 : wr.cell? ⟨qg, 2, none⟩ = some (.slice (some ⟨gc, gco, none⟩) k gck) := bb.cell 2 _ rfl
        clear bb
        have bb := (Lib.hid IV.out.fd).out
        have qc0 : wr.cell? ⟨qd, 0, none⟩ = some (.slice (some ⟨da, dao, none⟩) k dak) := bb.cell 0 _ rfl
        have qc1 : wr.cell? ⟨qd, 1, none⟩ = some (.slice (some ⟨db, dbo, none⟩) k dbk) := bb.cell 1 _ rfl
        have qc2 : wr.cell? ⟨qd, 2, none⟩ = some (.slice (some ⟨dc, dco, none⟩) k dck) := bb.cell 2 _ rfl
        clear bb
        go_wp2_with fail
        refine (dual_any d _ _ (GD.out.on IV.out.f4)).mono ?_
        rintro e wb ⟨eav, ebv, ecv, eL, rfl, ho, hb⟩
        rw [HDB.out] at ho
        have hgb := ho.game hfb.out
        obtain ⟨ea, eao, eak, eb, ebo, ebk, ec, eco, eck, hev, hea, heb, -⟩ := hgb.open_ T2.out.ol T2.out.pl T2.out.ml hn0
        have EA := Lib.hid hea
        have EB := Lib.hid heb
        have hev' : #[eav, ebv, ecv] = #[.slice (some ⟨ea, eao, none⟩) k eak, .slice (some ⟨eb, ebo, none⟩) k ebk, .slice (some ⟨ec, eco, none⟩) k eck] := Value.agg.inj hev
        simp only [Array.mk.injEq, List.cons.injEq, and_true] at hev'
        obtain ⟨rfl, rfl, rfl⟩ := hev'
        have IV := Lib.hid (IV.out.on hb)
        clear hb ho hgb pc0 pc1 pc2 qc0 qc1 qc2 hea heb hev
        go_upto_region 24 with (fail)
        have W5 := Lib.hid (Below.refl wb.heap.size wb)
        have bq : Box (wb.alloc (.cells #[.slice (some ⟨ea, eao, none⟩) k eak, .slice (some ⟨eb, ebo, none⟩) k ebk, .slice (some ⟨ec, eco, none⟩) k eck] 25)) wb.heap.size 25 #[.slice (some ⟨ea, eao, none⟩) k eak, .slice (some ⟨eb, ebo, none⟩) k ebk, .slice (some ⟨ec, eco, none⟩) k eck] := Box.new _ _ _
        have hgq := World.grownBy_alloc wb (.cells #[.slice (some ⟨ea, eao, none⟩) k eak, .slice (some ⟨eb, ebo, none⟩) k ebk, .slice (some ⟨ec, eco, none⟩) k eck] 25) none
        have IV := Lib.hid (IV.out.on (below_of_grown hgq))
        have W5 := Lib.hid (W5.out.trans ((below_of_grown hgq).mono W5.out.size))
        generalize (wb.alloc (.cells #[.slice (some ⟨ea, eao, none⟩) k eak, .slice (some ⟨eb, ebo, none⟩) k ebk, .slice (some ⟨ec, eco, none⟩) k eck] 25)) = wd at bq IV W5 ⊢
        generalize wb.heap.size = qb at bq ⊢
        have BQb := Lib.hid bq
        clear bq hgq
        have IV := Lib.hid (InvB.mk IV.out BQb.out W5.out)
        have bbx := IV.out.fb
        have rc0 : wd.cell? ⟨qb, 0, none⟩ = some (.slice (some ⟨ea, eao, none⟩) k eak) := bbx.cell 0 _ rfl
        have rc1 : wd.cell? ⟨qb, 1, none⟩ = some (.slice (some ⟨eb, ebo, none⟩) k ebk) := bbx.cell 1 _ rfl
        have rc2 : wd.cell? ⟨qb, 2, none⟩ = some (.slice (some ⟨ec, eco, none⟩) k eck) := bbx.cell 2 _ rfl
        clear bbx
        go_wp2_with fail
        clear rc0 rc1 rc2
        go_loopw [15] (fun i wi => ∃ j : Nat, j ≤ k ∧ i = .int .i64 j ∧ InvB w w4 wb qg qd qb #[.slice (some ⟨ga, gao, none⟩) k gak, .slice (some ⟨gb, gbo, none⟩) k gbk, .slice (some ⟨gc, gco, none⟩) k gck] #[.slice (some ⟨da, dao, none⟩) k dak, .slice (some ⟨db, dbo, none⟩) k dbk, .slice (some ⟨dc, dco, none⟩) k dck] #[.slice (some ⟨ea, eao, none⟩) k eak, .slice (some ⟨eb, ebo, none⟩) k ebk, .slice (some ⟨ec, eco, none⟩) k eck] wi) (fun i _ => k - (intOf i).toNat)
        case atStart => exact ⟨0, Nat.zero_le _, rfl, IV.out⟩
        case round =>
          obtain ⟨j, hj, rfl, hI⟩ := hrel
          have IV := Lib.hid hI
          have hj0 : (0 : Int) ≤ (j : Int) := Int.natCast_nonneg _
          clear hI
          have bb := (Lib.hid IV.out.fd.fg).out
          have pc0 : wr.cell? ⟨qg, 0, none⟩ = some (.slice (some ⟨ga, gao, none⟩) k gak) := bb.cell 0 _ rfl
          have pc1 : wr.cell? ⟨qg, 1, none⟩ = some (.slice (some ⟨gb, gbo, none⟩) k gbk) := bb.cell 1 _ rfl
          have pc2 : wr.cell? ⟨qg, 2, none⟩ = some (.slice (some ⟨gc, gco, none⟩) k gck) := bb.cell 2 _ rfl
          clear bb
          have bb := (Lib.hid IV.out.fb).out
          have rc0 : wr.cell? ⟨qb, 0, none⟩ = some (.slice (some ⟨ea, eao, none⟩) k eak) := bb.cell 0 _ rfl
          have rc1 : wr.cell? ⟨qb, 1, none⟩ = some (.slice (some ⟨eb, ebo, none⟩) k ebk) := bb.cell 1 _ rfl
          have rc2 : wr.cell? ⟨qb, 2, none⟩ = some (.slice (some ⟨ec, eco, none⟩) k eck) := bb.cell 2 _ rfl
          clear bb
          by_cases hjt : j < k
          · have fj : decide ((j : Int) < (k : Int)) = true := decide_eq_true (by omega)
            have jl : (j : Int) < (k : Int) := by omega
            obtain ⟨yo, hyo⟩ : ∃ z, g.owner.getD j 0 = z := ⟨_, rfl⟩
            obtain ⟨xo, hxo⟩ : ∃ z, b.owner.getD j 0 = z := ⟨_, rfl⟩
            obtain ⟨yp, hyp⟩ : ∃ z, g.prio.getD j 0 = z := ⟨_, rfl⟩
            obtain ⟨xp, hxp⟩ : ∃ z, b.prio.getD j 0 = z := ⟨_, rfl⟩
            have ca := EA.out wr IV.out.f5 j hjt
            have cb := EB.out wr IV.out.f5 j hjt
            have ca' := GA.out wr IV.out.fd.fw j hjt
            have cb' := GB.out wr IV.out.fd.fw j hjt
            have e1 := T1.out.ow j hjt
            have e2 := T1.out.pr j hjt
            have e3 := T2.out.ow j hjt
            have e4 := T2.out.pr j hjt
            rw [hxo] at ca e3
            rw [hxp] at cb e4
            rw [hyo] at ca' e1
            rw [hyp] at cb' e2
            have e5 := HGZ.out.pr j hjt
            have e6 := HBZ.out.pr j hjt
            rw [hyp] at e5
            rw [hxp] at e6
            have fo : (xo != yo) = false := by rw [bne_eq_false_iff_eq, e3, e1]; omega
            obtain ⟨fw, fm⟩ := even_sum xp yp y z (by rw [e4, e2]) T1.out.y1 T2.out.y1 e5 e6
            clear hyo hxo hyp hxp e1 e2 e3 e4 e5 e6
            go_wp2_with fail
            go_quiet (fail)
            go_wp2_with fail
            go_roundw
            case rel => exact ⟨j + 1, by omega, by go_num, IV.out.on (below_drewN (Below.refl wr.heap.size wr) _)⟩
            case measure => simp [intOf]; omega
          · have fj : decide ((j : Int) < (k : Int)) = false := decide_eq_false (by omega)
            have fz : ((k : Int) == 0) = false := by rw [beq_eq_false_iff_ne]; omega
            go_wp2_with fail
            exact bodyPost_ret (v := .bool true) (by simp [results, Tryd.results7, go_sem]) rfl ⟨rfl, IV.out.fd.fw⟩
theorem duals_any (g : P.G) (v : Value) (w : World) (hv : GameV w v g) (hT : Tab w) : Calls Tryd.prog 7 #[v] w fun e w' => e = .returned (.bool true) ∧ Below w.heap.size w w' := by
  by_cases hok : g.ok = true
  · have hr := (P.G.ok_iff g).1 hok
    by_cases hb : (0 : Int) ∈ g.prio ∧ (7 : Int) ∈ g.prio
    · exact duals_both g v w hv hT hr hb.1 hb.2 (P.G.dual_both hr hb.1 hb.2)
    · have t1 := P.turn_is hr hb
      have t2 := P.turn_is t1.right (P.G.turned_not hr hb)
      rw [t1.ol] at t2
      exact duals_fine g _ _ _ _ _ v w hv hT hr hb (P.G.dual_way hr hb) (P.G.dual_dual hr hb) hr.ofSize t1 t2
  · have hk : g.ok = false := by simpa using hok
    exact duals_bad g v w hv hT hk (P.G.dual_none hk)
end W
end Go.Proofs.YtlbikfimfaecnaaDoor
