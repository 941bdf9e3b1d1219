/- AttractDual: the walk. -/
import Derived.Test.YtpfponiidppldaaDoorShown
import Derived.Test.YtpfponiidppldaaDoorDual
import Derived.Test.YtpfponiidppldaaDoorDualsP
import Derived.Test.YtpfponiidppldaaDoorPartF
import Derived.Deep.Cut
namespace Go.Proofs.YtpfponiidppldaaDoor
open Go.RowKit
namespace W

set_option maxRecDepth 100000 in
set_option maxHeartbeats 1000000 in
theorem duals_none (g : P.G) (I To : BitVec 256) (p : Int) (v : Value) (w : World) (hv : GameV w v g) (hT : Tab w) (hd : g.dual.owner.length = 0) : Calls Tryd.prog 6 #[v, .agg #[.int .u64 (P.wrd I 0), .int .u64 (P.wrd I 1), .int .u64 (P.wrd I 2), .int .u64 (P.wrd I 3)], .int .i64 p, .agg #[.int .u64 (P.wrd To 0), .int .u64 (P.wrd To 1), .int .u64 (P.wrd To 2), .int .u64 (P.wrd To 3)]] w fun e w' => e = .returned (.bool true) ∧ Below w.heap.size w w' := by
  have HFD := Lib.hid (fits_dual' hv.fits)
  have HV := Lib.hid hv
  obtain ⟨a, b, c, rfl, -⟩ := hv
  obtain ⟨dn, hdn⟩ : ∃ dn, g.dual.owner.length = dn := ⟨_, rfl⟩
  have fd : (((dn : Nat) : Int) == 0) = true := by rw [beq_iff_eq]; omega
  clear hd
  have HDN := Lib.hid hdn
  clear hdn
  have T := Lib.hid hT
  clear hT
  go_enter Tryd.func6, Tryd.ntmps6
  go_wp2_with fail
  have bx0 : Box (((w.alloc (.cells #[a, b, c] 25)).alloc (.cells #[.int .u64 (P.wrd I 0), .int .u64 (P.wrd I 1), .int .u64 (P.wrd I 2), .int .u64 (P.wrd I 3)] 28)).alloc (.cells #[.int .u64 (P.wrd To 0), .int .u64 (P.wrd To 1), .int .u64 (P.wrd To 2), .int .u64 (P.wrd To 3)] 28)) (w.heap.size) 25 #[a, b, c] := Box.alloc (Box.alloc (Box.new w 25 #[a, b, c]) (.cells #[.int .u64 (P.wrd I 0), .int .u64 (P.wrd I 1), .int .u64 (P.wrd I 2), .int .u64 (P.wrd I 3)] 28)) (.cells #[.int .u64 (P.wrd To 0), .int .u64 (P.wrd To 1), .int .u64 (P.wrd To 2), .int .u64 (P.wrd To 3)] 28)
  have bx1 : Box (((w.alloc (.cells #[a, b, c] 25)).alloc (.cells #[.int .u64 (P.wrd I 0), .int .u64 (P.wrd I 1), .int .u64 (P.wrd I 2), .int .u64 (P.wrd I 3)] 28)).alloc (.cells #[.int .u64 (P.wrd To 0), .int .u64 (P.wrd To 1), .int .u64 (P.wrd To 2), .int .u64 (P.wrd To 3)] 28)) (w.heap.size + 1) 28 #[.int .u64 (P.wrd I 0), .int .u64 (P.wrd I 1), .int .u64 (P.wrd I 2), .int .u64 (P.wrd I 3)] := by
    have := Box.alloc (Box.new (w.alloc (.cells #[a, b, c] 25)) 28 #[.int .u64 (P.wrd I 0), .int .u64 (P.wrd I 1), .int .u64 (P.wrd I 2), .int .u64 (P.wrd I 3)]) (.cells #[.int .u64 (P.wrd To 0), .int .u64 (P.wrd To 1), .int .u64 (P.wrd To 2), .int .u64 (P.wrd To 3)] 28)
    simpa using this
  have bx2 : Box (((w.alloc (.cells #[a, b, c] 25)).alloc (.cells #[.int .u64 (P.wrd I 0), .int .u64 (P.wrd I 1), .int .u64 (P.wrd I 2), .int .u64 (P.wrd I 3)] 28)).alloc (.cells #[.int .u64 (P.wrd To 0), .int .u64 (P.wrd To 1), .int .u64 (P.wrd To 2), .int .u64 (P.wrd To 3)] 28)) (w.heap.size + 1 + 1) 28 #[.int .u64 (P.wrd To 0), .int .u64 (P.wrd To 1), .int .u64 (P.wrd To 2), .int .u64 (P.wrd To 3)] := by
    have := Box.new ((w.alloc (.cells #[a, b, c] 25)).alloc (.cells #[.int .u64 (P.wrd I 0), .int .u64 (P.wrd I 1), .int .u64 (P.wrd I 2), .int .u64 (P.wrd I 3)] 28)) 28 #[.int .u64 (P.wrd To 0), .int .u64 (P.wrd To 1), .int .u64 (P.wrd To 2), .int .u64 (P.wrd To 3)]
    simpa using this
  have hbq : Below w.heap.size w (((w.alloc (.cells #[a, b, c] 25)).alloc (.cells #[.int .u64 (P.wrd I 0), .int .u64 (P.wrd I 1), .int .u64 (P.wrd I 2), .int .u64 (P.wrd I 3)] 28)).alloc (.cells #[.int .u64 (P.wrd To 0), .int .u64 (P.wrd To 1), .int .u64 (P.wrd To 2), .int .u64 (P.wrd To 3)] 28)) := (((Below.refl _ w).alloc (Nat.le_refl _) _).alloc (by simp) _).alloc (by simp; omega) _
  have lt0 : w.heap.size < w.heap.size + 1 := Nat.lt_succ_self _
  have lt1 : w.heap.size + 1 < w.heap.size + 1 + 1 := Nat.lt_succ_self _
  have hle0 : w.heap.size ≤ w.heap.size := Nat.le_refl _
  generalize (((w.alloc (.cells #[a, b, c] 25)).alloc (.cells #[.int .u64 (P.wrd I 0), .int .u64 (P.wrd I 1), .int .u64 (P.wrd I 2), .int .u64 (P.wrd I 3)] 28)).alloc (.cells #[.int .u64 (P.wrd To 0), .int .u64 (P.wrd To 1), .int .u64 (P.wrd To 2), .int .u64 (P.wrd To 3)] 28)) = w0 at bx0 bx1 bx2 hbq  ⊢
  have BQg := Lib.hid bx0
  have BQi := Lib.hid bx1
  have BQt := Lib.hid bx2
  have W := Lib.hid hbq
  have LTgi := Lib.hid lt0
  have LTit := Lib.hid lt1
  have LEg := Lib.hid hle0
  clear hbq hle0 bx0 bx1 bx2 lt0 lt1
  generalize w.heap.size + 1 + 1 = qt at BQt LTit ⊢
  generalize w.heap.size + 1 = qi at BQi LTit LTgi ⊢
  obtain ⟨qg, hqg⟩ : ∃ qg, w.heap.size = qg := ⟨_, rfl⟩
  rw [hqg] at BQg LTgi ⊢
  have LEg : Hid (w.heap.size ≤ qg) := Lib.hid (by omega)
  clear hqg
  refine (shown_any _ (T.out.on W.out)).mono ?_
  rintro e w1 ⟨rfl, hb⟩
  replace BQg := Lib.hid (BQg.out.keep (grown_of_below hb none))
  replace BQi := Lib.hid (BQi.out.keep (grown_of_below hb none))
  replace BQt := Lib.hid (BQt.out.keep (grown_of_below hb none))
  replace W := Lib.hid (W.out.trans (hb.mono W.out.size))
  clear hb
  have hbb := BQg.out
  have gc0 : w1.cell? ⟨qg, 0, none⟩ = some a := hbb.cell 0 _ rfl
  have gc1 : w1.cell? ⟨qg, 1, none⟩ = some b := hbb.cell 1 _ rfl
  have gc2 : w1.cell? ⟨qg, 2, none⟩ = some c := hbb.cell 2 _ rfl
  clear hbb
  go_wp2_with fail
  refine (dual_any g _ _ (HV.out.on W.out)).mono ?_
  rintro e w2 ⟨dav, dbv, dcv, dL, rfl, ho, hb⟩
  have hgd := ho.game HFD.out
  obtain ⟨da, dka, db, dkb, dc, dkc, rfl, rfl, rfl⟩ := ho.forms
  rw [HDN.out] at hgd ⊢
  replace BQg := Lib.hid (BQg.out.keep (grown_of_below hb none))
  replace BQi := Lib.hid (BQi.out.keep (grown_of_below hb none))
  replace BQt := Lib.hid (BQt.out.keep (grown_of_below hb none))
  replace W := Lib.hid (W.out.trans (hb.mono W.out.size))
  have GD := Lib.hid hgd
  clear hb ho hgd gc0 gc1 gc2
  go_upto_region 3 with (fail)
  have bq : Box (w2.alloc (.cells #[.slice da dn dka, .slice db g.dual.prio.length dkb, .slice dc g.dual.moves.length dkc] 25)) w2.heap.size 25 #[.slice da dn dka, .slice db g.dual.prio.length dkb, .slice dc g.dual.moves.length dkc] := Box.new _ _ _
  have hgq := World.grownBy_alloc w2 (.cells #[.slice da dn dka, .slice db g.dual.prio.length dkb, .slice dc g.dual.moves.length dkc] 25) none
  replace BQg := Lib.hid (BQg.out.keep hgq)
  replace BQi := Lib.hid (BQi.out.keep hgq)
  replace BQt := Lib.hid (BQt.out.keep hgq)
  replace W := Lib.hid (W.out.trans ((below_of_grown hgq).mono W.out.size))
  replace GD := Lib.hid (GD.out.on (below_of_grown hgq))
  generalize (w2.alloc (.cells #[.slice da dn dka, .slice db g.dual.prio.length dkb, .slice dc g.dual.moves.length dkc] 25)) = w3 at bq BQg BQi BQt W GD ⊢
  generalize w2.heap.size = qd at bq ⊢
  have BQd := Lib.hid bq
  clear bq hgq
  have hbb := BQd.out
  have dc0 : w3.cell? ⟨qd, 0, none⟩ = some (.slice da dn dka) := hbb.cell 0 _ rfl
  have dc1 : w3.cell? ⟨qd, 1, none⟩ = some (.slice db g.dual.prio.length dkb) := hbb.cell 1 _ rfl
  have dc2 : w3.cell? ⟨qd, 2, none⟩ = some (.slice dc g.dual.moves.length dkc) := hbb.cell 2 _ rfl
  clear hbb
  go_wp2_with fail
  exact bodyPost_ret (v := .bool true) (by simp [results, Tryd.results6, go_sem]) rfl ⟨rfl, W.out⟩

set_option maxRecDepth 100000 in
set_option maxHeartbeats 1000000 in
theorem duals_away (g : P.G) (I To : BitVec 256) (p : Int) (v : Value) (w : World) (hv : GameV w v g) (hT : Tab w) (hd : g.dual.owner.length ≠ 0) (h0 : p ≠ 0) (h1 : p ≠ 1) : Calls Tryd.prog 6 #[v, .agg #[.int .u64 (P.wrd I 0), .int .u64 (P.wrd I 1), .int .u64 (P.wrd I 2), .int .u64 (P.wrd I 3)], .int .i64 p, .agg #[.int .u64 (P.wrd To 0), .int .u64 (P.wrd To 1), .int .u64 (P.wrd To 2), .int .u64 (P.wrd To 3)]] w fun e w' => e = .returned (.bool true) ∧ Below w.heap.size w w' := by
  have HFD := Lib.hid (fits_dual' hv.fits)
  have HV := Lib.hid hv
  obtain ⟨a, b, c, rfl, -⟩ := hv
  obtain ⟨dn, hdn⟩ : ∃ dn, g.dual.owner.length = dn := ⟨_, rfl⟩
  have fd : (((dn : Nat) : Int) == 0) = false := by rw [beq_eq_false_iff_ne]; omega
  have f0 : (p != 0) = true := bne_iff_ne.2 h0
  have f1 : (p != 1) = true := bne_iff_ne.2 h1
  clear hd h0 h1
  have HDN := Lib.hid hdn
  clear hdn
  have T := Lib.hid hT
  clear hT
  go_enter Tryd.func6, Tryd.ntmps6
  go_wp2_with fail
  have bx0 : Box (((w.alloc (.cells #[a, b, c] 25)).alloc (.cells #[.int .u64 (P.wrd I 0), .int .u64 (P.wrd I 1), .int .u64 (P.wrd I 2), .int .u64 (P.wrd I 3)] 28)).alloc (.cells #[.int .u64 (P.wrd To 0), .int .u64 (P.wrd To 1), .int .u64 (P.wrd To 2), .int .u64 (P.wrd To 3)] 28)) (w.heap.size) 25 #[a, b, c] := Box.alloc (Box.alloc (Box.new w 25 #[a, b, c]) (.cells #[.int .u64 (P.wrd I 0), .int .u64 (P.wrd I 1), .int .u64 (P.wrd I 2), .int .u64 (P.wrd I 3)] 28)) (.cells #[.int .u64 (P.wrd To 0), .int .u64 (P.wrd To 1), .int .u64 (P.wrd To 2), .int .u64 (P.wrd To 3)] 28)
  have bx1 : Box (((w.alloc (.cells #[a, b, c] 25)).alloc (.cells #[.int .u64 (P.wrd I 0), .int .u64 (P.wrd I 1), .int .u64 (P.wrd I 2), .int .u64 (P.wrd I 3)] 28)).alloc (.cells #[.int .u64 (P.wrd To 0), .int .u64 (P.wrd To 1), .int .u64 (P.wrd To 2), .int .u64 (P.wrd To 3)] 28)) (w.heap.size + 1) 28 #[.int .u64 (P.wrd I 0), .int .u64 (P.wrd I 1), .int .u64 (P.wrd I 2), .int .u64 (P.wrd I 3)] := by
    have := Box.alloc (Box.new (w.alloc (.cells #[a, b, c] 25)) 28 #[.int .u64 (P.wrd I 0), .int .u64 (P.wrd I 1), .int .u64 (P.wrd I 2), .int .u64 (P.wrd I 3)]) (.cells #[.int .u64 (P.wrd To 0), .int .u64 (P.wrd To 1), .int .u64 (P.wrd To 2), .int .u64 (P.wrd To 3)] 28)
    simpa using this
  have bx2 : Box (((w.alloc (.cells #[a, b, c] 25)).alloc (.cells #[.int .u64 (P.wrd I 0), .int .u64 (P.wrd I 1), .int .u64 (P.wrd I 2), .int .u64 (P.wrd I 3)] 28)).alloc (.cells #[.int .u64 (P.wrd To 0), .int .u64 (P.wrd To 1), .int .u64 (P.wrd To 2), .int .u64 (P.wrd To 3)] 28)) (w.heap.size + 1 + 1) 28 #[.int .u64 (P.wrd To 0), .int .u64 (P.wrd To 1), .int .u64 (P.wrd To 2), .int .u64 (P.wrd To 3)] := by
    have := Box.new ((w.alloc (.cells #[a, b, c] 25)).alloc (.cells #[.int .u64 (P.wrd I 0), .int .u64 (P.wrd I 1), .int .u64 (P.wrd I 2), .int .u64 (P.wrd I 3)] 28)) 28 #[.int .u64 (P.wrd To 0), .int .u64 (P.wrd To 1), .int .u64 (P.wrd To 2), .int .u64 (P.wrd To 3)]
    simpa using this
  have hbq : Below w.heap.size w (((w.alloc (.cells #[a, b, c] 25)).alloc (.cells #[.int .u64 (P.wrd I 0), .int .u64 (P.wrd I 1), .int .u64 (P.wrd I 2), .int .u64 (P.wrd I 3)] 28)).alloc (.cells #[.int .u64 (P.wrd To 0), .int .u64 (P.wrd To 1), .int .u64 (P.wrd To 2), .int .u64 (P.wrd To 3)] 28)) := (((Below.refl _ w).alloc (Nat.le_refl _) _).alloc (by simp) _).alloc (by simp; omega) _
  have lt0 : w.heap.size < w.heap.size + 1 := Nat.lt_succ_self _
  have lt1 : w.heap.size + 1 < w.heap.size + 1 + 1 := Nat.lt_succ_self _
  have hle0 : w.heap.size ≤ w.heap.size := Nat.le_refl _
  generalize (((w.alloc (.cells #[a, b, c] 25)).alloc (.cells #[.int .u64 (P.wrd I 0), .int .u64 (P.wrd I 1), .int .u64 (P.wrd I 2), .int .u64 (P.wrd I 3)] 28)).alloc (.cells #[.int .u64 (P.wrd To 0), .int .u64 (P.wrd To 1), .int .u64 (P.wrd To 2), .int .u64 (P.wrd To 3)] 28)) = w0 at bx0 bx1 bx2 hbq  ⊢
  have BQg := Lib.hid bx0
  have BQi := Lib.hid bx1
  have BQt := Lib.hid bx2
  have W := Lib.hid hbq
  have LTgi := Lib.hid lt0
  have LTit := Lib.hid lt1
  have LEg := Lib.hid hle0
  clear hbq hle0 bx0 bx1 bx2 lt0 lt1
  generalize w.heap.size + 1 + 1 = qt at BQt LTit ⊢
  generalize w.heap.size + 1 = qi at BQi LTit LTgi ⊢
  obtain ⟨qg, hqg⟩ : ∃ qg, w.heap.size = qg := ⟨_, rfl⟩
  rw [hqg] at BQg LTgi ⊢
  have LEg : Hid (w.heap.size ≤ qg) := Lib.hid (by omega)
  clear hqg
  refine (shown_any _ (T.out.on W.out)).mono ?_
  rintro e w1 ⟨rfl, hb⟩
  replace BQg := Lib.hid (BQg.out.keep (grown_of_below hb none))
  replace BQi := Lib.hid (BQi.out.keep (grown_of_below hb none))
  replace BQt := Lib.hid (BQt.out.keep (grown_of_below hb none))
  replace W := Lib.hid (W.out.trans (hb.mono W.out.size))
  clear hb
  have hbb := BQg.out
  have gc0 : w1.cell? ⟨qg, 0, none⟩ = some a := hbb.cell 0 _ rfl
  have gc1 : w1.cell? ⟨qg, 1, none⟩ = some b := hbb.cell 1 _ rfl
  have gc2 : w1.cell? ⟨qg, 2, none⟩ = some c := hbb.cell 2 _ rfl
  clear hbb
  go_wp2_with fail
  refine (dual_any g _ _ (HV.out.on W.out)).mono ?_
  rintro e w2 ⟨dav, dbv, dcv, dL, rfl, ho, hb⟩
  have hgd := ho.game HFD.out
  obtain ⟨da, dka, db, dkb, dc, dkc, rfl, rfl, rfl⟩ := ho.forms
  rw [HDN.out] at hgd ⊢
  replace BQg := Lib.hid (BQg.out.keep (grown_of_below hb none))
  replace BQi := Lib.hid (BQi.out.keep (grown_of_below hb none))
  replace BQt := Lib.hid (BQt.out.keep (grown_of_below hb none))
  replace W := Lib.hid (W.out.trans (hb.mono W.out.size))
  have GD := Lib.hid hgd
  clear hb ho hgd gc0 gc1 gc2
  go_upto_region 3 with (fail)
  have bq : Box (w2.alloc (.cells #[.slice da dn dka, .slice db g.dual.prio.length dkb, .slice dc g.dual.moves.length dkc] 25)) w2.heap.size 25 #[.slice da dn dka, .slice db g.dual.prio.length dkb, .slice dc g.dual.moves.length dkc] := Box.new _ _ _
  have hgq := World.grownBy_alloc w2 (.cells #[.slice da dn dka, .slice db g.dual.prio.length dkb, .slice dc g.dual.moves.length dkc] 25) none
  replace BQg := Lib.hid (BQg.out.keep hgq)
  replace BQi := Lib.hid (BQi.out.keep hgq)
  replace BQt := Lib.hid (BQt.out.keep hgq)
  replace W := Lib.hid (W.out.trans ((below_of_grown hgq).mono W.out.size))
  replace GD := Lib.hid (GD.out.on (below_of_grown hgq))
  generalize (w2.alloc (.cells #[.slice da dn dka, .slice db g.dual.prio.length dkb, .slice dc g.dual.moves.length dkc] 25)) = w3 at bq BQg BQi BQt W GD ⊢
  generalize w2.heap.size = qd at bq ⊢
  have BQd := Lib.hid bq
  clear bq hgq
  have hbb := BQd.out
  have dc0 : w3.cell? ⟨qd, 0, none⟩ = some (.slice da dn dka) := hbb.cell 0 _ rfl
  have dc1 : w3.cell? ⟨qd, 1, none⟩ = some (.slice db g.dual.prio.length dkb) := hbb.cell 1 _ rfl
  have dc2 : w3.cell? ⟨qd, 2, none⟩ = some (.slice dc g.dual.moves.length dkc) := hbb.cell 2 _ rfl
  clear hbb
  go_wp2_with fail
  exact bodyPost_ret (v := .bool true) (by simp [results, Tryd.results6, go_sem]) rfl ⟨rfl, W.out⟩

theorem dual_eq (g : P.G) (hd : g.dual.owner.length ≠ 0) (I To : BitVec 256) (p : Int) (hp : p = 0 ∨ p = 1) : P.attOf g.dual I (1 - p) To = P.attOf g I p To := by
  have hok : g.ok = true := by
    cases h : g.ok with
    | true => rfl
    | false => rw [P.G.dual_none h] at hd; exact absurd rfl hd
  have hr := (P.G.ok_iff g).1 hok
  have hb : ¬ ((0 : Int) ∈ g.prio ∧ (7 : Int) ∈ g.prio) := fun h => by rw [P.G.dual_both hr h.1 h.2] at hd; exact absurd rfl hd
  rw [P.G.dual_way hr hb]
  exact P.attOf_turned hr rfl (P.turn_is hr hb) I To hp

set_option maxRecDepth 100000 in
set_option maxHeartbeats 1000000 in
theorem duals_0 (g : P.G) (I To : BitVec 256) (p : Int) (v : Value) (w : World) (hv : GameV w v g) (hT : Tab w) (hd : g.dual.owner.length ≠ 0) (hp : p = 0) : Calls Tryd.prog 6 #[v, .agg #[.int .u64 (P.wrd I 0), .int .u64 (P.wrd I 1), .int .u64 (P.wrd I 2), .int .u64 (P.wrd I 3)], .int .i64 p, .agg #[.int .u64 (P.wrd To 0), .int .u64 (P.wrd To 1), .int .u64 (P.wrd To 2), .int .u64 (P.wrd To 3)]] w fun e w' => e = .returned (.bool true) ∧ Below w.heap.size w w' := by
  have HFD := Lib.hid (fits_dual' hv.fits)
  have HV := Lib.hid hv
  obtain ⟨a, b, c, rfl, -⟩ := hv
  obtain ⟨dn, hdn⟩ : ∃ dn, g.dual.owner.length = dn := ⟨_, rfl⟩
  have fd : (((dn : Nat) : Int) == 0) = false := by rw [beq_eq_false_iff_ne]; omega
  have HEQ := Lib.hid (dual_eq g hd I To p (by omega))
  have f0 : (p != 0) = false := by rw [bne_eq_false_iff_eq]; exact hp
  have hp0 : 0 ≤ p := by omega
  have hp1 : p ≤ 1 := by omega
  clear hd hp
  have HDN := Lib.hid hdn
  clear hdn
  have T := Lib.hid hT
  clear hT
  go_enter Tryd.func6, Tryd.ntmps6
  go_wp2_with fail
  have bx0 : Box (((w.alloc (.cells #[a, b, c] 25)).alloc (.cells #[.int .u64 (P.wrd I 0), .int .u64 (P.wrd I 1), .int .u64 (P.wrd I 2), .int .u64 (P.wrd I 3)] 28)).alloc (.cells #[.int .u64 (P.wrd To 0), .int .u64 (P.wrd To 1), .int .u64 (P.wrd To 2), .int .u64 (P.wrd To 3)] 28)) (w.heap.size) 25 #[a, b, c] := Box.alloc (Box.alloc (Box.new w 25 #[a, b, c]) (.cells #[.int .u64 (P.wrd I 0), .int .u64 (P.wrd I 1), .int .u64 (P.wrd I 2), .int .u64 (P.wrd I 3)] 28)) (.cells #[.int .u64 (P.wrd To 0), .int .u64 (P.wrd To 1), .int .u64 (P.wrd To 2), .int .u64 (P.wrd To 3)] 28)
  have bx1 : Box (((w.alloc (.cells #[a, b, c] 25)).alloc (.cells #[.int .u64 (P.wrd I 0), .int .u64 (P.wrd I 1), .int .u64 (P.wrd I 2), .int .u64 (P.wrd I 3)] 28)).alloc (.cells #[.int .u64 (P.wrd To 0), .int .u64 (P.wrd To 1), .int .u64 (P.wrd To 2), .int .u64 (P.wrd To 3)] 28)) (w.heap.size + 1) 28 #[.int .u64 (P.wrd I 0), .int .u64 (P.wrd I 1), .int .u64 (P.wrd I 2), .int .u64 (P.wrd I 3)] := by
    have := Box.alloc (Box.new (w.alloc (.cells #[a, b, c] 25)) 28 #[.int .u64 (P.wrd I 0), .int .u64 (P.wrd I 1), .int .u64 (P.wrd I 2), .int .u64 (P.wrd I 3)]) (.cells #[.int .u64 (P.wrd To 0), .int .u64 (P.wrd To 1), .int .u64 (P.wrd To 2), .int .u64 (P.wrd To 3)] 28)
    simpa using this
  have bx2 : Box (((w.alloc (.cells #[a, b, c] 25)).alloc (.cells #[.int .u64 (P.wrd I 0), .int .u64 (P.wrd I 1), .int .u64 (P.wrd I 2), .int .u64 (P.wrd I 3)] 28)).alloc (.cells #[.int .u64 (P.wrd To 0), .int .u64 (P.wrd To 1), .int .u64 (P.wrd To 2), .int .u64 (P.wrd To 3)] 28)) (w.heap.size + 1 + 1) 28 #[.int .u64 (P.wrd To 0), .int .u64 (P.wrd To 1), .int .u64 (P.wrd To 2), .int .u64 (P.wrd To 3)] := by
    have := Box.new ((w.alloc (.cells #[a, b, c] 25)).alloc (.cells #[.int .u64 (P.wrd I 0), .int .u64 (P.wrd I 1), .int .u64 (P.wrd I 2), .int .u64 (P.wrd I 3)] 28)) 28 #[.int .u64 (P.wrd To 0), .int .u64 (P.wrd To 1), .int .u64 (P.wrd To 2), .int .u64 (P.wrd To 3)]
    simpa using this
  have hbq : Below w.heap.size w (((w.alloc (.cells #[a, b, c] 25)).alloc (.cells #[.int .u64 (P.wrd I 0), .int .u64 (P.wrd I 1), .int .u64 (P.wrd I 2), .int .u64 (P.wrd I 3)] 28)).alloc (.cells #[.int .u64 (P.wrd To 0), .int .u64 (P.wrd To 1), .int .u64 (P.wrd To 2), .int .u64 (P.wrd To 3)] 28)) := (((Below.refl _ w).alloc (Nat.le_refl _) _).alloc (by simp) _).alloc (by simp; omega) _
  have lt0 : w.heap.size < w.heap.size + 1 := Nat.lt_succ_self _
  have lt1 : w.heap.size + 1 < w.heap.size + 1 + 1 := Nat.lt_succ_self _
  have hle0 : w.heap.size ≤ w.heap.size := Nat.le_refl _
  generalize (((w.alloc (.cells #[a, b, c] 25)).alloc (.cells #[.int .u64 (P.wrd I 0), .int .u64 (P.wrd I 1), .int .u64 (P.wrd I 2), .int .u64 (P.wrd I 3)] 28)).alloc (.cells #[.int .u64 (P.wrd To 0), .int .u64 (P.wrd To 1), .int .u64 (P.wrd To 2), .int .u64 (P.wrd To 3)] 28)) = w0 at bx0 bx1 bx2 hbq  ⊢
  have BQg := Lib.hid bx0
  have BQi := Lib.hid bx1
  have BQt := Lib.hid bx2
  have W := Lib.hid hbq
  have LTgi := Lib.hid lt0
  have LTit := Lib.hid lt1
  have LEg := Lib.hid hle0
  clear hbq hle0 bx0 bx1 bx2 lt0 lt1
  generalize w.heap.size + 1 + 1 = qt at BQt LTit ⊢
  generalize w.heap.size + 1 = qi at BQi LTit LTgi ⊢
  obtain ⟨qg, hqg⟩ : ∃ qg, w.heap.size = qg := ⟨_, rfl⟩
  rw [hqg] at BQg LTgi ⊢
  have LEg : Hid (w.heap.size ≤ qg) := Lib.hid (by omega)
  clear hqg
  refine (shown_any _ (T.out.on W.out)).mono ?_
  rintro e w1 ⟨rfl, hb⟩
  replace BQg := Lib.hid (BQg.out.keep (grown_of_below hb none))
  replace BQi := Lib.hid (BQi.out.keep (grown_of_below hb none))
  replace BQt := Lib.hid (BQt.out.keep (grown_of_below hb none))
  replace W := Lib.hid (W.out.trans (hb.mono W.out.size))
  clear hb
  have hbb := BQg.out
  have gc0 : w1.cell? ⟨qg, 0, none⟩ = some a := hbb.cell 0 _ rfl
  have gc1 : w1.cell? ⟨qg, 1, none⟩ = some b := hbb.cell 1 _ rfl
  have gc2 : w1.cell? ⟨qg, 2, none⟩ = some c := hbb.cell 2 _ rfl
  clear hbb
  go_wp2_with fail
  refine (dual_any g _ _ (HV.out.on W.out)).mono ?_
  rintro e w2 ⟨dav, dbv, dcv, dL, rfl, ho, hb⟩
  have hgd := ho.game HFD.out
  obtain ⟨da, dka, db, dkb, dc, dkc, rfl, rfl, rfl⟩ := ho.forms
  rw [HDN.out] at hgd ⊢
  replace BQg := Lib.hid (BQg.out.keep (grown_of_below hb none))
  replace BQi := Lib.hid (BQi.out.keep (grown_of_below hb none))
  replace BQt := Lib.hid (BQt.out.keep (grown_of_below hb none))
  replace W := Lib.hid (W.out.trans (hb.mono W.out.size))
  have GD := Lib.hid hgd
  clear hb ho hgd gc0 gc1 gc2
  go_upto_region 3 with (fail)
  have bq : Box (w2.alloc (.cells #[.slice da dn dka, .slice db g.dual.prio.length dkb, .slice dc g.dual.moves.length dkc] 25)) w2.heap.size 25 #[.slice da dn dka, .slice db g.dual.prio.length dkb, .slice dc g.dual.moves.length dkc] := Box.new _ _ _
  have hgq := World.grownBy_alloc w2 (.cells #[.slice da dn dka, .slice db g.dual.prio.length dkb, .slice dc g.dual.moves.length dkc] 25) none
  replace BQg := Lib.hid (BQg.out.keep hgq)
  replace BQi := Lib.hid (BQi.out.keep hgq)
  replace BQt := Lib.hid (BQt.out.keep hgq)
  replace W := Lib.hid (W.out.trans ((below_of_grown hgq).mono W.out.size))
  replace GD := Lib.hid (GD.out.on (below_of_grown hgq))
  generalize (w2.alloc (.cells #[.slice da dn dka, .slice db g.dual.prio.length dkb, .slice dc g.dual.moves.length dkc] 25)) = w3 at bq BQg BQi BQt W GD ⊢
  generalize w2.heap.size = qd at bq ⊢
  have BQd := Lib.hid bq
  clear bq hgq
  have hbb := BQd.out
  have dc0 : w3.cell? ⟨qd, 0, none⟩ = some (.slice da dn dka) := hbb.cell 0 _ rfl
  have dc1 : w3.cell? ⟨qd, 1, none⟩ = some (.slice db g.dual.prio.length dkb) := hbb.cell 1 _ rfl
  have dc2 : w3.cell? ⟨qd, 2, none⟩ = some (.slice dc g.dual.moves.length dkc) := hbb.cell 2 _ rfl
  clear hbb
  go_upto_region 5 with (fail)
  clear dc0 dc1 dc2
  have hbb := BQg.out
  have gc0 : w3.cell? ⟨qg, 0, none⟩ = some a := hbb.cell 0 _ rfl
  have gc1 : w3.cell? ⟨qg, 1, none⟩ = some b := hbb.cell 1 _ rfl
  have gc2 : w3.cell? ⟨qg, 2, none⟩ = some c := hbb.cell 2 _ rfl
  clear hbb
  have hbb := BQi.out
  have ic0 : w3.cell? ⟨qi, 0, none⟩ = some (.int .u64 (P.wrd I 0)) := hbb.cell 0 _ rfl
  have ic1 : w3.cell? ⟨qi, 1, none⟩ = some (.int .u64 (P.wrd I 1)) := hbb.cell 1 _ rfl
  have ic2 : w3.cell? ⟨qi, 2, none⟩ = some (.int .u64 (P.wrd I 2)) := hbb.cell 2 _ rfl
  have ic3 : w3.cell? ⟨qi, 3, none⟩ = some (.int .u64 (P.wrd I 3)) := hbb.cell 3 _ rfl
  clear hbb
  have hbb := BQt.out
  have tc0 : w3.cell? ⟨qt, 0, none⟩ = some (.int .u64 (P.wrd To 0)) := hbb.cell 0 _ rfl
  have tc1 : w3.cell? ⟨qt, 1, none⟩ = some (.int .u64 (P.wrd To 1)) := hbb.cell 1 _ rfl
  have tc2 : w3.cell? ⟨qt, 2, none⟩ = some (.int .u64 (P.wrd To 2)) := hbb.cell 2 _ rfl
  have tc3 : w3.cell? ⟨qt, 3, none⟩ = some (.int .u64 (P.wrd To 3)) := hbb.cell 3 _ rfl
  clear hbb
  go_wp2_with fail
  refine (attract_any g I To p _ _ (HV.out.on W.out) (T.out.on W.out)).mono ?_
  rintro e u1 ⟨v1, m1, rfl, ho1, hm1, hb⟩
  obtain ⟨vo1, vk1, rfl, -⟩ := own_at ho1
  replace BQg := Lib.hid (BQg.out.keep (grown_of_below hb none))
  replace BQi := Lib.hid (BQi.out.keep (grown_of_below hb none))
  replace BQt := Lib.hid (BQt.out.keep (grown_of_below hb none))
  replace W := Lib.hid (W.out.trans (hb.mono W.out.size))
  replace BQd := Lib.hid (BQd.out.keep (grown_of_below hb none))
  replace GD := Lib.hid (GD.out.on hb)
  obtain ⟨s1, hs1⟩ : ∃ s, P.attOf g I p To = s := ⟨_, rfl⟩
  rw [hs1]
  have HS1 := Lib.hid hs1
  clear hb hs1 gc0 gc1 gc2 ic0 ic1 ic2 ic3 tc0 tc1 tc2 tc3
  clear ho1 hm1
  go_upto_region 6 with (fail)
  have bq : Box (u1.alloc (.cells #[.int .u64 (P.wrd s1 0), .int .u64 (P.wrd s1 1), .int .u64 (P.wrd s1 2), .int .u64 (P.wrd s1 3)] 28)) u1.heap.size 28 #[.int .u64 (P.wrd s1 0), .int .u64 (P.wrd s1 1), .int .u64 (P.wrd s1 2), .int .u64 (P.wrd s1 3)] := Box.new _ _ _
  have hgq := World.grownBy_alloc u1 (.cells #[.int .u64 (P.wrd s1 0), .int .u64 (P.wrd s1 1), .int .u64 (P.wrd s1 2), .int .u64 (P.wrd s1 3)] 28) none
  replace BQg := Lib.hid (BQg.out.keep hgq)
  replace BQi := Lib.hid (BQi.out.keep hgq)
  replace BQt := Lib.hid (BQt.out.keep hgq)
  replace W := Lib.hid (W.out.trans ((below_of_grown hgq).mono W.out.size))
  replace BQd := Lib.hid (BQd.out.keep hgq)
  replace GD := Lib.hid (GD.out.on (below_of_grown hgq))
  generalize (u1.alloc (.cells #[.int .u64 (P.wrd s1 0), .int .u64 (P.wrd s1 1), .int .u64 (P.wrd s1 2), .int .u64 (P.wrd s1 3)] 28)) = x1 at bq BQg BQi BQt W BQd GD ⊢
  generalize u1.heap.size = q1 at bq ⊢
  have BQ1 := Lib.hid bq
  clear bq hgq
  have hbb := BQd.out
  have gc0 : x1.cell? ⟨qd, 0, none⟩ = some (.slice da dn dka) := hbb.cell 0 _ rfl
  have gc1 : x1.cell? ⟨qd, 1, none⟩ = some (.slice db g.dual.prio.length dkb) := hbb.cell 1 _ rfl
  have gc2 : x1.cell? ⟨qd, 2, none⟩ = some (.slice dc g.dual.moves.length dkc) := hbb.cell 2 _ rfl
  clear hbb
  have hbb := BQi.out
  have ic0 : x1.cell? ⟨qi, 0, none⟩ = some (.int .u64 (P.wrd I 0)) := hbb.cell 0 _ rfl
  have ic1 : x1.cell? ⟨qi, 1, none⟩ = some (.int .u64 (P.wrd I 1)) := hbb.cell 1 _ rfl
  have ic2 : x1.cell? ⟨qi, 2, none⟩ = some (.int .u64 (P.wrd I 2)) := hbb.cell 2 _ rfl
  have ic3 : x1.cell? ⟨qi, 3, none⟩ = some (.int .u64 (P.wrd I 3)) := hbb.cell 3 _ rfl
  clear hbb
  have hbb := BQt.out
  have tc0 : x1.cell? ⟨qt, 0, none⟩ = some (.int .u64 (P.wrd To 0)) := hbb.cell 0 _ rfl
  have tc1 : x1.cell? ⟨qt, 1, none⟩ = some (.int .u64 (P.wrd To 1)) := hbb.cell 1 _ rfl
  have tc2 : x1.cell? ⟨qt, 2, none⟩ = some (.int .u64 (P.wrd To 2)) := hbb.cell 2 _ rfl
  have tc3 : x1.cell? ⟨qt, 3, none⟩ = some (.int .u64 (P.wrd To 3)) := hbb.cell 3 _ rfl
  clear hbb
  go_wp2_with fail
  refine (attract_any g.dual I To (1 - p) _ _ GD.out (T.out.on W.out)).mono ?_
  rintro e u2 ⟨v2, m2, rfl, ho2, hm2, hb⟩
  obtain ⟨vo2, vk2, rfl, -⟩ := own_at ho2
  replace BQg := Lib.hid (BQg.out.keep (grown_of_below hb none))
  replace BQi := Lib.hid (BQi.out.keep (grown_of_below hb none))
  replace BQt := Lib.hid (BQt.out.keep (grown_of_below hb none))
  replace W := Lib.hid (W.out.trans (hb.mono W.out.size))
  replace BQd := Lib.hid (BQd.out.keep (grown_of_below hb none))
  replace GD := Lib.hid (GD.out.on hb)
  replace BQ1 := Lib.hid (BQ1.out.keep (grown_of_below hb none))
  obtain ⟨s2, hs2⟩ : ∃ s, P.attOf g.dual I (1 - p) To = s := ⟨_, rfl⟩
  rw [hs2]
  have HS2 := Lib.hid hs2
  clear hb hs2 gc0 gc1 gc2 ic0 ic1 ic2 ic3 tc0 tc1 tc2 tc3
  clear ho2 hm2
  go_upto_region 7 with (fail)
  have bq : Box (u2.alloc (.cells #[.int .u64 (P.wrd s2 0), .int .u64 (P.wrd s2 1), .int .u64 (P.wrd s2 2), .int .u64 (P.wrd s2 3)] 28)) u2.heap.size 28 #[.int .u64 (P.wrd s2 0), .int .u64 (P.wrd s2 1), .int .u64 (P.wrd s2 2), .int .u64 (P.wrd s2 3)] := Box.new _ _ _
  have hgq := World.grownBy_alloc u2 (.cells #[.int .u64 (P.wrd s2 0), .int .u64 (P.wrd s2 1), .int .u64 (P.wrd s2 2), .int .u64 (P.wrd s2 3)] 28) none
  replace BQg := Lib.hid (BQg.out.keep hgq)
  replace BQi := Lib.hid (BQi.out.keep hgq)
  replace BQt := Lib.hid (BQt.out.keep hgq)
  replace W := Lib.hid (W.out.trans ((below_of_grown hgq).mono W.out.size))
  replace BQd := Lib.hid (BQd.out.keep hgq)
  replace GD := Lib.hid (GD.out.on (below_of_grown hgq))
  replace BQ1 := Lib.hid (BQ1.out.keep hgq)
  generalize (u2.alloc (.cells #[.int .u64 (P.wrd s2 0), .int .u64 (P.wrd s2 1), .int .u64 (P.wrd s2 2), .int .u64 (P.wrd s2 3)] 28)) = x2 at bq BQg BQi BQt W BQd GD BQ1 ⊢
  generalize u2.heap.size = q2 at bq ⊢
  have BQ2 := Lib.hid bq
  clear bq hgq
  obtain rfl : s2 = s1 := by rw [← HS1.out, ← HS2.out]; exact HEQ.out
  have hbb := BQ1.out
  have yc0 : x2.cell? ⟨q1, 0, none⟩ = some (.int .u64 (P.wrd s2 0)) := hbb.cell 0 _ rfl
  have yc1 : x2.cell? ⟨q1, 1, none⟩ = some (.int .u64 (P.wrd s2 1)) := hbb.cell 1 _ rfl
  have yc2 : x2.cell? ⟨q1, 2, none⟩ = some (.int .u64 (P.wrd s2 2)) := hbb.cell 2 _ rfl
  have yc3 : x2.cell? ⟨q1, 3, none⟩ = some (.int .u64 (P.wrd s2 3)) := hbb.cell 3 _ rfl
  clear hbb
  have hbb := BQ2.out
  have zc0 : x2.cell? ⟨q2, 0, none⟩ = some (.int .u64 (P.wrd s2 0)) := hbb.cell 0 _ rfl
  have zc1 : x2.cell? ⟨q2, 1, none⟩ = some (.int .u64 (P.wrd s2 1)) := hbb.cell 1 _ rfl
  have zc2 : x2.cell? ⟨q2, 2, none⟩ = some (.int .u64 (P.wrd s2 2)) := hbb.cell 2 _ rfl
  have zc3 : x2.cell? ⟨q2, 3, none⟩ = some (.int .u64 (P.wrd s2 3)) := hbb.cell 3 _ rfl
  clear hbb
  have es := fun w => (set_eq s2 s2 w).trans (by rw [decide_eq_true rfl])
  go_wp2_with fail
  exact bodyPost_ret (v := .bool true) (by simp [results, Tryd.results6, go_sem]) rfl ⟨rfl, W.out⟩

set_option maxRecDepth 100000 in
set_option maxHeartbeats 1000000 in
theorem duals_1 (g : P.G) (I To : BitVec 256) (p : Int) (v : Value) (w : World) (hv : GameV w v g) (hT : Tab w) (hd : g.dual.owner.length ≠ 0) (hp : p = 1) : Calls Tryd.prog 6 #[v, .agg #[.int .u64 (P.wrd I 0), .int .u64 (P.wrd I 1), .int .u64 (P.wrd I 2), .int .u64 (P.wrd I 3)], .int .i64 p, .agg #[.int .u64 (P.wrd To 0), .int .u64 (P.wrd To 1), .int .u64 (P.wrd To 2), .int .u64 (P.wrd To 3)]] w fun e w' => e = .returned (.bool true) ∧ Below w.heap.size w w' := by
  have HFD := Lib.hid (fits_dual' hv.fits)
  have HV := Lib.hid hv
  obtain ⟨a, b, c, rfl, -⟩ := hv
  obtain ⟨dn, hdn⟩ : ∃ dn, g.dual.owner.length = dn := ⟨_, rfl⟩
  have fd : (((dn : Nat) : Int) == 0) = false := by rw [beq_eq_false_iff_ne]; omega
  have HEQ := Lib.hid (dual_eq g hd I To p (by omega))
  have f0 : (p != 0) = true := by rw [bne_iff_ne]; omega
  have f1 : (p != 1) = false := by rw [bne_eq_false_iff_eq]; exact hp
  have hp0 : 0 ≤ p := by omega
  have hp1 : p ≤ 1 := by omega
  clear hd hp
  have HDN := Lib.hid hdn
  clear hdn
  have T := Lib.hid hT
  clear hT
  go_enter Tryd.func6, Tryd.ntmps6
  go_wp2_with fail
  have bx0 : Box (((w.alloc (.cells #[a, b, c] 25)).alloc (.cells #[.int .u64 (P.wrd I 0), .int .u64 (P.wrd I 1), .int .u64 (P.wrd I 2), .int .u64 (P.wrd I 3)] 28)).alloc (.cells #[.int .u64 (P.wrd To 0), .int .u64 (P.wrd To 1), .int .u64 (P.wrd To 2), .int .u64 (P.wrd To 3)] 28)) (w.heap.size) 25 #[a, b, c] := Box.alloc (Box.alloc (Box.new w 25 #[a, b, c]) (.cells #[.int .u64 (P.wrd I 0), .int .u64 (P.wrd I 1), .int .u64 (P.wrd I 2), .int .u64 (P.wrd I 3)] 28)) (.cells #[.int .u64 (P.wrd To 0), .int .u64 (P.wrd To 1), .int .u64 (P.wrd To 2), .int .u64 (P.wrd To 3)] 28)
  have bx1 : Box (((w.alloc (.cells #[a, b, c] 25)).alloc (.cells #[.int .u64 (P.wrd I 0), .int .u64 (P.wrd I 1), .int .u64 (P.wrd I 2), .int .u64 (P.wrd I 3)] 28)).alloc (.cells #[.int .u64 (P.wrd To 0), .int .u64 (P.wrd To 1), .int .u64 (P.wrd To 2), .int .u64 (P.wrd To 3)] 28)) (w.heap.size + 1) 28 #[.int .u64 (P.wrd I 0), .int .u64 (P.wrd I 1), .int .u64 (P.wrd I 2), .int .u64 (P.wrd I 3)] := by
    have := Box.alloc (Box.new (w.alloc (.cells #[a, b, c] 25)) 28 #[.int .u64 (P.wrd I 0), .int .u64 (P.wrd I 1), .int .u64 (P.wrd I 2), .int .u64 (P.wrd I 3)]) (.cells #[.int .u64 (P.wrd To 0), .int .u64 (P.wrd To 1), .int .u64 (P.wrd To 2), .int .u64 (P.wrd To 3)] 28)
    simpa using this
  have bx2 : Box (((w.alloc (.cells #[a, b, c] 25)).alloc (.cells #[.int .u64 (P.wrd I 0), .int .u64 (P.wrd I 1), .int .u64 (P.wrd I 2), .int .u64 (P.wrd I 3)] 28)).alloc (.cells #[.int .u64 (P.wrd To 0), .int .u64 (P.wrd To 1), .int .u64 (P.wrd To 2), .int .u64 (P.wrd To 3)] 28)) (w.heap.size + 1 + 1) 28 #[.int .u64 (P.wrd To 0), .int .u64 (P.wrd To 1), .int .u64 (P.wrd To 2), .int .u64 (P.wrd To 3)] := by
    have := Box.new ((w.alloc (.cells #[a, b, c] 25)).alloc (.cells #[.int .u64 (P.wrd I 0), .int .u64 (P.wrd I 1), .int .u64 (P.wrd I 2), .int .u64 (P.wrd I 3)] 28)) 28 #[.int .u64 (P.wrd To 0), .int .u64 (P.wrd To 1), .int .u64 (P.wrd To 2), .int .u64 (P.wrd To 3)]
    simpa using this
  have hbq : Below w.heap.size w (((w.alloc (.cells #[a, b, c] 25)).alloc (.cells #[.int .u64 (P.wrd I 0), .int .u64 (P.wrd I 1), .int .u64 (P.wrd I 2), .int .u64 (P.wrd I 3)] 28)).alloc (.cells #[.int .u64 (P.wrd To 0), .int .u64 (P.wrd To 1), .int .u64 (P.wrd To 2), .int .u64 (P.wrd To 3)] 28)) := (((Below.refl _ w).alloc (Nat.le_refl _) _).alloc (by simp) _).alloc (by simp; omega) _
  have lt0 : w.heap.size < w.heap.size + 1 := Nat.lt_succ_self _
  have lt1 : w.heap.size + 1 < w.heap.size + 1 + 1 := Nat.lt_succ_self _
  have hle0 : w.heap.size ≤ w.heap.size := Nat.le_refl _
  generalize (((w.alloc (.cells #[a, b, c] 25)).alloc (.cells #[.int .u64 (P.wrd I 0), .int .u64 (P.wrd I 1), .int .u64 (P.wrd I 2), .int .u64 (P.wrd I 3)] 28)).alloc (.cells #[.int .u64 (P.wrd To 0), .int .u64 (P.wrd To 1), .int .u64 (P.wrd To 2), .int .u64 (P.wrd To 3)] 28)) = w0 at bx0 bx1 bx2 hbq  ⊢
  have BQg := Lib.hid bx0
  have BQi := Lib.hid bx1
  have BQt := Lib.hid bx2
  have W := Lib.hid hbq
  have LTgi := Lib.hid lt0
  have LTit := Lib.hid lt1
  have LEg := Lib.hid hle0
  clear hbq hle0 bx0 bx1 bx2 lt0 lt1
  generalize w.heap.size + 1 + 1 = qt at BQt LTit ⊢
  generalize w.heap.size + 1 = qi at BQi LTit LTgi ⊢
  obtain ⟨qg, hqg⟩ : ∃ qg, w.heap.size = qg := ⟨_, rfl⟩
  rw [hqg] at BQg LTgi ⊢
  have LEg : Hid (w.heap.size ≤ qg) := Lib.hid (by omega)
  clear hqg
  refine (shown_any _ (T.out.on W.out)).mono ?_
  rintro e w1 ⟨rfl, hb⟩
  replace BQg := Lib.hid (BQg.out.keep (grown_of_below hb none))
  replace BQi := Lib.hid (BQi.out.keep (grown_of_below hb none))
  replace BQt := Lib.hid (BQt.out.keep (grown_of_below hb none))
  replace W := Lib.hid (W.out.trans (hb.mono W.out.size))
  clear hb
  have hbb := BQg.out
  have gc0 : w1.cell? ⟨qg, 0, none⟩ = some a := hbb.cell 0 _ rfl
  have gc1 : w1.cell? ⟨qg, 1, none⟩ = some b := hbb.cell 1 _ rfl
  have gc2 : w1.cell? ⟨qg, 2, none⟩ = some c := hbb.cell 2 _ rfl
  clear hbb
  go_wp2_with fail
  refine (dual_any g _ _ (HV.out.on W.out)).mono ?_
  rintro e w2 ⟨dav, dbv, dcv, dL, rfl, ho, hb⟩
  have hgd := ho.game HFD.out
  obtain ⟨da, dka, db, dkb, dc, dkc, rfl, rfl, rfl⟩ := ho.forms
  rw [HDN.out] at hgd ⊢
  replace BQg := Lib.hid (BQg.out.keep (grown_of_below hb none))
  replace BQi := Lib.hid (BQi.out.keep (grown_of_below hb none))
  replace BQt := Lib.hid (BQt.out.keep (grown_of_below hb none))
  replace W := Lib.hid (W.out.trans (hb.mono W.out.size))
  have GD := Lib.hid hgd
  clear hb ho hgd gc0 gc1 gc2
  go_upto_region 3 with (fail)
  have bq : Box (w2.alloc (.cells #[.slice da dn dka, .slice db g.dual.prio.length dkb, .slice dc g.dual.moves.length dkc] 25)) w2.heap.size 25 #[.slice da dn dka, .slice db g.dual.prio.length dkb, .slice dc g.dual.moves.length dkc] := Box.new _ _ _
  have hgq := World.grownBy_alloc w2 (.cells #[.slice da dn dka, .slice db g.dual.prio.length dkb, .slice dc g.dual.moves.length dkc] 25) none
  replace BQg := Lib.hid (BQg.out.keep hgq)
  replace BQi := Lib.hid (BQi.out.keep hgq)
  replace BQt := Lib.hid (BQt.out.keep hgq)
  replace W := Lib.hid (W.out.trans ((below_of_grown hgq).mono W.out.size))
  replace GD := Lib.hid (GD.out.on (below_of_grown hgq))
  generalize (w2.alloc (.cells #[.slice da dn dka, .slice db g.dual.prio.length dkb, .slice dc g.dual.moves.length dkc] 25)) = w3 at bq BQg BQi BQt W GD ⊢
  generalize w2.heap.size = qd at bq ⊢
  have BQd := Lib.hid bq
  clear bq hgq
  have hbb := BQd.out
  have dc0 : w3.cell? ⟨qd, 0, none⟩ = some (.slice da dn dka) := hbb.cell 0 _ rfl
  have dc1 : w3.cell? ⟨qd, 1, none⟩ = some (.slice db g.dual.prio.length dkb) := hbb.cell 1 _ rfl
  have dc2 : w3.cell? ⟨qd, 2, none⟩ = some (.slice dc g.dual.moves.length dkc) := hbb.cell 2 _ rfl
  clear hbb
  go_upto_region 5 with (fail)
  clear dc0 dc1 dc2
  have hbb := BQg.out
  have gc0 : w3.cell? ⟨qg, 0, none⟩ = some a := hbb.cell 0 _ rfl
  have gc1 : w3.cell? ⟨qg, 1, none⟩ = some b := hbb.cell 1 _ rfl
  have gc2 : w3.cell? ⟨qg, 2, none⟩ = some c := hbb.cell 2 _ rfl
  clear hbb
  have hbb := BQi.out
  have ic0 : w3.cell? ⟨qi, 0, none⟩ = some (.int .u64 (P.wrd I 0)) := hbb.cell 0 _ rfl
  have ic1 : w3.cell? ⟨qi, 1, none⟩ = some (.int .u64 (P.wrd I 1)) := hbb.cell 1 _ rfl
  have ic2 : w3.cell? ⟨qi, 2, none⟩ = some (.int .u64 (P.wrd I 2)) := hbb.cell 2 _ rfl
  have ic3 : w3.cell? ⟨qi, 3, none⟩ = some (.int .u64 (P.wrd I 3)) := hbb.cell 3 _ rfl
  clear hbb
  have hbb := BQt.out
  have tc0 : w3.cell? ⟨qt, 0, none⟩ = some (.int .u64 (P.wrd To 0)) := hbb.cell 0 _ rfl
  have tc1 : w3.cell? ⟨qt, 1, none⟩ = some (.int .u64 (P.wrd To 1)) := hbb.cell 1 _ rfl
  have tc2 : w3.cell? ⟨qt, 2, none⟩ = some (.int .u64 (P.wrd To 2)) := hbb.cell 2 _ rfl
  have tc3 : w3.cell? ⟨qt, 3, none⟩ = some (.int .u64 (P.wrd To 3)) := hbb.cell 3 _ rfl
  clear hbb
  go_wp2_with fail
  refine (attract_any g I To p _ _ (HV.out.on W.out) (T.out.on W.out)).mono ?_
  rintro e u1 ⟨v1, m1, rfl, ho1, hm1, hb⟩
  obtain ⟨vo1, vk1, rfl, -⟩ := own_at ho1
  replace BQg := Lib.hid (BQg.out.keep (grown_of_below hb none))
  replace BQi := Lib.hid (BQi.out.keep (grown_of_below hb none))
  replace BQt := Lib.hid (BQt.out.keep (grown_of_below hb none))
  replace W := Lib.hid (W.out.trans (hb.mono W.out.size))
  replace BQd := Lib.hid (BQd.out.keep (grown_of_below hb none))
  replace GD := Lib.hid (GD.out.on hb)
  obtain ⟨s1, hs1⟩ : ∃ s, P.attOf g I p To = s := ⟨_, rfl⟩
  rw [hs1]
  have HS1 := Lib.hid hs1
  clear hb hs1 gc0 gc1 gc2 ic0 ic1 ic2 ic3 tc0 tc1 tc2 tc3
  clear ho1 hm1
  go_upto_region 6 with (fail)
  have bq : Box (u1.alloc (.cells #[.int .u64 (P.wrd s1 0), .int .u64 (P.wrd s1 1), .int .u64 (P.wrd s1 2), .int .u64 (P.wrd s1 3)] 28)) u1.heap.size 28 #[.int .u64 (P.wrd s1 0), .int .u64 (P.wrd s1 1), .int .u64 (P.wrd s1 2), .int .u64 (P.wrd s1 3)] := Box.new _ _ _
  have hgq := World.grownBy_alloc u1 (.cells #[.int .u64 (P.wrd s1 0), .int .u64 (P.wrd s1 1), .int .u64 (P.wrd s1 2), .int .u64 (P.wrd s1 3)] 28) none
  replace BQg := Lib.hid (BQg.out.keep hgq)
  replace BQi := Lib.hid (BQi.out.keep hgq)
  replace BQt := Lib.hid (BQt.out.keep hgq)
  replace W := Lib.hid (W.out.trans ((below_of_grown hgq).mono W.out.size))
  replace BQd := Lib.hid (BQd.out.keep hgq)
  replace GD := Lib.hid (GD.out.on (below_of_grown hgq))
  generalize (u1.alloc (.cells #[.int .u64 (P.wrd s1 0), .int .u64 (P.wrd s1 1), .int .u64 (P.wrd s1 2), .int .u64 (P.wrd s1 3)] 28)) = x1 at bq BQg BQi BQt W BQd GD ⊢
  generalize u1.heap.size = q1 at bq ⊢
  have BQ1 := Lib.hid bq
  clear bq hgq
  have hbb := BQd.out
  have gc0 : x1.cell? ⟨qd, 0, none⟩ = some (.slice da dn dka) := hbb.cell 0 _ rfl
  have gc1 : x1.cell? ⟨qd, 1, none⟩ = some (.slice db g.dual.prio.length dkb) := hbb.cell 1 _ rfl
  have gc2 : x1.cell? ⟨qd, 2, none⟩ = some (.slice dc g.dual.moves.length dkc) := hbb.cell 2 _ rfl
  clear hbb
  have hbb := BQi.out
  have ic0 : x1.cell? ⟨qi, 0, none⟩ = some (.int .u64 (P.wrd I 0)) := hbb.cell 0 _ rfl
  have ic1 : x1.cell? ⟨qi, 1, none⟩ = some (.int .u64 (P.wrd I 1)) := hbb.cell 1 _ rfl
  have ic2 : x1.cell? ⟨qi, 2, none⟩ = some (.int .u64 (P.wrd I 2)) := hbb.cell 2 _ rfl
  have ic3 : x1.cell? ⟨qi, 3, none⟩ = some (.int .u64 (P.wrd I 3)) := hbb.cell 3 _ rfl
  clear hbb
  have hbb := BQt.out
  have tc0 : x1.cell? ⟨qt, 0, none⟩ = some (.int .u64 (P.wrd To 0)) := hbb.cell 0 _ rfl
  have tc1 : x1.cell? ⟨qt, 1, none⟩ = some (.int .u64 (P.wrd To 1)) := hbb.cell 1 _ rfl
  have tc2 : x1.cell? ⟨qt, 2, none⟩ = some (.int .u64 (P.wrd To 2)) := hbb.cell 2 _ rfl
  have tc3 : x1.cell? ⟨qt, 3, none⟩ = some (.int .u64 (P.wrd To 3)) := hbb.cell 3 _ rfl
  clear hbb
  go_wp2_with fail
  refine (attract_any g.dual I To (1 - p) _ _ GD.out (T.out.on W.out)).mono ?_
  rintro e u2 ⟨v2, m2, rfl, ho2, hm2, hb⟩
  obtain ⟨vo2, vk2, rfl, -⟩ := own_at ho2
  replace BQg := Lib.hid (BQg.out.keep (grown_of_below hb none))
  replace BQi := Lib.hid (BQi.out.keep (grown_of_below hb none))
  replace BQt := Lib.hid (BQt.out.keep (grown_of_below hb none))
  replace W := Lib.hid (W.out.trans (hb.mono W.out.size))
  replace BQd := Lib.hid (BQd.out.keep (grown_of_below hb none))
  replace GD := Lib.hid (GD.out.on hb)
  replace BQ1 := Lib.hid (BQ1.out.keep (grown_of_below hb none))
  obtain ⟨s2, hs2⟩ : ∃ s, P.attOf g.dual I (1 - p) To = s := ⟨_, rfl⟩
  rw [hs2]
  have HS2 := Lib.hid hs2
  clear hb hs2 gc0 gc1 gc2 ic0 ic1 ic2 ic3 tc0 tc1 tc2 tc3
  clear ho2 hm2
  go_upto_region 7 with (fail)
  have bq : Box (u2.alloc (.cells #[.int .u64 (P.wrd s2 0), .int .u64 (P.wrd s2 1), .int .u64 (P.wrd s2 2), .int .u64 (P.wrd s2 3)] 28)) u2.heap.size 28 #[.int .u64 (P.wrd s2 0), .int .u64 (P.wrd s2 1), .int .u64 (P.wrd s2 2), .int .u64 (P.wrd s2 3)] := Box.new _ _ _
  have hgq := World.grownBy_alloc u2 (.cells #[.int .u64 (P.wrd s2 0), .int .u64 (P.wrd s2 1), .int .u64 (P.wrd s2 2), .int .u64 (P.wrd s2 3)] 28) none
  replace BQg := Lib.hid (BQg.out.keep hgq)
  replace BQi := Lib.hid (BQi.out.keep hgq)
  replace BQt := Lib.hid (BQt.out.keep hgq)
  replace W := Lib.hid (W.out.trans ((below_of_grown hgq).mono W.out.size))
  replace BQd := Lib.hid (BQd.out.keep hgq)
  replace GD := Lib.hid (GD.out.on (below_of_grown hgq))
  replace BQ1 := Lib.hid (BQ1.out.keep hgq)
  generalize (u2.alloc (.cells #[.int .u64 (P.wrd s2 0), .int .u64 (P.wrd s2 1), .int .u64 (P.wrd s2 2), .int .u64 (P.wrd s2 3)] 28)) = x2 at bq BQg BQi BQt W BQd GD BQ1 ⊢
  generalize u2.heap.size = q2 at bq ⊢
  have BQ2 := Lib.hid bq
  clear bq hgq
  obtain rfl : s2 = s1 := by rw [← HS1.out, ← HS2.out]; exact HEQ.out
  have hbb := BQ1.out
  have yc0 : x2.cell? ⟨q1, 0, none⟩ = some (.int .u64 (P.wrd s2 0)) := hbb.cell 0 _ rfl
  have yc1 : x2.cell? ⟨q1, 1, none⟩ = some (.int .u64 (P.wrd s2 1)) := hbb.cell 1 _ rfl
  have yc2 : x2.cell? ⟨q1, 2, none⟩ = some (.int .u64 (P.wrd s2 2)) := hbb.cell 2 _ rfl
  have yc3 : x2.cell? ⟨q1, 3, none⟩ = some (.int .u64 (P.wrd s2 3)) := hbb.cell 3 _ rfl
  clear hbb
  have hbb := BQ2.out
  have zc0 : x2.cell? ⟨q2, 0, none⟩ = some (.int .u64 (P.wrd s2 0)) := hbb.cell 0 _ rfl
  have zc1 : x2.cell? ⟨q2, 1, none⟩ = some (.int .u64 (P.wrd s2 1)) := hbb.cell 1 _ rfl
  have zc2 : x2.cell? ⟨q2, 2, none⟩ = some (.int .u64 (P.wrd s2 2)) := hbb.cell 2 _ rfl
  have zc3 : x2.cell? ⟨q2, 3, none⟩ = some (.int .u64 (P.wrd s2 3)) := hbb.cell 3 _ rfl
  clear hbb
  have es := fun w => (set_eq s2 s2 w).trans (by rw [decide_eq_true rfl])
  go_wp2_with fail
  exact bodyPost_ret (v := .bool true) (by simp [results, Tryd.results6, go_sem]) rfl ⟨rfl, W.out⟩

theorem duals_any (g : P.G) (I To : BitVec 256) (p : Int) (v : Value) (w : World) (hv : GameV w v g) (hT : Tab w) : Calls Tryd.prog 6 #[v, .agg #[.int .u64 (P.wrd I 0), .int .u64 (P.wrd I 1), .int .u64 (P.wrd I 2), .int .u64 (P.wrd I 3)], .int .i64 p, .agg #[.int .u64 (P.wrd To 0), .int .u64 (P.wrd To 1), .int .u64 (P.wrd To 2), .int .u64 (P.wrd To 3)]] w fun e w' => e = .returned (.bool true) ∧ Below w.heap.size w w' := by
  by_cases hd : g.dual.owner.length = 0
  · exact duals_none g I To p v w hv hT hd
  · by_cases h0 : p = 0
    · exact duals_0 g I To p v w hv hT hd h0
    · by_cases h1 : p = 1
      · exact duals_1 g I To p v w hv hT hd h1
      · exact duals_away g I To p v w hv hT hd h0 h1
end W
end Go.Proofs.YtpfponiidppldaaDoor
