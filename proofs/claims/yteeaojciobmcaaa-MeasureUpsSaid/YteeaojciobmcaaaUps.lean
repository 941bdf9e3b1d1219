/- MeasureUps: the walk. -/
import Derived.Test.YteeaojciobmcaaaShown
import Derived.Test.YteeaojciobmcaaaRUp
import Derived.Test.YteeaojciobmcaaaUpX
import Derived.Test.YteeaojciobmcaaaRCopy
import Derived.Test.YteeaojciobmcaaaSameGame
import Derived.Test.YteeaojciobmcaaaFrame
import Derived.Deep.Cut
import Derived.Lib.Hide
namespace Go.Proofs.Yteeaojciobmcaaa
open Go.RowKit
namespace W

theorem tups_cap {g : P.G} (h : g.prio.length ≤ 17592186043904) : ∀ k, k < 4 → ct g.tups k ≤ 17592186043904 := by
  intro k hk
  rw [tups_ct g k hk]
  have := Nat.le_trans (List.count_le_length (a := (2 * (k : Int) + 1)) (l := g.prio)) h
  omega
set_option maxRecDepth 100000 in
set_option maxHeartbeats 1000000 in
theorem ups_any (g : P.G) (t : P.Tup) (p : Int) (v : Value) (w : World) (hv : GameV w v g) (ht : Fr.In64 t) (hp : -9223372036854775808 ≤ p ∧ p < 9223372036854775808) : Calls Try.prog 4 #[v, .int .i64 p, .agg (tc t)] w fun e w' => e = .returned (.bool true) ∧ Below w.heap.size w w' := by
  have HFI := Lib.hid hv.fits
  have HV := Lib.hid hv
  have HT := Lib.hid ht
  have HP := Lib.hid hp
  have HPF := Lib.hid (tups_cap hv.fits.2.1)
  obtain ⟨a, b, c, rfl, -⟩ := hv
  clear ht hp
  unfold tc
  go_enter Try.func4, Try.ntmps4
  go_wp2_with fail
  have bx0 : Box ((w.alloc (.cells #[a, b, c] 33)).alloc (.cells #[.bool t.top, .int .i64 t.a, .int .i64 t.b, .int .i64 t.c, .int .i64 t.d] 24)) (w.heap.size) 33 #[a, b, c] := Box.alloc (Box.new w 33 #[a, b, c]) (.cells #[.bool t.top, .int .i64 t.a, .int .i64 t.b, .int .i64 t.c, .int .i64 t.d] 24)
  have bx1 : Box ((w.alloc (.cells #[a, b, c] 33)).alloc (.cells #[.bool t.top, .int .i64 t.a, .int .i64 t.b, .int .i64 t.c, .int .i64 t.d] 24)) (w.heap.size + 1) 24 #[.bool t.top, .int .i64 t.a, .int .i64 t.b, .int .i64 t.c, .int .i64 t.d] := by
    have := Box.new (w.alloc (.cells #[a, b, c] 33)) 24 #[.bool t.top, .int .i64 t.a, .int .i64 t.b, .int .i64 t.c, .int .i64 t.d]
    simpa using this
  have hbq : Below w.heap.size w ((w.alloc (.cells #[a, b, c] 33)).alloc (.cells #[.bool t.top, .int .i64 t.a, .int .i64 t.b, .int .i64 t.c, .int .i64 t.d] 24)) := ((Below.refl _ w).alloc (Nat.le_refl _) _).alloc (by simp) _
  have lt0 : w.heap.size < w.heap.size + 1 := Nat.lt_succ_self _
  have hle0 : w.heap.size ≤ w.heap.size := Nat.le_refl _
  generalize ((w.alloc (.cells #[a, b, c] 33)).alloc (.cells #[.bool t.top, .int .i64 t.a, .int .i64 t.b, .int .i64 t.c, .int .i64 t.d] 24)) = w0 at bx0 bx1 hbq  ⊢
  have BQg := Lib.hid bx0
  have BQt := Lib.hid bx1
  have W := Lib.hid hbq
  have LTgt := Lib.hid lt0
  have LEg := Lib.hid hle0
  clear hbq hle0 bx0 bx1 lt0
  generalize w.heap.size + 1 = qt at BQt LTgt ⊢
  obtain ⟨qg, hqg⟩ : ∃ qg, w.heap.size = qg := ⟨_, rfl⟩
  rw [hqg] at BQg LTgt ⊢
  have LEg : Hid (w.heap.size ≤ qg) := Lib.hid (by omega)
  clear hqg
  refine (shown_any w0).mono ?_
  rintro e w1 ⟨rfl, hb⟩
  replace BQg := Lib.hid (BQg.out.keep (grown_of_below hb none))
  replace BQt := Lib.hid (BQt.out.keep (grown_of_below hb none))
  replace W := Lib.hid (W.out.trans (hb.mono W.out.size))
  clear hb
  have hbb := BQg.out
  have gc0 : w1.cell? ⟨qg, 0, none⟩ = some a := hbb.cell 0 _ rfl
  have gc1 : w1.cell? ⟨qg, 1, none⟩ = some b := hbb.cell 1 _ rfl
  have gc2 : w1.cell? ⟨qg, 2, none⟩ = some c := hbb.cell 2 _ rfl
  clear hbb
  go_wp2_with fail
  clear gc0 gc1 gc2
  refine (rcopy_any g _ _ (HV.out.on W.out)).mono ?_
  rintro e w2 ⟨oav, obv, ocv, oL, rfl, ho, hb⟩
  have hgo := ho.game HFI.out
  obtain ⟨oa, oka, ob_, okb, oc_, okc, rfl, rfl, rfl⟩ := ho.forms
  replace BQg := Lib.hid (BQg.out.keep (grown_of_below hb none))
  replace BQt := Lib.hid (BQt.out.keep (grown_of_below hb none))
  replace W := Lib.hid (W.out.trans (hb.mono W.out.size))
  have GO := Lib.hid hgo
  clear hb ho hgo
  go_upto_region 3 with (fail)
  have bq : Box (w2.alloc (.cells #[.slice oa g.owner.length oka, .slice ob_ g.prio.length okb, .slice oc_ g.moves.length okc] 33)) w2.heap.size 33 #[.slice oa g.owner.length oka, .slice ob_ g.prio.length okb, .slice oc_ g.moves.length okc] := Box.new _ _ _
  have hgq := World.grownBy_alloc w2 (.cells #[.slice oa g.owner.length oka, .slice ob_ g.prio.length okb, .slice oc_ g.moves.length okc] 33) none
  replace BQg := Lib.hid (BQg.out.keep hgq)
  replace BQt := Lib.hid (BQt.out.keep hgq)
  replace W := Lib.hid (W.out.trans ((below_of_grown hgq).mono W.out.size))
  replace GO := Lib.hid (GO.out.on (below_of_grown hgq))
  generalize (w2.alloc (.cells #[.slice oa g.owner.length oka, .slice ob_ g.prio.length okb, .slice oc_ g.moves.length okc] 33)) = w3 at bq BQg BQt W GO ⊢
  generalize w2.heap.size = qo at bq ⊢
  have BQo := Lib.hid bq
  clear bq hgq
  have hbb := BQo.out
  have oc0 : w3.cell? ⟨qo, 0, none⟩ = some (.slice oa g.owner.length oka) := hbb.cell 0 _ rfl
  have oc1 : w3.cell? ⟨qo, 1, none⟩ = some (.slice ob_ g.prio.length okb) := hbb.cell 1 _ rfl
  have oc2 : w3.cell? ⟨qo, 2, none⟩ = some (.slice oc_ g.moves.length okc) := hbb.cell 2 _ rfl
  clear hbb
  have hbb := BQt.out
  have tc0 : w3.cell? ⟨qt, 0, none⟩ = some (.bool t.top) := hbb.cell 0 _ rfl
  have tc1 : w3.cell? ⟨qt, 1, none⟩ = some (.int .i64 t.a) := hbb.cell 1 _ rfl
  have tc2 : w3.cell? ⟨qt, 2, none⟩ = some (.int .i64 t.b) := hbb.cell 2 _ rfl
  have tc3 : w3.cell? ⟨qt, 3, none⟩ = some (.int .i64 t.c) := hbb.cell 3 _ rfl
  have tc4 : w3.cell? ⟨qt, 4, none⟩ = some (.int .i64 t.d) := hbb.cell 4 _ rfl
  clear hbb
  go_wp2_with fail
  clear oc0 oc1 oc2 tc0 tc1 tc2 tc3 tc4
  refine (upx_any g t p _ w3 GO.out HP.out (fun k hk => (HT.out k hk).1) HPF.out).mono ?_
  rintro e w4 ⟨rfl, hb⟩
  replace BQg := Lib.hid (BQg.out.keep (grown_of_below hb none))
  replace BQt := Lib.hid (BQt.out.keep (grown_of_below hb none))
  replace W := Lib.hid (W.out.trans (hb.mono W.out.size))
  replace GO := Lib.hid (GO.out.on hb)
  replace BQo := Lib.hid (BQo.out.keep (grown_of_below hb none))
  clear hb
  obtain ⟨u, hu⟩ : ∃ u, P.Tup.up g.tups p t = u := ⟨_, rfl⟩
  rw [hu]
  have HU := Lib.hid hu
  clear hu
  unfold tc
  go_upto_region 4 with (fail)
  have bq : Box (w4.alloc (.cells #[.bool u.top, .int .i64 u.a, .int .i64 u.b, .int .i64 u.c, .int .i64 u.d] 26)) w4.heap.size 26 #[.bool u.top, .int .i64 u.a, .int .i64 u.b, .int .i64 u.c, .int .i64 u.d] := Box.new _ _ _
  have hgq := World.grownBy_alloc w4 (.cells #[.bool u.top, .int .i64 u.a, .int .i64 u.b, .int .i64 u.c, .int .i64 u.d] 26) none
  replace BQg := Lib.hid (BQg.out.keep hgq)
  replace BQt := Lib.hid (BQt.out.keep hgq)
  replace W := Lib.hid (W.out.trans ((below_of_grown hgq).mono W.out.size))
  replace GO := Lib.hid (GO.out.on (below_of_grown hgq))
  replace BQo := Lib.hid (BQo.out.keep hgq)
  generalize (w4.alloc (.cells #[.bool u.top, .int .i64 u.a, .int .i64 u.b, .int .i64 u.c, .int .i64 u.d] 26)) = w5 at bq BQg BQt W GO BQo ⊢
  generalize w4.heap.size = qx at bq ⊢
  have BQx := Lib.hid bq
  clear bq hgq
  have hbb := BQg.out
  have gc0 : w5.cell? ⟨qg, 0, none⟩ = some a := hbb.cell 0 _ rfl
  have gc1 : w5.cell? ⟨qg, 1, none⟩ = some b := hbb.cell 1 _ rfl
  have gc2 : w5.cell? ⟨qg, 2, none⟩ = some c := hbb.cell 2 _ rfl
  clear hbb
  have hbb := BQt.out
  have tc0 : w5.cell? ⟨qt, 0, none⟩ = some (.bool t.top) := hbb.cell 0 _ rfl
  have tc1 : w5.cell? ⟨qt, 1, none⟩ = some (.int .i64 t.a) := hbb.cell 1 _ rfl
  have tc2 : w5.cell? ⟨qt, 2, none⟩ = some (.int .i64 t.b) := hbb.cell 2 _ rfl
  have tc3 : w5.cell? ⟨qt, 3, none⟩ = some (.int .i64 t.c) := hbb.cell 3 _ rfl
  have tc4 : w5.cell? ⟨qt, 4, none⟩ = some (.int .i64 t.d) := hbb.cell 4 _ rfl
  clear hbb
  go_wp2_with fail
  clear gc0 gc1 gc2 tc0 tc1 tc2 tc3 tc4
  refine (rup_any g t p _ w5 (HV.out.on W.out) ⟨HP.out.1, by have := HP.out.2; omega⟩ (fun k hk => (HT.out k hk).1)).mono ?_
  rintro e w6 ⟨rfl, hb⟩
  replace BQg := Lib.hid (BQg.out.keep (grown_of_below hb none))
  replace BQt := Lib.hid (BQt.out.keep (grown_of_below hb none))
  replace W := Lib.hid (W.out.trans (hb.mono W.out.size))
  replace GO := Lib.hid (GO.out.on hb)
  replace BQo := Lib.hid (BQo.out.keep (grown_of_below hb none))
  replace BQx := Lib.hid (BQx.out.keep (grown_of_below hb none))
  clear hb
  rw [HU.out]
  unfold tc
  go_upto_region 5 with (fail)
  have bq : Box (w6.alloc (.cells #[.bool u.top, .int .i64 u.a, .int .i64 u.b, .int .i64 u.c, .int .i64 u.d] 24)) w6.heap.size 24 #[.bool u.top, .int .i64 u.a, .int .i64 u.b, .int .i64 u.c, .int .i64 u.d] := Box.new _ _ _
  have hgq := World.grownBy_alloc w6 (.cells #[.bool u.top, .int .i64 u.a, .int .i64 u.b, .int .i64 u.c, .int .i64 u.d] 24) none
  replace BQg := Lib.hid (BQg.out.keep hgq)
  replace BQt := Lib.hid (BQt.out.keep hgq)
  replace W := Lib.hid (W.out.trans ((below_of_grown hgq).mono W.out.size))
  replace GO := Lib.hid (GO.out.on (below_of_grown hgq))
  replace BQo := Lib.hid (BQo.out.keep hgq)
  replace BQx := Lib.hid (BQx.out.keep hgq)
  generalize (w6.alloc (.cells #[.bool u.top, .int .i64 u.a, .int .i64 u.b, .int .i64 u.c, .int .i64 u.d] 24)) = w7 at bq BQg BQt W GO BQo BQx ⊢
  generalize w6.heap.size = qy at bq ⊢
  have BQy := Lib.hid bq
  clear bq hgq
  have hbb := BQg.out
  have gc0 : w7.cell? ⟨qg, 0, none⟩ = some a := hbb.cell 0 _ rfl
  have gc1 : w7.cell? ⟨qg, 1, none⟩ = some b := hbb.cell 1 _ rfl
  have gc2 : w7.cell? ⟨qg, 2, none⟩ = some c := hbb.cell 2 _ rfl
  clear hbb
  have hbb := BQo.out
  have oc0 : w7.cell? ⟨qo, 0, none⟩ = some (.slice oa g.owner.length oka) := hbb.cell 0 _ rfl
  have oc1 : w7.cell? ⟨qo, 1, none⟩ = some (.slice ob_ g.prio.length okb) := hbb.cell 1 _ rfl
  have oc2 : w7.cell? ⟨qo, 2, none⟩ = some (.slice oc_ g.moves.length okc) := hbb.cell 2 _ rfl
  clear hbb
  go_wp2_with fail
  clear gc0 gc1 gc2 oc0 oc1 oc2
  refine (samegame_any g g _ _ _ GO.out (HV.out.on W.out)).mono ?_
  rintro e w8 ⟨rfl, hb⟩
  rw [decide_eq_true rfl]
  replace BQx := Lib.hid (BQx.out.keep (grown_of_below hb none))
  replace BQy := Lib.hid (BQy.out.keep (grown_of_below hb none))
  replace W := Lib.hid (W.out.trans (hb.mono W.out.size))
  clear hb
  have hbb := BQx.out
  have xc0 : w8.cell? ⟨qx, 0, none⟩ = some (.bool u.top) := hbb.cell 0 _ rfl
  have xc1 : w8.cell? ⟨qx, 1, none⟩ = some (.int .i64 u.a) := hbb.cell 1 _ rfl
  have xc2 : w8.cell? ⟨qx, 2, none⟩ = some (.int .i64 u.b) := hbb.cell 2 _ rfl
  have xc3 : w8.cell? ⟨qx, 3, none⟩ = some (.int .i64 u.c) := hbb.cell 3 _ rfl
  have xc4 : w8.cell? ⟨qx, 4, none⟩ = some (.int .i64 u.d) := hbb.cell 4 _ rfl
  clear hbb
  have hbb := BQy.out
  have yc0 : w8.cell? ⟨qy, 0, none⟩ = some (.bool u.top) := hbb.cell 0 _ rfl
  have yc1 : w8.cell? ⟨qy, 1, none⟩ = some (.int .i64 u.a) := hbb.cell 1 _ rfl
  have yc2 : w8.cell? ⟨qy, 2, none⟩ = some (.int .i64 u.b) := hbb.cell 2 _ rfl
  have yc3 : w8.cell? ⟨qy, 3, none⟩ = some (.int .i64 u.c) := hbb.cell 3 _ rfl
  have yc4 : w8.cell? ⟨qy, 4, none⟩ = some (.int .i64 u.d) := hbb.cell 4 _ rfl
  clear hbb
  have he : ∀ w, (binOp .eql 26 (.agg #[.bool u.top, .int .i64 u.a, .int .i64 u.b, .int .i64 u.c, .int .i64 u.d]) (.agg #[.bool u.top, .int .i64 u.a, .int .i64 u.b, .int .i64 u.c, .int .i64 u.d])).run Try.prog w = .ok (.bool true) w := fun w => (tup_eql u u w).trans (by rw [decide_eq_true rfl])
  go_wp2_with fail
  exact bodyPost_ret (v := .bool true) (by simp [results, Try.results4, go_sem]) rfl ⟨rfl, W.out⟩
end W
end Go.Proofs.Yteeaojciobmcaaa
