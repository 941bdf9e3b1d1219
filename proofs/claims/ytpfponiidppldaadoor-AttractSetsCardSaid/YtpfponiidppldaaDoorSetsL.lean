/- AttractSets: the walk. -/
import Derived.Test.YtpfponiidppldaaDoorShown
import Derived.Test.YtpfponiidppldaaDoorRFor
import Derived.Test.YtpfponiidppldaaDoorRCopy
import Derived.Deep.Cut
namespace Go.Proofs.YtpfponiidppldaaDoor
open Go.RowKit Go.Sort
namespace W

set_option maxRecDepth 100000 in
set_option maxHeartbeats 2000000 in
theorem sets_wrong (g : P.G) (I To : BitVec 256) (p : Int) (v : Value) (w : World) (hv : GameV w v g) (hT : Tab w) (hok : g.ok = false) : Calls Tryd.prog 3 #[v, .agg #[.int .u64 (P.wrd I 0), .int .u64 (P.wrd I 1), .int .u64 (P.wrd I 2), .int .u64 (P.wrd I 3)], .int .i64 p, .agg #[.int .u64 (P.wrd To 0), .int .u64 (P.wrd To 1), .int .u64 (P.wrd To 2), .int .u64 (P.wrd To 3)]] w fun e w' => e = .returned (.bool true) ∧ Below w.heap.size w w' := by
  have HNO : Hid (¬ (g.ok = true ∧ (p = 0 ∨ p = 1))) := Lib.hid (by rw [hok]; simp)
  have HFI := Lib.hid hv.fits
  have HV := Lib.hid hv
  have HOK := Lib.hid hok
  obtain ⟨a, b, c, rfl, -⟩ := hv
  clear hok
  have T := Lib.hid hT
  clear hT
  go_enter Tryd.func3, Tryd.ntmps3
  go_wp2_with fail
  have bx0 : Box (((w.alloc (.cells #[a, b, c] 25)).alloc (.cells #[.int .u64 (P.wrd I 0), .int .u64 (P.wrd I 1), .int .u64 (P.wrd I 2), .int .u64 (P.wrd I 3)] 28)).alloc (.cells #[.int .u64 (P.wrd To 0), .int .u64 (P.wrd To 1), .int .u64 (P.wrd To 2), .int .u64 (P.wrd To 3)] 28)) (w.heap.size) 25 #[a, b, c] := Box.alloc (Box.alloc (Box.new w 25 #[a, b, c]) (.cells #[.int .u64 (P.wrd I 0), .int .u64 (P.wrd I 1), .int .u64 (P.wrd I 2), .int .u64 (P.wrd I 3)] 28)) (.cells #[.int .u64 (P.wrd To 0), .int .u64 (P.wrd To 1), .int .u64 (P.wrd To 2), .int .u64 (P.wrd To 3)] 28)
  have bx1 : Box (((w.alloc (.cells #[a, b, c] 25)).alloc (.cells #[.int .u64 (P.wrd I 0), .int .u64 (P.wrd I 1), .int .u64 (P.wrd I 2), .int .u64 (P.wrd I 3)] 28)).alloc (.cells #[.int .u64 (P.wrd To 0), .int .u64 (P.wrd To 1), .int .u64 (P.wrd To 2), .int .u64 (P.wrd To 3)] 28)) (w.heap.size + 1) 28 #[.int .u64 (P.wrd I 0), .int .u64 (P.wrd I 1), .int .u64 (P.wrd I 2), .int .u64 (P.wrd I 3)] := by
    have := Box.alloc (Box.new (w.alloc (.cells #[a, b, c] 25)) 28 #[.int .u64 (P.wrd I 0), .int .u64 (P.wrd I 1), .int .u64 (P.wrd I 2), .int .u64 (P.wrd I 3)]) (.cells #[.int .u64 (P.wrd To 0), .int .u64 (P.wrd To 1), .int .u64 (P.wrd To 2), .int .u64 (P.wrd To 3)] 28)
    simpa using this
  have bx2 : Box (((w.alloc (.cells #[a, b, c] 25)).alloc (.cells #[.int .u64 (P.wrd I 0), .int .u64 (P.wrd I 1), .int .u64 (P.wrd I 2), .int .u64 (P.wrd I 3)] 28)).alloc (.cells #[.int .u64 (P.wrd To 0), .int .u64 (P.wrd To 1), .int .u64 (P.wrd To 2), .int .u64 (P.wrd To 3)] 28)) (w.heap.size + 1 + 1) 28 #[.int .u64 (P.wrd To 0), .int .u64 (P.wrd To 1), .int .u64 (P.wrd To 2), .int .u64 (P.wrd To 3)] := by
    have := Box.new ((w.alloc (.cells #[a, b, c] 25)).alloc (.cells #[.int .u64 (P.wrd I 0), .int .u64 (P.wrd I 1), .int .u64 (P.wrd I 2), .int .u64 (P.wrd I 3)] 28)) 28 #[.int .u64 (P.wrd To 0), .int .u64 (P.wrd To 1), .int .u64 (P.wrd To 2), .int .u64 (P.wrd To 3)]
    simpa using this
  have hbq : Below w.heap.size w (((w.alloc (.cells #[a, b, c] 25)).alloc (.cells #[.int .u64 (P.wrd I 0), .int .u64 (P.wrd I 1), .int .u64 (P.wrd I 2), .int .u64 (P.wrd I 3)] 28)).alloc (.cells #[.int .u64 (P.wrd To 0), .int .u64 (P.wrd To 1), .int .u64 (P.wrd To 2), .int .u64 (P.wrd To 3)] 28)) := (((Below.refl _ w).alloc (Nat.le_refl _) _).alloc (by simp) _).alloc (by simp; omega) _
  have lt0 : w.heap.size < w.heap.size + 1 := Nat.lt_succ_self _
  have lt1 : w.heap.size + 1 < w.heap.size + 1 + 1 := Nat.lt_succ_self _
  have hle0 : w.heap.size ≤ w.heap.size := Nat.le_refl _
  generalize (((w.alloc (.cells #[a, b, c] 25)).alloc (.cells #[.int .u64 (P.wrd I 0), .int .u64 (P.wrd I 1), .int .u64 (P.wrd I 2), .int .u64 (P.wrd I 3)] 28)).alloc (.cells #[.int .u64 (P.wrd To 0), .int .u64 (P.wrd To 1), .int .u64 (P.wrd To 2), .int .u64 (P.wrd To 3)] 28)) = w0 at bx0 bx1 bx2 hbq  ⊢
  have BQg := Lib.hid bx0
  have BQi := Lib.hid bx1
  have BQt := Lib.hid bx2
  have W := Lib.hid hbq
  have LTgi := Lib.hid lt0
  have LTit := Lib.hid lt1
  have LEg := Lib.hid hle0
  clear hbq hle0 bx0 bx1 bx2 lt0 lt1
  generalize w.heap.size + 1 + 1 = qt at BQt LTit ⊢
  generalize w.heap.size + 1 = qi at BQi LTit LTgi ⊢
  obtain ⟨qg, hqg⟩ : ∃ qg, w.heap.size = qg := ⟨_, rfl⟩
  rw [hqg] at BQg LTgi ⊢
  have LEg : Hid (w.heap.size ≤ qg) := Lib.hid (by omega)
  clear hqg
  refine (shown_any _ (T.out.on W.out)).mono ?_
  rintro e w1 ⟨rfl, hb⟩
  replace BQg := Lib.hid (BQg.out.keep (grown_of_below hb none))
  replace BQi := Lib.hid (BQi.out.keep (grown_of_below hb none))
  replace BQt := Lib.hid (BQt.out.keep (grown_of_below hb none))
  replace W := Lib.hid (W.out.trans (hb.mono W.out.size))
  clear hb
  have hbb := BQg.out
  have gc0 : w1.cell? ⟨qg, 0, none⟩ = some a := hbb.cell 0 _ rfl
  have gc1 : w1.cell? ⟨qg, 1, none⟩ = some b := hbb.cell 1 _ rfl
  have gc2 : w1.cell? ⟨qg, 2, none⟩ = some c := hbb.cell 2 _ rfl
  clear hbb
  go_wp2_with fail
  refine (is_any g _ _ (HV.out.on W.out)).mono ?_
  rintro e w2 ⟨rfl, hb⟩
  replace BQg := Lib.hid (BQg.out.keep (grown_of_below hb none))
  replace BQi := Lib.hid (BQi.out.keep (grown_of_below hb none))
  replace BQt := Lib.hid (BQt.out.keep (grown_of_below hb none))
  replace W := Lib.hid (W.out.trans (hb.mono W.out.size))
  rw [HOK.out]
  clear hb gc0 gc1 gc2
  have hbb := BQg.out
  have gc0 : w2.cell? ⟨qg, 0, none⟩ = some a := hbb.cell 0 _ rfl
  have gc1 : w2.cell? ⟨qg, 1, none⟩ = some b := hbb.cell 1 _ rfl
  have gc2 : w2.cell? ⟨qg, 2, none⟩ = some c := hbb.cell 2 _ rfl
  clear hbb
  go_wp2_with fail
  refine (rcopy_any g _ _ (HV.out.on W.out)).mono ?_
  rintro e w3 ⟨oav, obv, ocv, oL, rfl, ho, hb⟩
  have hgo := ho.game HFI.out
  obtain ⟨oa, oka, ob_, okb, oc_, okc, rfl, rfl, rfl⟩ := ho.forms
  replace BQg := Lib.hid (BQg.out.keep (grown_of_below hb none))
  replace BQi := Lib.hid (BQi.out.keep (grown_of_below hb none))
  replace BQt := Lib.hid (BQt.out.keep (grown_of_below hb none))
  replace W := Lib.hid (W.out.trans (hb.mono W.out.size))
  have GO := Lib.hid hgo
  clear hb ho hgo gc0 gc1 gc2
  go_upto_region 4 with (fail)
  have bq : Box (w3.alloc (.cells #[.slice oa g.owner.length oka, .slice ob_ g.prio.length okb, .slice oc_ g.moves.length okc] 25)) w3.heap.size 25 #[.slice oa g.owner.length oka, .slice ob_ g.prio.length okb, .slice oc_ g.moves.length okc] := Box.new _ _ _
  have hgq := World.grownBy_alloc w3 (.cells #[.slice oa g.owner.length oka, .slice ob_ g.prio.length okb, .slice oc_ g.moves.length okc] 25) none
  replace BQg := Lib.hid (BQg.out.keep hgq)
  replace BQi := Lib.hid (BQi.out.keep hgq)
  replace BQt := Lib.hid (BQt.out.keep hgq)
  replace W := Lib.hid (W.out.trans ((below_of_grown hgq).mono W.out.size))
  replace GO := Lib.hid (GO.out.on (below_of_grown hgq))
  generalize (w3.alloc (.cells #[.slice oa g.owner.length oka, .slice ob_ g.prio.length okb, .slice oc_ g.moves.length okc] 25)) = w4 at bq BQg BQi BQt W GO ⊢
  generalize w3.heap.size = qo at bq ⊢
  have BQo := Lib.hid bq
  clear bq hgq
  have HBg := BQg
  have HBi := BQi
  have HBt := BQt
  have HBo := BQo
  have HGO := GO
  have HW4 := W
  clear BQg BQi BQt BQo GO W
  go_wp2_with fail
  go_loopw [12] (fun iv wr => ∃ i : Nat, i ≤ 2 ∧ iv = .int .i64 (i : Int) ∧ Below w4.heap.size w4 wr) (fun iv _ => 2 - (intOf iv).toNat)
  case atStart => exact ⟨0, by omega, rfl, Below.refl _ _⟩
  case round =>
    obtain ⟨i, hi, rfl, hbw⟩ := hrel
    have W4 := Lib.hid hbw
    have BQg := Lib.hid (HBg.out.keep (grown_of_below hbw none))
    have BQi := Lib.hid (HBi.out.keep (grown_of_below hbw none))
    have BQt := Lib.hid (HBt.out.keep (grown_of_below hbw none))
    have BQo := Lib.hid (HBo.out.keep (grown_of_below hbw none))
    have GO := Lib.hid (HGO.out.on hbw)
    have W := Lib.hid (HW4.out.trans (hbw.mono HW4.out.size))
    clear hbw
    have hi0 : (0 : Int) ≤ (i : Int) := Int.natCast_nonneg _
    by_cases hlt : i < 2
    · have fi : decide ((i : Int) < 2) = true := decide_eq_true (by omega)
      go_upto_region 7 with (fail)
      have hbb := BQo.out
      have gc0 : wr.cell? ⟨qo, 0, none⟩ = some (.slice oa g.owner.length oka) := hbb.cell 0 _ rfl
      have gc1 : wr.cell? ⟨qo, 1, none⟩ = some (.slice ob_ g.prio.length okb) := hbb.cell 1 _ rfl
      have gc2 : wr.cell? ⟨qo, 2, none⟩ = some (.slice oc_ g.moves.length okc) := hbb.cell 2 _ rfl
      clear hbb
      have hbb := BQi.out
      have ic0 : wr.cell? ⟨qi, 0, none⟩ = some (.int .u64 (P.wrd I 0)) := hbb.cell 0 _ rfl
      have ic1 : wr.cell? ⟨qi, 1, none⟩ = some (.int .u64 (P.wrd I 1)) := hbb.cell 1 _ rfl
      have ic2 : wr.cell? ⟨qi, 2, none⟩ = some (.int .u64 (P.wrd I 2)) := hbb.cell 2 _ rfl
      have ic3 : wr.cell? ⟨qi, 3, none⟩ = some (.int .u64 (P.wrd I 3)) := hbb.cell 3 _ rfl
      clear hbb
      have hbb := BQt.out
      have tc0 : wr.cell? ⟨qt, 0, none⟩ = some (.int .u64 (P.wrd To 0)) := hbb.cell 0 _ rfl
      have tc1 : wr.cell? ⟨qt, 1, none⟩ = some (.int .u64 (P.wrd To 1)) := hbb.cell 1 _ rfl
      have tc2 : wr.cell? ⟨qt, 2, none⟩ = some (.int .u64 (P.wrd To 2)) := hbb.cell 2 _ rfl
      have tc3 : wr.cell? ⟨qt, 3, none⟩ = some (.int .u64 (P.wrd To 3)) := hbb.cell 3 _ rfl
      clear hbb
      go_wp2_with fail
      refine (attract_any g I To p _ _ GO.out (T.out.on W.out)).mono ?_
      rintro e u1 ⟨v1, m1, rfl, ho1, hm1, hb⟩
      obtain ⟨vo1, vk1, rfl, -⟩ := own_at ho1
      replace BQg := Lib.hid (BQg.out.keep (grown_of_below hb none))
      replace BQi := Lib.hid (BQi.out.keep (grown_of_below hb none))
      replace BQt := Lib.hid (BQt.out.keep (grown_of_below hb none))
      replace BQo := Lib.hid (BQo.out.keep (grown_of_below hb none))
      replace GO := Lib.hid (GO.out.on hb)
      replace W := Lib.hid (W.out.trans (hb.mono W.out.size))
      replace W4 := Lib.hid (W4.out.trans (hb.mono W4.out.size))
      obtain ⟨s1, hs1⟩ : ∃ s, P.attOf g I p To = s := ⟨_, rfl⟩
      rw [hs1]
      have HS1 := Lib.hid hs1
      clear hb hs1 gc0 gc1 gc2 ic0 ic1 ic2 ic3 tc0 tc1 tc2 tc3
      have HO1 := Lib.hid ho1
      have HM1 := Lib.hid hm1
      clear ho1 hm1
      go_upto_region 8 with (fail)
      have bq : Box (u1.alloc (.cells #[.int .u64 (P.wrd s1 0), .int .u64 (P.wrd s1 1), .int .u64 (P.wrd s1 2), .int .u64 (P.wrd s1 3)] 28)) u1.heap.size 28 #[.int .u64 (P.wrd s1 0), .int .u64 (P.wrd s1 1), .int .u64 (P.wrd s1 2), .int .u64 (P.wrd s1 3)] := Box.new _ _ _
      have hgq := World.grownBy_alloc u1 (.cells #[.int .u64 (P.wrd s1 0), .int .u64 (P.wrd s1 1), .int .u64 (P.wrd s1 2), .int .u64 (P.wrd s1 3)] 28) none
      replace BQg := Lib.hid (BQg.out.keep hgq)
      replace BQi := Lib.hid (BQi.out.keep hgq)
      replace BQt := Lib.hid (BQt.out.keep hgq)
      replace BQo := Lib.hid (BQo.out.keep hgq)
      replace GO := Lib.hid (GO.out.on (below_of_grown hgq))
      replace W := Lib.hid (W.out.trans ((below_of_grown hgq).mono W.out.size))
      replace W4 := Lib.hid (W4.out.trans ((below_of_grown hgq).mono W4.out.size))
      generalize (u1.alloc (.cells #[.int .u64 (P.wrd s1 0), .int .u64 (P.wrd s1 1), .int .u64 (P.wrd s1 2), .int .u64 (P.wrd s1 3)] 28)) = x1 at bq BQg BQi BQt BQo GO W W4 ⊢
      generalize u1.heap.size = q1 at bq ⊢
      have BQ1 := Lib.hid bq
      clear bq hgq
      have hz : s1 = 0#256 := by rw [← HS1.out]; unfold P.attOf; rw [if_neg HNO.out]
      have hm : m1 = [] := by have h := HM1.out; rw [if_neg HNO.out] at h; exact h
      have eqa := fun w => set_neq s1 0#256 w
      rw [decide_eq_true hz, zero_set] at eqa
      subst hm
      clear hz
      have hbb := BQ1.out
      have yc0 : x1.cell? ⟨q1, 0, none⟩ = some (.int .u64 (P.wrd s1 0)) := hbb.cell 0 _ rfl
      have yc1 : x1.cell? ⟨q1, 1, none⟩ = some (.int .u64 (P.wrd s1 1)) := hbb.cell 1 _ rfl
      have yc2 : x1.cell? ⟨q1, 2, none⟩ = some (.int .u64 (P.wrd s1 2)) := hbb.cell 2 _ rfl
      have yc3 : x1.cell? ⟨q1, 3, none⟩ = some (.int .u64 (P.wrd s1 3)) := hbb.cell 3 _ rfl
      clear hbb
      go_wp2_with fail
      go_roundw
      case rel => exact ⟨i + 1, by omega, by go_num, W4.out⟩
      case measure => simp [intOf]; omega
    · have fi : decide ((i : Int) < 2) = false := decide_eq_false (by omega)
      have hbb := BQg.out
      have gc0 : wr.cell? ⟨qg, 0, none⟩ = some a := hbb.cell 0 _ rfl
      have gc1 : wr.cell? ⟨qg, 1, none⟩ = some b := hbb.cell 1 _ rfl
      have gc2 : wr.cell? ⟨qg, 2, none⟩ = some c := hbb.cell 2 _ rfl
      clear hbb
      have hbb := BQo.out
      have oc0 : wr.cell? ⟨qo, 0, none⟩ = some (.slice oa g.owner.length oka) := hbb.cell 0 _ rfl
      have oc1 : wr.cell? ⟨qo, 1, none⟩ = some (.slice ob_ g.prio.length okb) := hbb.cell 1 _ rfl
      have oc2 : wr.cell? ⟨qo, 2, none⟩ = some (.slice oc_ g.moves.length okc) := hbb.cell 2 _ rfl
      clear hbb
      go_wp2_with fail
      refine (samegame_any g g _ _ _ GO.out (HV.out.on W.out)).mono ?_
      rintro e w9 ⟨rfl, hb⟩
      rw [decide_eq_true rfl]
      replace W := Lib.hid (W.out.trans (hb.mono W.out.size))
      clear hb
      go_wp2_with fail
      exact bodyPost_ret (v := .bool true) (by simp [results, Tryd.results3, go_sem]) rfl ⟨rfl, W.out⟩

set_option maxRecDepth 100000 in
set_option maxHeartbeats 2000000 in
theorem sets_none (g : P.G) (I To : BitVec 256) (p : Int) (v : Value) (w : World) (hv : GameV w v g) (hT : Tab w) (hok : g.ok = true) (h0 : p ≠ 0) (h1 : p ≠ 1) : Calls Tryd.prog 3 #[v, .agg #[.int .u64 (P.wrd I 0), .int .u64 (P.wrd I 1), .int .u64 (P.wrd I 2), .int .u64 (P.wrd I 3)], .int .i64 p, .agg #[.int .u64 (P.wrd To 0), .int .u64 (P.wrd To 1), .int .u64 (P.wrd To 2), .int .u64 (P.wrd To 3)]] w fun e w' => e = .returned (.bool true) ∧ Below w.heap.size w w' := by
  have HNO : Hid (¬ (g.ok = true ∧ (p = 0 ∨ p = 1))) := Lib.hid (by rintro ⟨-, h | h⟩; exact h0 h; exact h1 h)
  have f0 : (p != 0) = true := bne_iff_ne.2 h0
  have f1 : (p != 1) = true := bne_iff_ne.2 h1
  have HFI := Lib.hid hv.fits
  have HV := Lib.hid hv
  have HOK := Lib.hid hok
  obtain ⟨a, b, c, rfl, -⟩ := hv
  clear hok h0 h1
  have T := Lib.hid hT
  clear hT
  go_enter Tryd.func3, Tryd.ntmps3
  go_wp2_with fail
  have bx0 : Box (((w.alloc (.cells #[a, b, c] 25)).alloc (.cells #[.int .u64 (P.wrd I 0), .int .u64 (P.wrd I 1), .int .u64 (P.wrd I 2), .int .u64 (P.wrd I 3)] 28)).alloc (.cells #[.int .u64 (P.wrd To 0), .int .u64 (P.wrd To 1), .int .u64 (P.wrd To 2), .int .u64 (P.wrd To 3)] 28)) (w.heap.size) 25 #[a, b, c] := Box.alloc (Box.alloc (Box.new w 25 #[a, b, c]) (.cells #[.int .u64 (P.wrd I 0), .int .u64 (P.wrd I 1), .int .u64 (P.wrd I 2), .int .u64 (P.wrd I 3)] 28)) (.cells #[.int .u64 (P.wrd To 0), .int .u64 (P.wrd To 1), .int .u64 (P.wrd To 2), .int .u64 (P.wrd To 3)] 28)
  have bx1 : Box (((w.alloc (.cells #[a, b, c] 25)).alloc (.cells #[.int .u64 (P.wrd I 0), .int .u64 (P.wrd I 1), .int .u64 (P.wrd I 2), .int .u64 (P.wrd I 3)] 28)).alloc (.cells #[.int .u64 (P.wrd To 0), .int .u64 (P.wrd To 1), .int .u64 (P.wrd To 2), .int .u64 (P.wrd To 3)] 28)) (w.heap.size + 1) 28 #[.int .u64 (P.wrd I 0), .int .u64 (P.wrd I 1), .int .u64 (P.wrd I 2), .int .u64 (P.wrd I 3)] := by
    have := Box.alloc (Box.new (w.alloc (.cells #[a, b, c] 25)) 28 #[.int .u64 (P.wrd I 0), .int .u64 (P.wrd I 1), .int .u64 (P.wrd I 2), .int .u64 (P.wrd I 3)]) (.cells #[.int .u64 (P.wrd To 0), .int .u64 (P.wrd To 1), .int .u64 (P.wrd To 2), .int .u64 (P.wrd To 3)] 28)
    simpa using this
  have bx2 : Box (((w.alloc (.cells #[a, b, c] 25)).alloc (.cells #[.int .u64 (P.wrd I 0), .int .u64 (P.wrd I 1), .int .u64 (P.wrd I 2), .int .u64 (P.wrd I 3)] 28)).alloc (.cells #[.int .u64 (P.wrd To 0), .int .u64 (P.wrd To 1), .int .u64 (P.wrd To 2), .int .u64 (P.wrd To 3)] 28)) (w.heap.size + 1 + 1) 28 #[.int .u64 (P.wrd To 0), .int .u64 (P.wrd To 1), .int .u64 (P.wrd To 2), .int .u64 (P.wrd To 3)] := by
    have := Box.new ((w.alloc (.cells #[a, b, c] 25)).alloc (.cells #[.int .u64 (P.wrd I 0), .int .u64 (P.wrd I 1), .int .u64 (P.wrd I 2), .int .u64 (P.wrd I 3)] 28)) 28 #[.int .u64 (P.wrd To 0), .int .u64 (P.wrd To 1), .int .u64 (P.wrd To 2), .int .u64 (P.wrd To 3)]
    simpa using this
  have hbq : Below w.heap.size w (((w.alloc (.cells #[a, b, c] 25)).alloc (.cells #[.int .u64 (P.wrd I 0), .int .u64 (P.wrd I 1), .int .u64 (P.wrd I 2), .int .u64 (P.wrd I 3)] 28)).alloc (.cells #[.int .u64 (P.wrd To 0), .int .u64 (P.wrd To 1), .int .u64 (P.wrd To 2), .int .u64 (P.wrd To 3)] 28)) := (((Below.refl _ w).alloc (Nat.le_refl _) _).alloc (by simp) _).alloc (by simp; omega) _
  have lt0 : w.heap.size < w.heap.size + 1 := Nat.lt_succ_self _
  have lt1 : w.heap.size + 1 < w.heap.size + 1 + 1 := Nat.lt_succ_self _
  have hle0 : w.heap.size ≤ w.heap.size := Nat.le_refl _
  generalize (((w.alloc (.cells #[a, b, c] 25)).alloc (.cells #[.int .u64 (P.wrd I 0), .int .u64 (P.wrd I 1), .int .u64 (P.wrd I 2), .int .u64 (P.wrd I 3)] 28)).alloc (.cells #[.int .u64 (P.wrd To 0), .int .u64 (P.wrd To 1), .int .u64 (P.wrd To 2), .int .u64 (P.wrd To 3)] 28)) = w0 at bx0 bx1 bx2 hbq  ⊢
  have BQg := Lib.hid bx0
  have BQi := Lib.hid bx1
  have BQt := Lib.hid bx2
  have W := Lib.hid hbq
  have LTgi := Lib.hid lt0
  have LTit := Lib.hid lt1
  have LEg := Lib.hid hle0
  clear hbq hle0 bx0 bx1 bx2 lt0 lt1
  generalize w.heap.size + 1 + 1 = qt at BQt LTit ⊢
  generalize w.heap.size + 1 = qi at BQi LTit LTgi ⊢
  obtain ⟨qg, hqg⟩ : ∃ qg, w.heap.size = qg := ⟨_, rfl⟩
  rw [hqg] at BQg LTgi ⊢
  have LEg : Hid (w.heap.size ≤ qg) := Lib.hid (by omega)
  clear hqg
  refine (shown_any _ (T.out.on W.out)).mono ?_
  rintro e w1 ⟨rfl, hb⟩
  replace BQg := Lib.hid (BQg.out.keep (grown_of_below hb none))
  replace BQi := Lib.hid (BQi.out.keep (grown_of_below hb none))
  replace BQt := Lib.hid (BQt.out.keep (grown_of_below hb none))
  replace W := Lib.hid (W.out.trans (hb.mono W.out.size))
  clear hb
  have hbb := BQg.out
  have gc0 : w1.cell? ⟨qg, 0, none⟩ = some a := hbb.cell 0 _ rfl
  have gc1 : w1.cell? ⟨qg, 1, none⟩ = some b := hbb.cell 1 _ rfl
  have gc2 : w1.cell? ⟨qg, 2, none⟩ = some c := hbb.cell 2 _ rfl
  clear hbb
  go_wp2_with fail
  refine (is_any g _ _ (HV.out.on W.out)).mono ?_
  rintro e w2 ⟨rfl, hb⟩
  replace BQg := Lib.hid (BQg.out.keep (grown_of_below hb none))
  replace BQi := Lib.hid (BQi.out.keep (grown_of_below hb none))
  replace BQt := Lib.hid (BQt.out.keep (grown_of_below hb none))
  replace W := Lib.hid (W.out.trans (hb.mono W.out.size))
  rw [HOK.out]
  clear hb gc0 gc1 gc2
  have hbb := BQg.out
  have gc0 : w2.cell? ⟨qg, 0, none⟩ = some a := hbb.cell 0 _ rfl
  have gc1 : w2.cell? ⟨qg, 1, none⟩ = some b := hbb.cell 1 _ rfl
  have gc2 : w2.cell? ⟨qg, 2, none⟩ = some c := hbb.cell 2 _ rfl
  clear hbb
  go_wp2_with fail
  refine (rcopy_any g _ _ (HV.out.on W.out)).mono ?_
  rintro e w3 ⟨oav, obv, ocv, oL, rfl, ho, hb⟩
  have hgo := ho.game HFI.out
  obtain ⟨oa, oka, ob_, okb, oc_, okc, rfl, rfl, rfl⟩ := ho.forms
  replace BQg := Lib.hid (BQg.out.keep (grown_of_below hb none))
  replace BQi := Lib.hid (BQi.out.keep (grown_of_below hb none))
  replace BQt := Lib.hid (BQt.out.keep (grown_of_below hb none))
  replace W := Lib.hid (W.out.trans (hb.mono W.out.size))
  have GO := Lib.hid hgo
  clear hb ho hgo gc0 gc1 gc2
  go_upto_region 4 with (fail)
  have bq : Box (w3.alloc (.cells #[.slice oa g.owner.length oka, .slice ob_ g.prio.length okb, .slice oc_ g.moves.length okc] 25)) w3.heap.size 25 #[.slice oa g.owner.length oka, .slice ob_ g.prio.length okb, .slice oc_ g.moves.length okc] := Box.new _ _ _
  have hgq := World.grownBy_alloc w3 (.cells #[.slice oa g.owner.length oka, .slice ob_ g.prio.length okb, .slice oc_ g.moves.length okc] 25) none
  replace BQg := Lib.hid (BQg.out.keep hgq)
  replace BQi := Lib.hid (BQi.out.keep hgq)
  replace BQt := Lib.hid (BQt.out.keep hgq)
  replace W := Lib.hid (W.out.trans ((below_of_grown hgq).mono W.out.size))
  replace GO := Lib.hid (GO.out.on (below_of_grown hgq))
  generalize (w3.alloc (.cells #[.slice oa g.owner.length oka, .slice ob_ g.prio.length okb, .slice oc_ g.moves.length okc] 25)) = w4 at bq BQg BQi BQt W GO ⊢
  generalize w3.heap.size = qo at bq ⊢
  have BQo := Lib.hid bq
  clear bq hgq
  have HBg := BQg
  have HBi := BQi
  have HBt := BQt
  have HBo := BQo
  have HGO := GO
  have HW4 := W
  clear BQg BQi BQt BQo GO W
  go_wp2_with fail
  go_loopw [12] (fun iv wr => ∃ i : Nat, i ≤ 2 ∧ iv = .int .i64 (i : Int) ∧ Below w4.heap.size w4 wr) (fun iv _ => 2 - (intOf iv).toNat)
  case atStart => exact ⟨0, by omega, rfl, Below.refl _ _⟩
  case round =>
    obtain ⟨i, hi, rfl, hbw⟩ := hrel
    have W4 := Lib.hid hbw
    have BQg := Lib.hid (HBg.out.keep (grown_of_below hbw none))
    have BQi := Lib.hid (HBi.out.keep (grown_of_below hbw none))
    have BQt := Lib.hid (HBt.out.keep (grown_of_below hbw none))
    have BQo := Lib.hid (HBo.out.keep (grown_of_below hbw none))
    have GO := Lib.hid (HGO.out.on hbw)
    have W := Lib.hid (HW4.out.trans (hbw.mono HW4.out.size))
    clear hbw
    have hi0 : (0 : Int) ≤ (i : Int) := Int.natCast_nonneg _
    by_cases hlt : i < 2
    · have fi : decide ((i : Int) < 2) = true := decide_eq_true (by omega)
      go_upto_region 7 with (fail)
      have hbb := BQo.out
      have gc0 : wr.cell? ⟨qo, 0, none⟩ = some (.slice oa g.owner.length oka) := hbb.cell 0 _ rfl
      have gc1 : wr.cell? ⟨qo, 1, none⟩ = some (.slice ob_ g.prio.length okb) := hbb.cell 1 _ rfl
      have gc2 : wr.cell? ⟨qo, 2, none⟩ = some (.slice oc_ g.moves.length okc) := hbb.cell 2 _ rfl
      clear hbb
      have hbb := BQi.out
      have ic0 : wr.cell? ⟨qi, 0, none⟩ = some (.int .u64 (P.wrd I 0)) := hbb.cell 0 _ rfl
      have ic1 : wr.cell? ⟨qi, 1, none⟩ = some (.int .u64 (P.wrd I 1)) := hbb.cell 1 _ rfl
      have ic2 : wr.cell? ⟨qi, 2, none⟩ = some (.int .u64 (P.wrd I 2)) := hbb.cell 2 _ rfl
      have ic3 : wr.cell? ⟨qi, 3, none⟩ = some (.int .u64 (P.wrd I 3)) := hbb.cell 3 _ rfl
      clear hbb
      have hbb := BQt.out
      have tc0 : wr.cell? ⟨qt, 0, none⟩ = some (.int .u64 (P.wrd To 0)) := hbb.cell 0 _ rfl
      have tc1 : wr.cell? ⟨qt, 1, none⟩ = some (.int .u64 (P.wrd To 1)) := hbb.cell 1 _ rfl
      have tc2 : wr.cell? ⟨qt, 2, none⟩ = some (.int .u64 (P.wrd To 2)) := hbb.cell 2 _ rfl
      have tc3 : wr.cell? ⟨qt, 3, none⟩ = some (.int .u64 (P.wrd To 3)) := hbb.cell 3 _ rfl
      clear hbb
      go_wp2_with fail
      refine (attract_any g I To p _ _ GO.out (T.out.on W.out)).mono ?_
      rintro e u1 ⟨v1, m1, rfl, ho1, hm1, hb⟩
      obtain ⟨vo1, vk1, rfl, -⟩ := own_at ho1
      replace BQg := Lib.hid (BQg.out.keep (grown_of_below hb none))
      replace BQi := Lib.hid (BQi.out.keep (grown_of_below hb none))
      replace BQt := Lib.hid (BQt.out.keep (grown_of_below hb none))
      replace BQo := Lib.hid (BQo.out.keep (grown_of_below hb none))
      replace GO := Lib.hid (GO.out.on hb)
      replace W := Lib.hid (W.out.trans (hb.mono W.out.size))
      replace W4 := Lib.hid (W4.out.trans (hb.mono W4.out.size))
      obtain ⟨s1, hs1⟩ : ∃ s, P.attOf g I p To = s := ⟨_, rfl⟩
      rw [hs1]
      have HS1 := Lib.hid hs1
      clear hb hs1 gc0 gc1 gc2 ic0 ic1 ic2 ic3 tc0 tc1 tc2 tc3
      have HO1 := Lib.hid ho1
      have HM1 := Lib.hid hm1
      clear ho1 hm1
      go_upto_region 8 with (fail)
      have bq : Box (u1.alloc (.cells #[.int .u64 (P.wrd s1 0), .int .u64 (P.wrd s1 1), .int .u64 (P.wrd s1 2), .int .u64 (P.wrd s1 3)] 28)) u1.heap.size 28 #[.int .u64 (P.wrd s1 0), .int .u64 (P.wrd s1 1), .int .u64 (P.wrd s1 2), .int .u64 (P.wrd s1 3)] := Box.new _ _ _
      have hgq := World.grownBy_alloc u1 (.cells #[.int .u64 (P.wrd s1 0), .int .u64 (P.wrd s1 1), .int .u64 (P.wrd s1 2), .int .u64 (P.wrd s1 3)] 28) none
      replace BQg := Lib.hid (BQg.out.keep hgq)
      replace BQi := Lib.hid (BQi.out.keep hgq)
      replace BQt := Lib.hid (BQt.out.keep hgq)
      replace BQo := Lib.hid (BQo.out.keep hgq)
      replace GO := Lib.hid (GO.out.on (below_of_grown hgq))
      replace W := Lib.hid (W.out.trans ((below_of_grown hgq).mono W.out.size))
      replace W4 := Lib.hid (W4.out.trans ((below_of_grown hgq).mono W4.out.size))
      generalize (u1.alloc (.cells #[.int .u64 (P.wrd s1 0), .int .u64 (P.wrd s1 1), .int .u64 (P.wrd s1 2), .int .u64 (P.wrd s1 3)] 28)) = x1 at bq BQg BQi BQt BQo GO W W4 ⊢
      generalize u1.heap.size = q1 at bq ⊢
      have BQ1 := Lib.hid bq
      clear bq hgq
      have hz : s1 = 0#256 := by rw [← HS1.out]; unfold P.attOf; rw [if_neg HNO.out]
      have hm : m1 = [] := by have h := HM1.out; rw [if_neg HNO.out] at h; exact h
      have eqa := fun w => set_neq s1 0#256 w
      rw [decide_eq_true hz, zero_set] at eqa
      subst hm
      clear hz
      have hbb := BQ1.out
      have yc0 : x1.cell? ⟨q1, 0, none⟩ = some (.int .u64 (P.wrd s1 0)) := hbb.cell 0 _ rfl
      have yc1 : x1.cell? ⟨q1, 1, none⟩ = some (.int .u64 (P.wrd s1 1)) := hbb.cell 1 _ rfl
      have yc2 : x1.cell? ⟨q1, 2, none⟩ = some (.int .u64 (P.wrd s1 2)) := hbb.cell 2 _ rfl
      have yc3 : x1.cell? ⟨q1, 3, none⟩ = some (.int .u64 (P.wrd s1 3)) := hbb.cell 3 _ rfl
      clear hbb
      go_wp2_with fail
      go_roundw
      case rel => exact ⟨i + 1, by omega, by go_num, W4.out⟩
      case measure => simp [intOf]; omega
    · have fi : decide ((i : Int) < 2) = false := decide_eq_false (by omega)
      have hbb := BQg.out
      have gc0 : wr.cell? ⟨qg, 0, none⟩ = some a := hbb.cell 0 _ rfl
      have gc1 : wr.cell? ⟨qg, 1, none⟩ = some b := hbb.cell 1 _ rfl
      have gc2 : wr.cell? ⟨qg, 2, none⟩ = some c := hbb.cell 2 _ rfl
      clear hbb
      have hbb := BQo.out
      have oc0 : wr.cell? ⟨qo, 0, none⟩ = some (.slice oa g.owner.length oka) := hbb.cell 0 _ rfl
      have oc1 : wr.cell? ⟨qo, 1, none⟩ = some (.slice ob_ g.prio.length okb) := hbb.cell 1 _ rfl
      have oc2 : wr.cell? ⟨qo, 2, none⟩ = some (.slice oc_ g.moves.length okc) := hbb.cell 2 _ rfl
      clear hbb
      go_wp2_with fail
      refine (samegame_any g g _ _ _ GO.out (HV.out.on W.out)).mono ?_
      rintro e w9 ⟨rfl, hb⟩
      rw [decide_eq_true rfl]
      replace W := Lib.hid (W.out.trans (hb.mono W.out.size))
      clear hb
      go_wp2_with fail
      exact bodyPost_ret (v := .bool true) (by simp [results, Tryd.results3, go_sem]) rfl ⟨rfl, W.out⟩

theorem OwnI.grown {w w' : World} {lo : Nat} {v : Value} {zs : List Int} (h : OwnI w lo v zs) (hg : w.grownBy w' none) : OwnI w' lo v zs := own_grown h hg
theorem Bl.congr {w : World} {v : Value} {n : Nat} {f h : Nat → Bool} (hb : Bl w v n f) (e : ∀ y, y < n → f y = h y) : Bl w v n h := by
  obtain ⟨b, k, e1, h1, h2⟩ := hb
  exact ⟨b, k, e1, h1, fun j hj => by rw [← e j hj]; exact h2 j hj⟩
theorem rSet (W : World) (fa : Nat → Bool) (n : Nat) (hn : n ≤ 200) (v : Value) (h : Bl W v n fa) (d : Nat) (os : Array Obj) : Calls Tryd.prog 16 #[v] (grow (redrawn W d) os) fun e w'' => e = .returned (.agg #[.int .u64 (P.wrd (P.setK fa n) 0), .int .u64 (P.wrd (P.setK fa n) 1), .int .u64 (P.wrd (P.setK fa n) 2), .int .u64 (P.wrd (P.setK fa n) 3)]) ∧ ∃ p : Regrown, w'' = grow (redrawn W p.d) p.os := Calls.regrown_of (set_any fa n hn v _ (h.on (below_regrown W d os)))

set_option maxRecDepth 100000 in
set_option maxHeartbeats 4000000 in
theorem sets_0 (g : P.G) (I To : BitVec 256) (p : Int) (v : Value) (w : World) (hv : GameV w v g) (hT : Tab w) (hok : g.ok = true) (hp : p = 0) : Calls Tryd.prog 3 #[v, .agg #[.int .u64 (P.wrd I 0), .int .u64 (P.wrd I 1), .int .u64 (P.wrd I 2), .int .u64 (P.wrd I 3)], .int .i64 p, .agg #[.int .u64 (P.wrd To 0), .int .u64 (P.wrd To 1), .int .u64 (P.wrd To 2), .int .u64 (P.wrd To 3)]] w fun e w' => e = .returned (.bool true) ∧ Below w.heap.size w w' := by
  have f0 : (p != 0) = false := by rw [bne_eq_false_iff_eq]; exact hp
  have HP := Lib.hid (show p = 0 ∨ p = 1 by omega)
  have hr := (P.G.ok_iff g).1 hok
  have hmany := hr.many
  have h0 := hr.pos
  obtain ⟨n, hn⟩ : ∃ n, g.owner.length = n := ⟨_, rfl⟩
  rw [hn] at hmany h0
  have HN := Lib.hid hn
  have HR := Lib.hid hr
  have HFI := Lib.hid hv.fits
  have HV := Lib.hid hv
  have HOK := Lib.hid hok
  obtain ⟨av, b, c, rfl, ⟨ao, ka, rfl, -⟩, -⟩ := hv
  rw [hn] at HV ⊢
  clear hok hp hr hn
  have T := Lib.hid hT
  clear hT
  go_enter Tryd.func3, Tryd.ntmps3
  go_wp2_with fail
  have bx0 : Box (((w.alloc (.cells #[.slice ao n ka, b, c] 25)).alloc (.cells #[.int .u64 (P.wrd I 0), .int .u64 (P.wrd I 1), .int .u64 (P.wrd I 2), .int .u64 (P.wrd I 3)] 28)).alloc (.cells #[.int .u64 (P.wrd To 0), .int .u64 (P.wrd To 1), .int .u64 (P.wrd To 2), .int .u64 (P.wrd To 3)] 28)) (w.heap.size) 25 #[.slice ao n ka, b, c] := Box.alloc (Box.alloc (Box.new w 25 #[.slice ao n ka, b, c]) (.cells #[.int .u64 (P.wrd I 0), .int .u64 (P.wrd I 1), .int .u64 (P.wrd I 2), .int .u64 (P.wrd I 3)] 28)) (.cells #[.int .u64 (P.wrd To 0), .int .u64 (P.wrd To 1), .int .u64 (P.wrd To 2), .int .u64 (P.wrd To 3)] 28)
  have bx1 : Box (((w.alloc (.cells #[.slice ao n ka, b, c] 25)).alloc (.cells #[.int .u64 (P.wrd I 0), .int .u64 (P.wrd I 1), .int .u64 (P.wrd I 2), .int .u64 (P.wrd I 3)] 28)).alloc (.cells #[.int .u64 (P.wrd To 0), .int .u64 (P.wrd To 1), .int .u64 (P.wrd To 2), .int .u64 (P.wrd To 3)] 28)) (w.heap.size + 1) 28 #[.int .u64 (P.wrd I 0), .int .u64 (P.wrd I 1), .int .u64 (P.wrd I 2), .int .u64 (P.wrd I 3)] := by
    have := Box.alloc (Box.new (w.alloc (.cells #[.slice ao n ka, b, c] 25)) 28 #[.int .u64 (P.wrd I 0), .int .u64 (P.wrd I 1), .int .u64 (P.wrd I 2), .int .u64 (P.wrd I 3)]) (.cells #[.int .u64 (P.wrd To 0), .int .u64 (P.wrd To 1), .int .u64 (P.wrd To 2), .int .u64 (P.wrd To 3)] 28)
    simpa using this
  have bx2 : Box (((w.alloc (.cells #[.slice ao n ka, b, c] 25)).alloc (.cells #[.int .u64 (P.wrd I 0), .int .u64 (P.wrd I 1), .int .u64 (P.wrd I 2), .int .u64 (P.wrd I 3)] 28)).alloc (.cells #[.int .u64 (P.wrd To 0), .int .u64 (P.wrd To 1), .int .u64 (P.wrd To 2), .int .u64 (P.wrd To 3)] 28)) (w.heap.size + 1 + 1) 28 #[.int .u64 (P.wrd To 0), .int .u64 (P.wrd To 1), .int .u64 (P.wrd To 2), .int .u64 (P.wrd To 3)] := by
    have := Box.new ((w.alloc (.cells #[.slice ao n ka, b, c] 25)).alloc (.cells #[.int .u64 (P.wrd I 0), .int .u64 (P.wrd I 1), .int .u64 (P.wrd I 2), .int .u64 (P.wrd I 3)] 28)) 28 #[.int .u64 (P.wrd To 0), .int .u64 (P.wrd To 1), .int .u64 (P.wrd To 2), .int .u64 (P.wrd To 3)]
    simpa using this
  have hbq : Below w.heap.size w (((w.alloc (.cells #[.slice ao n ka, b, c] 25)).alloc (.cells #[.int .u64 (P.wrd I 0), .int .u64 (P.wrd I 1), .int .u64 (P.wrd I 2), .int .u64 (P.wrd I 3)] 28)).alloc (.cells #[.int .u64 (P.wrd To 0), .int .u64 (P.wrd To 1), .int .u64 (P.wrd To 2), .int .u64 (P.wrd To 3)] 28)) := (((Below.refl _ w).alloc (Nat.le_refl _) _).alloc (by simp) _).alloc (by simp; omega) _
  have lt0 : w.heap.size < w.heap.size + 1 := Nat.lt_succ_self _
  have lt1 : w.heap.size + 1 < w.heap.size + 1 + 1 := Nat.lt_succ_self _
  have hle0 : w.heap.size ≤ w.heap.size := Nat.le_refl _
  generalize (((w.alloc (.cells #[.slice ao n ka, b, c] 25)).alloc (.cells #[.int .u64 (P.wrd I 0), .int .u64 (P.wrd I 1), .int .u64 (P.wrd I 2), .int .u64 (P.wrd I 3)] 28)).alloc (.cells #[.int .u64 (P.wrd To 0), .int .u64 (P.wrd To 1), .int .u64 (P.wrd To 2), .int .u64 (P.wrd To 3)] 28)) = w0 at bx0 bx1 bx2 hbq  ⊢
  have BQg := Lib.hid bx0
  have BQi := Lib.hid bx1
  have BQt := Lib.hid bx2
  have W := Lib.hid hbq
  have LTgi := Lib.hid lt0
  have LTit := Lib.hid lt1
  have LEg := Lib.hid hle0
  clear hbq hle0 bx0 bx1 bx2 lt0 lt1
  generalize w.heap.size + 1 + 1 = qt at BQt LTit ⊢
  generalize w.heap.size + 1 = qi at BQi LTit LTgi ⊢
  obtain ⟨qg, hqg⟩ : ∃ qg, w.heap.size = qg := ⟨_, rfl⟩
  rw [hqg] at BQg LTgi ⊢
  have LEg : Hid (w.heap.size ≤ qg) := Lib.hid (by omega)
  clear hqg
  refine (shown_any _ (T.out.on W.out)).mono ?_
  rintro e w1 ⟨rfl, hb⟩
  replace BQg := Lib.hid (BQg.out.keep (grown_of_below hb none))
  replace BQi := Lib.hid (BQi.out.keep (grown_of_below hb none))
  replace BQt := Lib.hid (BQt.out.keep (grown_of_below hb none))
  replace W := Lib.hid (W.out.trans (hb.mono W.out.size))
  clear hb
  have hbb := BQg.out
  have gc0 : w1.cell? ⟨qg, 0, none⟩ = some (.slice ao n ka) := hbb.cell 0 _ rfl
  have gc1 : w1.cell? ⟨qg, 1, none⟩ = some b := hbb.cell 1 _ rfl
  have gc2 : w1.cell? ⟨qg, 2, none⟩ = some c := hbb.cell 2 _ rfl
  clear hbb
  go_wp2_with fail
  refine (is_any g _ _ (HV.out.on W.out)).mono ?_
  rintro e w2 ⟨rfl, hb⟩
  replace BQg := Lib.hid (BQg.out.keep (grown_of_below hb none))
  replace BQi := Lib.hid (BQi.out.keep (grown_of_below hb none))
  replace BQt := Lib.hid (BQt.out.keep (grown_of_below hb none))
  replace W := Lib.hid (W.out.trans (hb.mono W.out.size))
  rw [HOK.out]
  clear hb gc0 gc1 gc2
  have hbb := BQg.out
  have gc0 : w2.cell? ⟨qg, 0, none⟩ = some (.slice ao n ka) := hbb.cell 0 _ rfl
  have gc1 : w2.cell? ⟨qg, 1, none⟩ = some b := hbb.cell 1 _ rfl
  have gc2 : w2.cell? ⟨qg, 2, none⟩ = some c := hbb.cell 2 _ rfl
  clear hbb
  go_wp2_with fail
  refine (rcopy_any g _ _ (HV.out.on W.out)).mono ?_
  rintro e w3 ⟨oav, obv, ocv, oL, rfl, ho, hb⟩
  have hgo := ho.game HFI.out
  obtain ⟨oa, oka, ob_, okb, oc_, okc, rfl, rfl, rfl⟩ := ho.forms
  rw [HN.out] at hgo ⊢
  replace BQg := Lib.hid (BQg.out.keep (grown_of_below hb none))
  replace BQi := Lib.hid (BQi.out.keep (grown_of_below hb none))
  replace BQt := Lib.hid (BQt.out.keep (grown_of_below hb none))
  replace W := Lib.hid (W.out.trans (hb.mono W.out.size))
  have GO := Lib.hid hgo
  clear hb ho hgo gc0 gc1 gc2
  go_upto_region 4 with (fail)
  have bq : Box (w3.alloc (.cells #[.slice oa n oka, .slice ob_ g.prio.length okb, .slice oc_ g.moves.length okc] 25)) w3.heap.size 25 #[.slice oa n oka, .slice ob_ g.prio.length okb, .slice oc_ g.moves.length okc] := Box.new _ _ _
  have hgq := World.grownBy_alloc w3 (.cells #[.slice oa n oka, .slice ob_ g.prio.length okb, .slice oc_ g.moves.length okc] 25) none
  replace BQg := Lib.hid (BQg.out.keep hgq)
  replace BQi := Lib.hid (BQi.out.keep hgq)
  replace BQt := Lib.hid (BQt.out.keep hgq)
  replace W := Lib.hid (W.out.trans ((below_of_grown hgq).mono W.out.size))
  replace GO := Lib.hid (GO.out.on (below_of_grown hgq))
  generalize (w3.alloc (.cells #[.slice oa n oka, .slice ob_ g.prio.length okb, .slice oc_ g.moves.length okc] 25)) = w4 at bq BQg BQi BQt W GO ⊢
  generalize w3.heap.size = qo at bq ⊢
  have BQo := Lib.hid bq
  clear bq hgq
  have HBg := BQg
  have HBi := BQi
  have HBt := BQt
  have HBo := BQo
  have HGO := GO
  have HW4 := W
  clear BQg BQi BQt BQo GO W
  go_wp2_with fail
  go_loopw [12] (fun iv wr => ∃ i : Nat, i ≤ 2 ∧ iv = .int .i64 (i : Int) ∧ Below w4.heap.size w4 wr) (fun iv _ => 2 - (intOf iv).toNat)
  case atStart => exact ⟨0, by omega, rfl, Below.refl _ _⟩
  case round =>
    obtain ⟨i, hi, rfl, hbw⟩ := hrel
    have W4 := Lib.hid hbw
    have BQg := Lib.hid (HBg.out.keep (grown_of_below hbw none))
    have BQi := Lib.hid (HBi.out.keep (grown_of_below hbw none))
    have BQt := Lib.hid (HBt.out.keep (grown_of_below hbw none))
    have BQo := Lib.hid (HBo.out.keep (grown_of_below hbw none))
    have GO := Lib.hid (HGO.out.on hbw)
    have W := Lib.hid (HW4.out.trans (hbw.mono HW4.out.size))
    have LWR := Lib.hid hbw.size
    clear hbw
    have hi0 : (0 : Int) ≤ (i : Int) := Int.natCast_nonneg _
    by_cases hlt : i < 2
    · have fi : decide ((i : Int) < 2) = true := decide_eq_true (by omega)
      go_upto_region 7 with (fail)
      have hbb := BQo.out
      have gc0 : wr.cell? ⟨qo, 0, none⟩ = some (.slice oa n oka) := hbb.cell 0 _ rfl
      have gc1 : wr.cell? ⟨qo, 1, none⟩ = some (.slice ob_ g.prio.length okb) := hbb.cell 1 _ rfl
      have gc2 : wr.cell? ⟨qo, 2, none⟩ = some (.slice oc_ g.moves.length okc) := hbb.cell 2 _ rfl
      clear hbb
      have hbb := BQi.out
      have ic0 : wr.cell? ⟨qi, 0, none⟩ = some (.int .u64 (P.wrd I 0)) := hbb.cell 0 _ rfl
      have ic1 : wr.cell? ⟨qi, 1, none⟩ = some (.int .u64 (P.wrd I 1)) := hbb.cell 1 _ rfl
      have ic2 : wr.cell? ⟨qi, 2, none⟩ = some (.int .u64 (P.wrd I 2)) := hbb.cell 2 _ rfl
      have ic3 : wr.cell? ⟨qi, 3, none⟩ = some (.int .u64 (P.wrd I 3)) := hbb.cell 3 _ rfl
      clear hbb
      have hbb := BQt.out
      have tc0 : wr.cell? ⟨qt, 0, none⟩ = some (.int .u64 (P.wrd To 0)) := hbb.cell 0 _ rfl
      have tc1 : wr.cell? ⟨qt, 1, none⟩ = some (.int .u64 (P.wrd To 1)) := hbb.cell 1 _ rfl
      have tc2 : wr.cell? ⟨qt, 2, none⟩ = some (.int .u64 (P.wrd To 2)) := hbb.cell 2 _ rfl
      have tc3 : wr.cell? ⟨qt, 3, none⟩ = some (.int .u64 (P.wrd To 3)) := hbb.cell 3 _ rfl
      clear hbb
      go_wp2_with fail
      refine (attract_any g I To p _ _ GO.out (T.out.on W.out)).mono ?_
      rintro e u1 ⟨v1, m1, rfl, ho1, hm1, hb⟩
      obtain ⟨vo1, vk1, rfl, -⟩ := own_at ho1
      replace BQg := Lib.hid (BQg.out.keep (grown_of_below hb none))
      replace BQi := Lib.hid (BQi.out.keep (grown_of_below hb none))
      replace BQt := Lib.hid (BQt.out.keep (grown_of_below hb none))
      replace BQo := Lib.hid (BQo.out.keep (grown_of_below hb none))
      replace GO := Lib.hid (GO.out.on hb)
      replace W := Lib.hid (W.out.trans (hb.mono W.out.size))
      replace W4 := Lib.hid (W4.out.trans (hb.mono W4.out.size))
      obtain ⟨s1, hs1⟩ : ∃ s, P.attOf g I p To = s := ⟨_, rfl⟩
      rw [hs1]
      have HS1 := Lib.hid hs1
      clear hb hs1 gc0 gc1 gc2 ic0 ic1 ic2 ic3 tc0 tc1 tc2 tc3
      have HO1 := Lib.hid ho1
      have HM1 := Lib.hid hm1
      clear ho1 hm1
      have OI1 := Lib.hid (show OwnI u1 wr.heap.size (.slice vo1 m1.length vk1) m1 from HO1.out)
      go_upto_region 8 with (fail)
      have bq : Box (u1.alloc (.cells #[.int .u64 (P.wrd s1 0), .int .u64 (P.wrd s1 1), .int .u64 (P.wrd s1 2), .int .u64 (P.wrd s1 3)] 28)) u1.heap.size 28 #[.int .u64 (P.wrd s1 0), .int .u64 (P.wrd s1 1), .int .u64 (P.wrd s1 2), .int .u64 (P.wrd s1 3)] := Box.new _ _ _
      have hgq := World.grownBy_alloc u1 (.cells #[.int .u64 (P.wrd s1 0), .int .u64 (P.wrd s1 1), .int .u64 (P.wrd s1 2), .int .u64 (P.wrd s1 3)] 28) none
      replace BQg := Lib.hid (BQg.out.keep hgq)
      replace BQi := Lib.hid (BQi.out.keep hgq)
      replace BQt := Lib.hid (BQt.out.keep hgq)
      replace BQo := Lib.hid (BQo.out.keep hgq)
      replace GO := Lib.hid (GO.out.on (below_of_grown hgq))
      replace W := Lib.hid (W.out.trans ((below_of_grown hgq).mono W.out.size))
      replace W4 := Lib.hid (W4.out.trans ((below_of_grown hgq).mono W4.out.size))
      replace OI1 := Lib.hid (OI1.out.grown hgq)
      generalize (u1.alloc (.cells #[.int .u64 (P.wrd s1 0), .int .u64 (P.wrd s1 1), .int .u64 (P.wrd s1 2), .int .u64 (P.wrd s1 3)] 28)) = x1 at bq BQg BQi BQt BQo GO W W4 OI1 ⊢
      generalize u1.heap.size = q1 at bq ⊢
      have BQ1 := Lib.hid bq
      clear bq hgq
      have hm1 := HM1.out
      rw [if_pos ⟨HOK.out, HP.out⟩] at hm1
      obtain ⟨A, Q, ou, vf, hrd, hme⟩ := hm1
      have hml : m1.length = n := by rw [hme, P.rowOf_len]; exact HN.out
      rw [hml] at OI1 ⊢
      have HML := Lib.hid hml
      have HME := Lib.hid hme
      have HRD := Lib.hid hrd
      clear hrd hme hml
      have hbb := BQg.out
      have gc0 : x1.cell? ⟨qg, 0, none⟩ = some (.slice ao n ka) := hbb.cell 0 _ rfl
      have gc1 : x1.cell? ⟨qg, 1, none⟩ = some b := hbb.cell 1 _ rfl
      have gc2 : x1.cell? ⟨qg, 2, none⟩ = some c := hbb.cell 2 _ rfl
      clear hbb
      go_upto_region 12 with (fail)
      clear gc0 gc1 gc2
      have hbb := BQi.out
      have ic0 : x1.cell? ⟨qi, 0, none⟩ = some (.int .u64 (P.wrd I 0)) := hbb.cell 0 _ rfl
      have ic1 : x1.cell? ⟨qi, 1, none⟩ = some (.int .u64 (P.wrd I 1)) := hbb.cell 1 _ rfl
      have ic2 : x1.cell? ⟨qi, 2, none⟩ = some (.int .u64 (P.wrd I 2)) := hbb.cell 2 _ rfl
      have ic3 : x1.cell? ⟨qi, 3, none⟩ = some (.int .u64 (P.wrd I 3)) := hbb.cell 3 _ rfl
      clear hbb
      go_wp2_with fail
      refine (truths_any I n hmany _).mono ?_
      rintro e y1 ⟨vi, rfl, hoi, hb⟩
      have TI := Lib.hid (hoi.bl h0)
      replace BQg := Lib.hid (BQg.out.keep (grown_of_below hb none))
      replace BQi := Lib.hid (BQi.out.keep (grown_of_below hb none))
      replace BQt := Lib.hid (BQt.out.keep (grown_of_below hb none))
      replace BQo := Lib.hid (BQo.out.keep (grown_of_below hb none))
      replace BQ1 := Lib.hid (BQ1.out.keep (grown_of_below hb none))
      replace W := Lib.hid (W.out.trans (hb.mono W.out.size))
      replace W4 := Lib.hid (W4.out.trans (hb.mono W4.out.size))
      replace OI1 := Lib.hid (OI1.out.grown (grown_of_below hb none))
      clear hb hoi ic0 ic1 ic2 ic3
      have hbb := BQt.out
      have tc0 : y1.cell? ⟨qt, 0, none⟩ = some (.int .u64 (P.wrd To 0)) := hbb.cell 0 _ rfl
      have tc1 : y1.cell? ⟨qt, 1, none⟩ = some (.int .u64 (P.wrd To 1)) := hbb.cell 1 _ rfl
      have tc2 : y1.cell? ⟨qt, 2, none⟩ = some (.int .u64 (P.wrd To 2)) := hbb.cell 2 _ rfl
      have tc3 : y1.cell? ⟨qt, 3, none⟩ = some (.int .u64 (P.wrd To 3)) := hbb.cell 3 _ rfl
      clear hbb
      go_wp2_with fail
      refine (truths_any To n hmany _).mono ?_
      rintro e y2 ⟨vt, rfl, hot, hb⟩
      have TT := Lib.hid (hot.bl h0)
      replace BQg := Lib.hid (BQg.out.keep (grown_of_below hb none))
      replace BQi := Lib.hid (BQi.out.keep (grown_of_below hb none))
      replace BQt := Lib.hid (BQt.out.keep (grown_of_below hb none))
      replace BQo := Lib.hid (BQo.out.keep (grown_of_below hb none))
      replace BQ1 := Lib.hid (BQ1.out.keep (grown_of_below hb none))
      replace W := Lib.hid (W.out.trans (hb.mono W.out.size))
      replace W4 := Lib.hid (W4.out.trans (hb.mono W4.out.size))
      replace OI1 := Lib.hid (OI1.out.grown (grown_of_below hb none))
      replace TI := Lib.hid (TI.out.on hb)
      clear hb hot tc0 tc1 tc2 tc3
      have hbb := BQg.out
      have gc0 : y2.cell? ⟨qg, 0, none⟩ = some (.slice ao n ka) := hbb.cell 0 _ rfl
      have gc1 : y2.cell? ⟨qg, 1, none⟩ = some b := hbb.cell 1 _ rfl
      have gc2 : y2.cell? ⟨qg, 2, none⟩ = some c := hbb.cell 2 _ rfl
      clear hbb
      go_wp2_with fail
      refine (rattract_any g HR.out I To p _ _ _ _ (HV.out.on W.out) (by rw [HN.out]; exact TI.out) (by rw [HN.out]; exact TT.out)).mono ?_
      rintro e y3 ⟨va, fa, rfl, hoa, hfa, hb⟩
      rw [HN.out] at hoa hfa
      have TA := Lib.hid (hoa.bl h0)
      have HFA := Lib.hid hfa
      replace BQg := Lib.hid (BQg.out.keep (grown_of_below hb none))
      replace BQi := Lib.hid (BQi.out.keep (grown_of_below hb none))
      replace BQt := Lib.hid (BQt.out.keep (grown_of_below hb none))
      replace BQo := Lib.hid (BQo.out.keep (grown_of_below hb none))
      replace BQ1 := Lib.hid (BQ1.out.keep (grown_of_below hb none))
      replace W := Lib.hid (W.out.trans (hb.mono W.out.size))
      replace W4 := Lib.hid (W4.out.trans (hb.mono W4.out.size))
      replace OI1 := Lib.hid (OI1.out.grown (grown_of_below hb none))
      replace TI := Lib.hid (TI.out.on hb)
      replace TT := Lib.hid (TT.out.on hb)
      clear hb hoa hfa gc0 gc1 gc2
      have hbb := BQg.out
      have gc0 : y3.cell? ⟨qg, 0, none⟩ = some (.slice ao n ka) := hbb.cell 0 _ rfl
      have gc1 : y3.cell? ⟨qg, 1, none⟩ = some b := hbb.cell 1 _ rfl
      have gc2 : y3.cell? ⟨qg, 2, none⟩ = some c := hbb.cell 2 _ rfl
      clear hbb
      have hAb : ∀ y, y < n → fa y = A.getLsbD y := fun y hy => by
        rw [Bool.eq_iff_iff, HFA.out y hy, HRD.out.done HR.out y]
        exact (P.att_full HR.out y).symm
      have hIb : ∀ y, y < n → I.getLsbD y = (I &&& P.full (g.owner.length : Int)).getLsbD y := fun y hy => by
        rw [BitVec.getLsbD_and, P.getLsbD_full, decide_eq_true (by rw [HN.out]; omega), Bool.and_true]
      have TI2 := Lib.hid (TI.out.congr hIb)
      have TA2 := Lib.hid (TA.out.congr hAb)
      have IMV := Lib.hid (show Ints y3 (.slice vo1 n vk1) (P.rowOf g.owner.length vf) from by
        rw [← HME.out]
        exact OI1.out.ints (by rw [HML.out]; omega))
      clear hAb hIb
      go_wp2_with fail
      refine (forces_any g HR.out (I &&& P.full (g.owner.length : Int)) To A p Q ou vf HRD.out _ _ _ _ _ _ (HV.out.on W.out) (by have h := TI2.out; rw [← HN.out] at h; exact h) (by rw [HN.out]; exact TT.out) (by rw [HN.out]; exact TA2.out) IMV.out).mono ?_
      rintro e y4 ⟨rfl, hb⟩
      replace BQg := Lib.hid (BQg.out.keep (grown_of_below hb none))
      replace BQi := Lib.hid (BQi.out.keep (grown_of_below hb none))
      replace BQt := Lib.hid (BQt.out.keep (grown_of_below hb none))
      replace BQo := Lib.hid (BQo.out.keep (grown_of_below hb none))
      replace BQ1 := Lib.hid (BQ1.out.keep (grown_of_below hb none))
      replace W := Lib.hid (W.out.trans (hb.mono W.out.size))
      replace W4 := Lib.hid (W4.out.trans (hb.mono W4.out.size))
      replace OI1 := Lib.hid (OI1.out.grown (grown_of_below hb none))
      replace TA := Lib.hid (TA.out.on hb)
      clear hb gc0 gc1 gc2
      have hse : P.setK fa n = s1 := by
        rw [← HS1.out, P.attOf_ok HR.out HP.out]
        refine P.set_ext fun x _ => ?_
        rw [P.setK_bit fa n (by omega), Bool.and_eq_true, decide_eq_true_eq, P.attSet_bit HR.out]
        constructor
        · rintro ⟨h1, h2⟩
          exact (HFA.out x h1).1 h2
        · intro h
          have hx : x < n := by rw [← HN.out]; exact h.bound.1
          exact ⟨hx, (HFA.out x hx).2 h⟩
      have c1 := fun d os => rSet y4 fa n hmany va TA.out d os
      rw [hse] at c1
      have eqa := fun w => set_neq s1 s1 w
      rw [decide_eq_true rfl] at eqa
      clear hse
      have ky0 : ∀ (d : Nat) (os : Array Obj), (grow (redrawn y4 d) os).cell? ⟨q1, 0, none⟩ = some (.int .u64 (P.wrd s1 0)) := fun d os => (BQ1.out.keep (grown_of_below (below_regrown y4 d os) none)).cell 0 _ rfl
      have ky1 : ∀ (d : Nat) (os : Array Obj), (grow (redrawn y4 d) os).cell? ⟨q1, 1, none⟩ = some (.int .u64 (P.wrd s1 1)) := fun d os => (BQ1.out.keep (grown_of_below (below_regrown y4 d os) none)).cell 1 _ rfl
      have ky2 : ∀ (d : Nat) (os : Array Obj), (grow (redrawn y4 d) os).cell? ⟨q1, 2, none⟩ = some (.int .u64 (P.wrd s1 2)) := fun d os => (BQ1.out.keep (grown_of_below (below_regrown y4 d os) none)).cell 2 _ rfl
      have ky3 : ∀ (d : Nat) (os : Array Obj), (grow (redrawn y4 d) os).cell? ⟨q1, 3, none⟩ = some (.int .u64 (P.wrd s1 3)) := fun d os => (BQ1.out.keep (grown_of_below (below_regrown y4 d os) none)).cell 3 _ rfl
      go_upto_region 16 with (fail)
      refine wp_region_quiet_below (by kernel_rfl) (by kernel_rfl) ?_
      repeat (first | go_big_quiet_step (with_reducible exact c1 _ _) | quiet_step (with_reducible exact c1 _ _))
      refine wpQuiet_nil ?_
      intro _ hw'
      obtain ⟨⟨dq, osq⟩, hw''⟩ := hw'
      subst hw''
      clear c1 eqa ky0 ky1 ky2 ky3
      have hb := below_regrown y4 dq osq
      replace W := Lib.hid (W.out.trans (hb.mono W.out.size))
      replace W4 := Lib.hid (W4.out.trans (hb.mono W4.out.size))
      replace OI1 := Lib.hid (OI1.out.grown (grown_of_below hb none))
      clear hb
      generalize (grow (redrawn y4 dq) osq) = y5 at W W4 OI1 ⊢
      have HO5 := Lib.hid (show ∃ zs : List Int, zs.length = n ∧ OwnI y5 wr.heap.size (.slice vo1 n vk1) zs from ⟨m1, HML.out, OI1.out⟩)
      have LR := Lib.hid (show w4.heap.size ≤ wr.heap.size from LWR.out)
      obtain ⟨wq, rfl⟩ : ∃ wq : World, wq = wr := ⟨_, rfl⟩
      go_wp2_with fail
      go_loopw [20] (fun jv wr => ∃ (j : Nat) (zs : List Int), j ≤ n ∧ jv = .int .i64 (j : Int) ∧ zs.length = n ∧ OwnI wr wq.heap.size (.slice vo1 n vk1) zs ∧ Below w4.heap.size w4 wr) (fun jv _ => n - (intOf jv).toNat)
      case atStart =>
        obtain ⟨zs, h1, h2⟩ := HO5.out
        exact ⟨0, zs, Nat.zero_le _, rfl, h1, h2, W4.out⟩
      case round =>
        obtain ⟨j, zs, hj, rfl, hzl, ho, hb⟩ := hrel
        have HO := Lib.hid ho
        have HB := Lib.hid hb
        have HZL := Lib.hid hzl
        clear ho hb hzl
        have hj0 : (0 : Int) ≤ (j : Int) := Int.natCast_nonneg _
        by_cases hlj : j < n
        · have fj : decide ((j : Int) < (n : Int)) = true := decide_eq_true (by omega)
          have hji : (j : Int) < (n : Int) := by omega
          have hown : wr.ownsRow wq.heap.size 3 1 (.slice vo1 n vk1) n (zs.map (Value.int .i64)) := by
            have h := HO.out
            unfold OwnI at h
            rw [HZL.out] at h
            exact h
          obtain ⟨pb, kb2, e9, hlo, -, hcell, hfr⟩ := own_form hown h0
          obtain ⟨rfl, -, rfl⟩ : vo1 = some ⟨pb, 0, none⟩ ∧ n = n ∧ vk1 = kb2 := by injection e9 with h1 h2 h3; exact ⟨h1, h2, h3⟩
          have cz := hcell j _ (by rw [List.getElem?_map, List.getElem?_eq_getElem (by rw [HZL.out]; exact hlj)]; rfl)
          have fz := hfr j
          have HO2 := Lib.hid (HO.out.put j 77)
          have HB2 := Lib.hid (HB.out.setCell (p := ⟨pb, j, none⟩) (Nat.le_trans LR.out hlo) (.int .i64 77))
          clear hown e9 hlo hcell hfr
          go_wp2_with fail
          go_roundw
          case rel => exact ⟨j + 1, _, by omega, by go_num, by rw [List.length_set]; exact HZL.out, HO2.out, HB2.out⟩
          case measure => simp [intOf]; omega
        · have fj : decide ((j : Int) < (n : Int)) = false := decide_eq_false (by omega)
          go_wp2_with fail
          go_roundw
          case rel => exact ⟨i + 1, by omega, by go_num, HB.out⟩
          case measure => simp [intOf]; omega
    · have fi : decide ((i : Int) < 2) = false := decide_eq_false (by omega)
      have hbb := BQg.out
      have gc0 : wr.cell? ⟨qg, 0, none⟩ = some (.slice ao n ka) := hbb.cell 0 _ rfl
      have gc1 : wr.cell? ⟨qg, 1, none⟩ = some b := hbb.cell 1 _ rfl
      have gc2 : wr.cell? ⟨qg, 2, none⟩ = some c := hbb.cell 2 _ rfl
      clear hbb
      have hbb := BQo.out
      have oc0 : wr.cell? ⟨qo, 0, none⟩ = some (.slice oa n oka) := hbb.cell 0 _ rfl
      have oc1 : wr.cell? ⟨qo, 1, none⟩ = some (.slice ob_ g.prio.length okb) := hbb.cell 1 _ rfl
      have oc2 : wr.cell? ⟨qo, 2, none⟩ = some (.slice oc_ g.moves.length okc) := hbb.cell 2 _ rfl
      clear hbb
      go_wp2_with fail
      refine (samegame_any g g _ _ _ GO.out (HV.out.on W.out)).mono ?_
      rintro e w9 ⟨rfl, hb⟩
      rw [decide_eq_true rfl]
      replace W := Lib.hid (W.out.trans (hb.mono W.out.size))
      clear hb
      go_wp2_with fail
      exact bodyPost_ret (v := .bool true) (by simp [results, Tryd.results3, go_sem]) rfl ⟨rfl, W.out⟩

set_option maxRecDepth 100000 in
set_option maxHeartbeats 4000000 in
theorem sets_1 (g : P.G) (I To : BitVec 256) (p : Int) (v : Value) (w : World) (hv : GameV w v g) (hT : Tab w) (hok : g.ok = true) (hp : p = 1) : Calls Tryd.prog 3 #[v, .agg #[.int .u64 (P.wrd I 0), .int .u64 (P.wrd I 1), .int .u64 (P.wrd I 2), .int .u64 (P.wrd I 3)], .int .i64 p, .agg #[.int .u64 (P.wrd To 0), .int .u64 (P.wrd To 1), .int .u64 (P.wrd To 2), .int .u64 (P.wrd To 3)]] w fun e w' => e = .returned (.bool true) ∧ Below w.heap.size w w' := by
  have f0 : (p != 0) = true := by rw [bne_iff_ne]; omega
  have f1 : (p != 1) = false := by rw [bne_eq_false_iff_eq]; exact hp
  have HP := Lib.hid (show p = 0 ∨ p = 1 by omega)
  have hr := (P.G.ok_iff g).1 hok
  have hmany := hr.many
  have h0 := hr.pos
  obtain ⟨n, hn⟩ : ∃ n, g.owner.length = n := ⟨_, rfl⟩
  rw [hn] at hmany h0
  have HN := Lib.hid hn
  have HR := Lib.hid hr
  have HFI := Lib.hid hv.fits
  have HV := Lib.hid hv
  have HOK := Lib.hid hok
  obtain ⟨av, b, c, rfl, ⟨ao, ka, rfl, -⟩, -⟩ := hv
  rw [hn] at HV ⊢
  clear hok hp hr hn
  have T := Lib.hid hT
  clear hT
  go_enter Tryd.func3, Tryd.ntmps3
  go_wp2_with fail
  have bx0 : Box (((w.alloc (.cells #[.slice ao n ka, b, c] 25)).alloc (.cells #[.int .u64 (P.wrd I 0), .int .u64 (P.wrd I 1), .int .u64 (P.wrd I 2), .int .u64 (P.wrd I 3)] 28)).alloc (.cells #[.int .u64 (P.wrd To 0), .int .u64 (P.wrd To 1), .int .u64 (P.wrd To 2), .int .u64 (P.wrd To 3)] 28)) (w.heap.size) 25 #[.slice ao n ka, b, c] := Box.alloc (Box.alloc (Box.new w 25 #[.slice ao n ka, b, c]) (.cells #[.int .u64 (P.wrd I 0), .int .u64 (P.wrd I 1), .int .u64 (P.wrd I 2), .int .u64 (P.wrd I 3)] 28)) (.cells #[.int .u64 (P.wrd To 0), .int .u64 (P.wrd To 1), .int .u64 (P.wrd To 2), .int .u64 (P.wrd To 3)] 28)
  have bx1 : Box (((w.alloc (.cells #[.slice ao n ka, b, c] 25)).alloc (.cells #[.int .u64 (P.wrd I 0), .int .u64 (P.wrd I 1), .int .u64 (P.wrd I 2), .int .u64 (P.wrd I 3)] 28)).alloc (.cells #[.int .u64 (P.wrd To 0), .int .u64 (P.wrd To 1), .int .u64 (P.wrd To 2), .int .u64 (P.wrd To 3)] 28)) (w.heap.size + 1) 28 #[.int .u64 (P.wrd I 0), .int .u64 (P.wrd I 1), .int .u64 (P.wrd I 2), .int .u64 (P.wrd I 3)] := by
    have := Box.alloc (Box.new (w.alloc (.cells #[.slice ao n ka, b, c] 25)) 28 #[.int .u64 (P.wrd I 0), .int .u64 (P.wrd I 1), .int .u64 (P.wrd I 2), .int .u64 (P.wrd I 3)]) (.cells #[.int .u64 (P.wrd To 0), .int .u64 (P.wrd To 1), .int .u64 (P.wrd To 2), .int .u64 (P.wrd To 3)] 28)
    simpa using this
  have bx2 : Box (((w.alloc (.cells #[.slice ao n ka, b, c] 25)).alloc (.cells #[.int .u64 (P.wrd I 0), .int .u64 (P.wrd I 1), .int .u64 (P.wrd I 2), .int .u64 (P.wrd I 3)] 28)).alloc (.cells #[.int .u64 (P.wrd To 0), .int .u64 (P.wrd To 1), .int .u64 (P.wrd To 2), .int .u64 (P.wrd To 3)] 28)) (w.heap.size + 1 + 1) 28 #[.int .u64 (P.wrd To 0), .int .u64 (P.wrd To 1), .int .u64 (P.wrd To 2), .int .u64 (P.wrd To 3)] := by
    have := Box.new ((w.alloc (.cells #[.slice ao n ka, b, c] 25)).alloc (.cells #[.int .u64 (P.wrd I 0), .int .u64 (P.wrd I 1), .int .u64 (P.wrd I 2), .int .u64 (P.wrd I 3)] 28)) 28 #[.int .u64 (P.wrd To 0), .int .u64 (P.wrd To 1), .int .u64 (P.wrd To 2), .int .u64 (P.wrd To 3)]
    simpa using this
  have hbq : Below w.heap.size w (((w.alloc (.cells #[.slice ao n ka, b, c] 25)).alloc (.cells #[.int .u64 (P.wrd I 0), .int .u64 (P.wrd I 1), .int .u64 (P.wrd I 2), .int .u64 (P.wrd I 3)] 28)).alloc (.cells #[.int .u64 (P.wrd To 0), .int .u64 (P.wrd To 1), .int .u64 (P.wrd To 2), .int .u64 (P.wrd To 3)] 28)) := (((Below.refl _ w).alloc (Nat.le_refl _) _).alloc (by simp) _).alloc (by simp; omega) _
  have lt0 : w.heap.size < w.heap.size + 1 := Nat.lt_succ_self _
  have lt1 : w.heap.size + 1 < w.heap.size + 1 + 1 := Nat.lt_succ_self _
  have hle0 : w.heap.size ≤ w.heap.size := Nat.le_refl _
  generalize (((w.alloc (.cells #[.slice ao n ka, b, c] 25)).alloc (.cells #[.int .u64 (P.wrd I 0), .int .u64 (P.wrd I 1), .int .u64 (P.wrd I 2), .int .u64 (P.wrd I 3)] 28)).alloc (.cells #[.int .u64 (P.wrd To 0), .int .u64 (P.wrd To 1), .int .u64 (P.wrd To 2), .int .u64 (P.wrd To 3)] 28)) = w0 at bx0 bx1 bx2 hbq  ⊢
  have BQg := Lib.hid bx0
  have BQi := Lib.hid bx1
  have BQt := Lib.hid bx2
  have W := Lib.hid hbq
  have LTgi := Lib.hid lt0
  have LTit := Lib.hid lt1
  have LEg := Lib.hid hle0
  clear hbq hle0 bx0 bx1 bx2 lt0 lt1
  generalize w.heap.size + 1 + 1 = qt at BQt LTit ⊢
  generalize w.heap.size + 1 = qi at BQi LTit LTgi ⊢
  obtain ⟨qg, hqg⟩ : ∃ qg, w.heap.size = qg := ⟨_, rfl⟩
  rw [hqg] at BQg LTgi ⊢
  have LEg : Hid (w.heap.size ≤ qg) := Lib.hid (by omega)
  clear hqg
  refine (shown_any _ (T.out.on W.out)).mono ?_
  rintro e w1 ⟨rfl, hb⟩
  replace BQg := Lib.hid (BQg.out.keep (grown_of_below hb none))
  replace BQi := Lib.hid (BQi.out.keep (grown_of_below hb none))
  replace BQt := Lib.hid (BQt.out.keep (grown_of_below hb none))
  replace W := Lib.hid (W.out.trans (hb.mono W.out.size))
  clear hb
  have hbb := BQg.out
  have gc0 : w1.cell? ⟨qg, 0, none⟩ = some (.slice ao n ka) := hbb.cell 0 _ rfl
  have gc1 : w1.cell? ⟨qg, 1, none⟩ = some b := hbb.cell 1 _ rfl
  have gc2 : w1.cell? ⟨qg, 2, none⟩ = some c := hbb.cell 2 _ rfl
  clear hbb
  go_wp2_with fail
  refine (is_any g _ _ (HV.out.on W.out)).mono ?_
  rintro e w2 ⟨rfl, hb⟩
  replace BQg := Lib.hid (BQg.out.keep (grown_of_below hb none))
  replace BQi := Lib.hid (BQi.out.keep (grown_of_below hb none))
  replace BQt := Lib.hid (BQt.out.keep (grown_of_below hb none))
  replace W := Lib.hid (W.out.trans (hb.mono W.out.size))
  rw [HOK.out]
  clear hb gc0 gc1 gc2
  have hbb := BQg.out
  have gc0 : w2.cell? ⟨qg, 0, none⟩ = some (.slice ao n ka) := hbb.cell 0 _ rfl
  have gc1 : w2.cell? ⟨qg, 1, none⟩ = some b := hbb.cell 1 _ rfl
  have gc2 : w2.cell? ⟨qg, 2, none⟩ = some c := hbb.cell 2 _ rfl
  clear hbb
  go_wp2_with fail
  refine (rcopy_any g _ _ (HV.out.on W.out)).mono ?_
  rintro e w3 ⟨oav, obv, ocv, oL, rfl, ho, hb⟩
  have hgo := ho.game HFI.out
  obtain ⟨oa, oka, ob_, okb, oc_, okc, rfl, rfl, rfl⟩ := ho.forms
  rw [HN.out] at hgo ⊢
  replace BQg := Lib.hid (BQg.out.keep (grown_of_below hb none))
  replace BQi := Lib.hid (BQi.out.keep (grown_of_below hb none))
  replace BQt := Lib.hid (BQt.out.keep (grown_of_below hb none))
  replace W := Lib.hid (W.out.trans (hb.mono W.out.size))
  have GO := Lib.hid hgo
  clear hb ho hgo gc0 gc1 gc2
  go_upto_region 4 with (fail)
  have bq : Box (w3.alloc (.cells #[.slice oa n oka, .slice ob_ g.prio.length okb, .slice oc_ g.moves.length okc] 25)) w3.heap.size 25 #[.slice oa n oka, .slice ob_ g.prio.length okb, .slice oc_ g.moves.length okc] := Box.new _ _ _
  have hgq := World.grownBy_alloc w3 (.cells #[.slice oa n oka, .slice ob_ g.prio.length okb, .slice oc_ g.moves.length okc] 25) none
  replace BQg := Lib.hid (BQg.out.keep hgq)
  replace BQi := Lib.hid (BQi.out.keep hgq)
  replace BQt := Lib.hid (BQt.out.keep hgq)
  replace W := Lib.hid (W.out.trans ((below_of_grown hgq).mono W.out.size))
  replace GO := Lib.hid (GO.out.on (below_of_grown hgq))
  generalize (w3.alloc (.cells #[.slice oa n oka, .slice ob_ g.prio.length okb, .slice oc_ g.moves.length okc] 25)) = w4 at bq BQg BQi BQt W GO ⊢
  generalize w3.heap.size = qo at bq ⊢
  have BQo := Lib.hid bq
  clear bq hgq
  have HBg := BQg
  have HBi := BQi
  have HBt := BQt
  have HBo := BQo
  have HGO := GO
  have HW4 := W
  clear BQg BQi BQt BQo GO W
  go_wp2_with fail
  go_loopw [12] (fun iv wr => ∃ i : Nat, i ≤ 2 ∧ iv = .int .i64 (i : Int) ∧ Below w4.heap.size w4 wr) (fun iv _ => 2 - (intOf iv).toNat)
  case atStart => exact ⟨0, by omega, rfl, Below.refl _ _⟩
  case round =>
    obtain ⟨i, hi, rfl, hbw⟩ := hrel
    have W4 := Lib.hid hbw
    have BQg := Lib.hid (HBg.out.keep (grown_of_below hbw none))
    have BQi := Lib.hid (HBi.out.keep (grown_of_below hbw none))
    have BQt := Lib.hid (HBt.out.keep (grown_of_below hbw none))
    have BQo := Lib.hid (HBo.out.keep (grown_of_below hbw none))
    have GO := Lib.hid (HGO.out.on hbw)
    have W := Lib.hid (HW4.out.trans (hbw.mono HW4.out.size))
    have LWR := Lib.hid hbw.size
    clear hbw
    have hi0 : (0 : Int) ≤ (i : Int) := Int.natCast_nonneg _
    by_cases hlt : i < 2
    · have fi : decide ((i : Int) < 2) = true := decide_eq_true (by omega)
      go_upto_region 7 with (fail)
      have hbb := BQo.out
      have gc0 : wr.cell? ⟨qo, 0, none⟩ = some (.slice oa n oka) := hbb.cell 0 _ rfl
      have gc1 : wr.cell? ⟨qo, 1, none⟩ = some (.slice ob_ g.prio.length okb) := hbb.cell 1 _ rfl
      have gc2 : wr.cell? ⟨qo, 2, none⟩ = some (.slice oc_ g.moves.length okc) := hbb.cell 2 _ rfl
      clear hbb
      have hbb := BQi.out
      have ic0 : wr.cell? ⟨qi, 0, none⟩ = some (.int .u64 (P.wrd I 0)) := hbb.cell 0 _ rfl
      have ic1 : wr.cell? ⟨qi, 1, none⟩ = some (.int .u64 (P.wrd I 1)) := hbb.cell 1 _ rfl
      have ic2 : wr.cell? ⟨qi, 2, none⟩ = some (.int .u64 (P.wrd I 2)) := hbb.cell 2 _ rfl
      have ic3 : wr.cell? ⟨qi, 3, none⟩ = some (.int .u64 (P.wrd I 3)) := hbb.cell 3 _ rfl
      clear hbb
      have hbb := BQt.out
      have tc0 : wr.cell? ⟨qt, 0, none⟩ = some (.int .u64 (P.wrd To 0)) := hbb.cell 0 _ rfl
      have tc1 : wr.cell? ⟨qt, 1, none⟩ = some (.int .u64 (P.wrd To 1)) := hbb.cell 1 _ rfl
      have tc2 : wr.cell? ⟨qt, 2, none⟩ = some (.int .u64 (P.wrd To 2)) := hbb.cell 2 _ rfl
      have tc3 : wr.cell? ⟨qt, 3, none⟩ = some (.int .u64 (P.wrd To 3)) := hbb.cell 3 _ rfl
      clear hbb
      go_wp2_with fail
      refine (attract_any g I To p _ _ GO.out (T.out.on W.out)).mono ?_
      rintro e u1 ⟨v1, m1, rfl, ho1, hm1, hb⟩
      obtain ⟨vo1, vk1, rfl, -⟩ := own_at ho1
      replace BQg := Lib.hid (BQg.out.keep (grown_of_below hb none))
      replace BQi := Lib.hid (BQi.out.keep (grown_of_below hb none))
      replace BQt := Lib.hid (BQt.out.keep (grown_of_below hb none))
      replace BQo := Lib.hid (BQo.out.keep (grown_of_below hb none))
      replace GO := Lib.hid (GO.out.on hb)
      replace W := Lib.hid (W.out.trans (hb.mono W.out.size))
      replace W4 := Lib.hid (W4.out.trans (hb.mono W4.out.size))
      obtain ⟨s1, hs1⟩ : ∃ s, P.attOf g I p To = s := ⟨_, rfl⟩
      rw [hs1]
      have HS1 := Lib.hid hs1
      clear hb hs1 gc0 gc1 gc2 ic0 ic1 ic2 ic3 tc0 tc1 tc2 tc3
      have HO1 := Lib.hid ho1
      have HM1 := Lib.hid hm1
      clear ho1 hm1
      have OI1 := Lib.hid (show OwnI u1 wr.heap.size (.slice vo1 m1.length vk1) m1 from HO1.out)
      go_upto_region 8 with (fail)
      have bq : Box (u1.alloc (.cells #[.int .u64 (P.wrd s1 0), .int .u64 (P.wrd s1 1), .int .u64 (P.wrd s1 2), .int .u64 (P.wrd s1 3)] 28)) u1.heap.size 28 #[.int .u64 (P.wrd s1 0), .int .u64 (P.wrd s1 1), .int .u64 (P.wrd s1 2), .int .u64 (P.wrd s1 3)] := Box.new _ _ _
      have hgq := World.grownBy_alloc u1 (.cells #[.int .u64 (P.wrd s1 0), .int .u64 (P.wrd s1 1), .int .u64 (P.wrd s1 2), .int .u64 (P.wrd s1 3)] 28) none
      replace BQg := Lib.hid (BQg.out.keep hgq)
      replace BQi := Lib.hid (BQi.out.keep hgq)
      replace BQt := Lib.hid (BQt.out.keep hgq)
      replace BQo := Lib.hid (BQo.out.keep hgq)
      replace GO := Lib.hid (GO.out.on (below_of_grown hgq))
      replace W := Lib.hid (W.out.trans ((below_of_grown hgq).mono W.out.size))
      replace W4 := Lib.hid (W4.out.trans ((below_of_grown hgq).mono W4.out.size))
      replace OI1 := Lib.hid (OI1.out.grown hgq)
      generalize (u1.alloc (.cells #[.int .u64 (P.wrd s1 0), .int .u64 (P.wrd s1 1), .int .u64 (P.wrd s1 2), .int .u64 (P.wrd s1 3)] 28)) = x1 at bq BQg BQi BQt BQo GO W W4 OI1 ⊢
      generalize u1.heap.size = q1 at bq ⊢
      have BQ1 := Lib.hid bq
      clear bq hgq
      have hm1 := HM1.out
      rw [if_pos ⟨HOK.out, HP.out⟩] at hm1
      obtain ⟨A, Q, ou, vf, hrd, hme⟩ := hm1
      have hml : m1.length = n := by rw [hme, P.rowOf_len]; exact HN.out
      rw [hml] at OI1 ⊢
      have HML := Lib.hid hml
      have HME := Lib.hid hme
      have HRD := Lib.hid hrd
      clear hrd hme hml
      have hbb := BQg.out
      have gc0 : x1.cell? ⟨qg, 0, none⟩ = some (.slice ao n ka) := hbb.cell 0 _ rfl
      have gc1 : x1.cell? ⟨qg, 1, none⟩ = some b := hbb.cell 1 _ rfl
      have gc2 : x1.cell? ⟨qg, 2, none⟩ = some c := hbb.cell 2 _ rfl
      clear hbb
      go_upto_region 12 with (fail)
      clear gc0 gc1 gc2
      have hbb := BQi.out
      have ic0 : x1.cell? ⟨qi, 0, none⟩ = some (.int .u64 (P.wrd I 0)) := hbb.cell 0 _ rfl
      have ic1 : x1.cell? ⟨qi, 1, none⟩ = some (.int .u64 (P.wrd I 1)) := hbb.cell 1 _ rfl
      have ic2 : x1.cell? ⟨qi, 2, none⟩ = some (.int .u64 (P.wrd I 2)) := hbb.cell 2 _ rfl
      have ic3 : x1.cell? ⟨qi, 3, none⟩ = some (.int .u64 (P.wrd I 3)) := hbb.cell 3 _ rfl
      clear hbb
      go_wp2_with fail
      refine (truths_any I n hmany _).mono ?_
      rintro e y1 ⟨vi, rfl, hoi, hb⟩
      have TI := Lib.hid (hoi.bl h0)
      replace BQg := Lib.hid (BQg.out.keep (grown_of_below hb none))
      replace BQi := Lib.hid (BQi.out.keep (grown_of_below hb none))
      replace BQt := Lib.hid (BQt.out.keep (grown_of_below hb none))
      replace BQo := Lib.hid (BQo.out.keep (grown_of_below hb none))
      replace BQ1 := Lib.hid (BQ1.out.keep (grown_of_below hb none))
      replace W := Lib.hid (W.out.trans (hb.mono W.out.size))
      replace W4 := Lib.hid (W4.out.trans (hb.mono W4.out.size))
      replace OI1 := Lib.hid (OI1.out.grown (grown_of_below hb none))
      clear hb hoi ic0 ic1 ic2 ic3
      have hbb := BQt.out
      have tc0 : y1.cell? ⟨qt, 0, none⟩ = some (.int .u64 (P.wrd To 0)) := hbb.cell 0 _ rfl
      have tc1 : y1.cell? ⟨qt, 1, none⟩ = some (.int .u64 (P.wrd To 1)) := hbb.cell 1 _ rfl
      have tc2 : y1.cell? ⟨qt, 2, none⟩ = some (.int .u64 (P.wrd To 2)) := hbb.cell 2 _ rfl
      have tc3 : y1.cell? ⟨qt, 3, none⟩ = some (.int .u64 (P.wrd To 3)) := hbb.cell 3 _ rfl
      clear hbb
      go_wp2_with fail
      refine (truths_any To n hmany _).mono ?_
      rintro e y2 ⟨vt, rfl, hot, hb⟩
      have TT := Lib.hid (hot.bl h0)
      replace BQg := Lib.hid (BQg.out.keep (grown_of_below hb none))
      replace BQi := Lib.hid (BQi.out.keep (grown_of_below hb none))
      replace BQt := Lib.hid (BQt.out.keep (grown_of_below hb none))
      replace BQo := Lib.hid (BQo.out.keep (grown_of_below hb none))
      replace BQ1 := Lib.hid (BQ1.out.keep (grown_of_below hb none))
      replace W := Lib.hid (W.out.trans (hb.mono W.out.size))
      replace W4 := Lib.hid (W4.out.trans (hb.mono W4.out.size))
      replace OI1 := Lib.hid (OI1.out.grown (grown_of_below hb none))
      replace TI := Lib.hid (TI.out.on hb)
      clear hb hot tc0 tc1 tc2 tc3
      have hbb := BQg.out
      have gc0 : y2.cell? ⟨qg, 0, none⟩ = some (.slice ao n ka) := hbb.cell 0 _ rfl
      have gc1 : y2.cell? ⟨qg, 1, none⟩ = some b := hbb.cell 1 _ rfl
      have gc2 : y2.cell? ⟨qg, 2, none⟩ = some c := hbb.cell 2 _ rfl
      clear hbb
      go_wp2_with fail
      refine (rattract_any g HR.out I To p _ _ _ _ (HV.out.on W.out) (by rw [HN.out]; exact TI.out) (by rw [HN.out]; exact TT.out)).mono ?_
      rintro e y3 ⟨va, fa, rfl, hoa, hfa, hb⟩
      rw [HN.out] at hoa hfa
      have TA := Lib.hid (hoa.bl h0)
      have HFA := Lib.hid hfa
      replace BQg := Lib.hid (BQg.out.keep (grown_of_below hb none))
      replace BQi := Lib.hid (BQi.out.keep (grown_of_below hb none))
      replace BQt := Lib.hid (BQt.out.keep (grown_of_below hb none))
      replace BQo := Lib.hid (BQo.out.keep (grown_of_below hb none))
      replace BQ1 := Lib.hid (BQ1.out.keep (grown_of_below hb none))
      replace W := Lib.hid (W.out.trans (hb.mono W.out.size))
      replace W4 := Lib.hid (W4.out.trans (hb.mono W4.out.size))
      replace OI1 := Lib.hid (OI1.out.grown (grown_of_below hb none))
      replace TI := Lib.hid (TI.out.on hb)
      replace TT := Lib.hid (TT.out.on hb)
      clear hb hoa hfa gc0 gc1 gc2
      have hbb := BQg.out
      have gc0 : y3.cell? ⟨qg, 0, none⟩ = some (.slice ao n ka) := hbb.cell 0 _ rfl
      have gc1 : y3.cell? ⟨qg, 1, none⟩ = some b := hbb.cell 1 _ rfl
      have gc2 : y3.cell? ⟨qg, 2, none⟩ = some c := hbb.cell 2 _ rfl
      clear hbb
      have hAb : ∀ y, y < n → fa y = A.getLsbD y := fun y hy => by
        rw [Bool.eq_iff_iff, HFA.out y hy, HRD.out.done HR.out y]
        exact (P.att_full HR.out y).symm
      have hIb : ∀ y, y < n → I.getLsbD y = (I &&& P.full (g.owner.length : Int)).getLsbD y := fun y hy => by
        rw [BitVec.getLsbD_and, P.getLsbD_full, decide_eq_true (by rw [HN.out]; omega), Bool.and_true]
      have TI2 := Lib.hid (TI.out.congr hIb)
      have TA2 := Lib.hid (TA.out.congr hAb)
      have IMV := Lib.hid (show Ints y3 (.slice vo1 n vk1) (P.rowOf g.owner.length vf) from by
        rw [← HME.out]
        exact OI1.out.ints (by rw [HML.out]; omega))
      clear hAb hIb
      go_wp2_with fail
      refine (forces_any g HR.out (I &&& P.full (g.owner.length : Int)) To A p Q ou vf HRD.out _ _ _ _ _ _ (HV.out.on W.out) (by have h := TI2.out; rw [← HN.out] at h; exact h) (by rw [HN.out]; exact TT.out) (by rw [HN.out]; exact TA2.out) IMV.out).mono ?_
      rintro e y4 ⟨rfl, hb⟩
      replace BQg := Lib.hid (BQg.out.keep (grown_of_below hb none))
      replace BQi := Lib.hid (BQi.out.keep (grown_of_below hb none))
      replace BQt := Lib.hid (BQt.out.keep (grown_of_below hb none))
      replace BQo := Lib.hid (BQo.out.keep (grown_of_below hb none))
      replace BQ1 := Lib.hid (BQ1.out.keep (grown_of_below hb none))
      replace W := Lib.hid (W.out.trans (hb.mono W.out.size))
      replace W4 := Lib.hid (W4.out.trans (hb.mono W4.out.size))
      replace OI1 := Lib.hid (OI1.out.grown (grown_of_below hb none))
      replace TA := Lib.hid (TA.out.on hb)
      clear hb gc0 gc1 gc2
      have hse : P.setK fa n = s1 := by
        rw [← HS1.out, P.attOf_ok HR.out HP.out]
        refine P.set_ext fun x _ => ?_
        rw [P.setK_bit fa n (by omega), Bool.and_eq_true, decide_eq_true_eq, P.attSet_bit HR.out]
        constructor
        · rintro ⟨h1, h2⟩
          exact (HFA.out x h1).1 h2
        · intro h
          have hx : x < n := by rw [← HN.out]; exact h.bound.1
          exact ⟨hx, (HFA.out x hx).2 h⟩
      have c1 := fun d os => rSet y4 fa n hmany va TA.out d os
      rw [hse] at c1
      have eqa := fun w => set_neq s1 s1 w
      rw [decide_eq_true rfl] at eqa
      clear hse
      have ky0 : ∀ (d : Nat) (os : Array Obj), (grow (redrawn y4 d) os).cell? ⟨q1, 0, none⟩ = some (.int .u64 (P.wrd s1 0)) := fun d os => (BQ1.out.keep (grown_of_below (below_regrown y4 d os) none)).cell 0 _ rfl
      have ky1 : ∀ (d : Nat) (os : Array Obj), (grow (redrawn y4 d) os).cell? ⟨q1, 1, none⟩ = some (.int .u64 (P.wrd s1 1)) := fun d os => (BQ1.out.keep (grown_of_below (below_regrown y4 d os) none)).cell 1 _ rfl
      have ky2 : ∀ (d : Nat) (os : Array Obj), (grow (redrawn y4 d) os).cell? ⟨q1, 2, none⟩ = some (.int .u64 (P.wrd s1 2)) := fun d os => (BQ1.out.keep (grown_of_below (below_regrown y4 d os) none)).cell 2 _ rfl
      have ky3 : ∀ (d : Nat) (os : Array Obj), (grow (redrawn y4 d) os).cell? ⟨q1, 3, none⟩ = some (.int .u64 (P.wrd s1 3)) := fun d os => (BQ1.out.keep (grown_of_below (below_regrown y4 d os) none)).cell 3 _ rfl
      go_upto_region 16 with (fail)
      refine wp_region_quiet_below (by kernel_rfl) (by kernel_rfl) ?_
      repeat (first | go_big_quiet_step (with_reducible exact c1 _ _) | quiet_step (with_reducible exact c1 _ _))
      refine wpQuiet_nil ?_
      intro _ hw'
      obtain ⟨⟨dq, osq⟩, hw''⟩ := hw'
      subst hw''
      clear c1 eqa ky0 ky1 ky2 ky3
      have hb := below_regrown y4 dq osq
      replace W := Lib.hid (W.out.trans (hb.mono W.out.size))
      replace W4 := Lib.hid (W4.out.trans (hb.mono W4.out.size))
      replace OI1 := Lib.hid (OI1.out.grown (grown_of_below hb none))
      clear hb
      generalize (grow (redrawn y4 dq) osq) = y5 at W W4 OI1 ⊢
      have HO5 := Lib.hid (show ∃ zs : List Int, zs.length = n ∧ OwnI y5 wr.heap.size (.slice vo1 n vk1) zs from ⟨m1, HML.out, OI1.out⟩)
      have LR := Lib.hid (show w4.heap.size ≤ wr.heap.size from LWR.out)
      obtain ⟨wq, rfl⟩ : ∃ wq : World, wq = wr := ⟨_, rfl⟩
      go_wp2_with fail
      go_loopw [20] (fun jv wr => ∃ (j : Nat) (zs : List Int), j ≤ n ∧ jv = .int .i64 (j : Int) ∧ zs.length = n ∧ OwnI wr wq.heap.size (.slice vo1 n vk1) zs ∧ Below w4.heap.size w4 wr) (fun jv _ => n - (intOf jv).toNat)
      case atStart =>
        obtain ⟨zs, h1, h2⟩ := HO5.out
        exact ⟨0, zs, Nat.zero_le _, rfl, h1, h2, W4.out⟩
      case round =>
        obtain ⟨j, zs, hj, rfl, hzl, ho, hb⟩ := hrel
        have HO := Lib.hid ho
        have HB := Lib.hid hb
        have HZL := Lib.hid hzl
        clear ho hb hzl
        have hj0 : (0 : Int) ≤ (j : Int) := Int.natCast_nonneg _
        by_cases hlj : j < n
        · have fj : decide ((j : Int) < (n : Int)) = true := decide_eq_true (by omega)
          have hji : (j : Int) < (n : Int) := by omega
          have hown : wr.ownsRow wq.heap.size 3 1 (.slice vo1 n vk1) n (zs.map (Value.int .i64)) := by
            have h := HO.out
            unfold OwnI at h
            rw [HZL.out] at h
            exact h
          obtain ⟨pb, kb2, e9, hlo, -, hcell, hfr⟩ := own_form hown h0
          obtain ⟨rfl, -, rfl⟩ : vo1 = some ⟨pb, 0, none⟩ ∧ n = n ∧ vk1 = kb2 := by injection e9 with h1 h2 h3; exact ⟨h1, h2, h3⟩
          have cz := hcell j _ (by rw [List.getElem?_map, List.getElem?_eq_getElem (by rw [HZL.out]; exact hlj)]; rfl)
          have fz := hfr j
          have HO2 := Lib.hid (HO.out.put j 77)
          have HB2 := Lib.hid (HB.out.setCell (p := ⟨pb, j, none⟩) (Nat.le_trans LR.out hlo) (.int .i64 77))
          clear hown e9 hlo hcell hfr
          go_wp2_with fail
          go_roundw
          case rel => exact ⟨j + 1, _, by omega, by go_num, by rw [List.length_set]; exact HZL.out, HO2.out, HB2.out⟩
          case measure => simp [intOf]; omega
        · have fj : decide ((j : Int) < (n : Int)) = false := decide_eq_false (by omega)
          go_wp2_with fail
          go_roundw
          case rel => exact ⟨i + 1, by omega, by go_num, HB.out⟩
          case measure => simp [intOf]; omega
    · have fi : decide ((i : Int) < 2) = false := decide_eq_false (by omega)
      have hbb := BQg.out
      have gc0 : wr.cell? ⟨qg, 0, none⟩ = some (.slice ao n ka) := hbb.cell 0 _ rfl
      have gc1 : wr.cell? ⟨qg, 1, none⟩ = some b := hbb.cell 1 _ rfl
      have gc2 : wr.cell? ⟨qg, 2, none⟩ = some c := hbb.cell 2 _ rfl
      clear hbb
      have hbb := BQo.out
      have oc0 : wr.cell? ⟨qo, 0, none⟩ = some (.slice oa n oka) := hbb.cell 0 _ rfl
      have oc1 : wr.cell? ⟨qo, 1, none⟩ = some (.slice ob_ g.prio.length okb) := hbb.cell 1 _ rfl
      have oc2 : wr.cell? ⟨qo, 2, none⟩ = some (.slice oc_ g.moves.length okc) := hbb.cell 2 _ rfl
      clear hbb
      go_wp2_with fail
      refine (samegame_any g g _ _ _ GO.out (HV.out.on W.out)).mono ?_
      rintro e w9 ⟨rfl, hb⟩
      rw [decide_eq_true rfl]
      replace W := Lib.hid (W.out.trans (hb.mono W.out.size))
      clear hb
      go_wp2_with fail
      exact bodyPost_ret (v := .bool true) (by simp [results, Tryd.results3, go_sem]) rfl ⟨rfl, W.out⟩

theorem sets_any (g : P.G) (I To : BitVec 256) (p : Int) (v : Value) (w : World) (hv : GameV w v g) (hT : Tab w) : Calls Tryd.prog 3 #[v, .agg #[.int .u64 (P.wrd I 0), .int .u64 (P.wrd I 1), .int .u64 (P.wrd I 2), .int .u64 (P.wrd I 3)], .int .i64 p, .agg #[.int .u64 (P.wrd To 0), .int .u64 (P.wrd To 1), .int .u64 (P.wrd To 2), .int .u64 (P.wrd To 3)]] w fun e w' => e = .returned (.bool true) ∧ Below w.heap.size w w' := by
  by_cases hok : g.ok = true
  · by_cases h0 : p = 0
    · exact sets_0 g I To p v w hv hT hok h0
    · by_cases h1 : p = 1
      · exact sets_1 g I To p v w hv hT hok h1
      · exact sets_none g I To p v w hv hT hok h0 h1
  · exact sets_wrong g I To p v w hv hT (by simpa using hok)
end W
end Go.Proofs.YtpfponiidppldaaDoor
