/- MeasureLifts: the walk. -/
import Derived.Test.YteeaojciobmcaaaShown
import Derived.Test.YteeaojciobmcaaaRLift
import Derived.Test.YteeaojciobmcaaaTupsF
import Derived.Test.YteeaojciobmcaaaCpy
import Derived.Test.YteeaojciobmcaaaSam
import Derived.Test.YteeaojciobmcaaaFrame
import Derived.Deep.Cut
import Derived.Lib.Hide
import Derived.Deep.QuietTactic
import Derived.BigQuiet
namespace Go.Proofs.Yteeaojciobmcaaa
open Go.RowKit
namespace W

def mark7 : P.Tup := ⟨false, -7, 0, 0, 0⟩
theorem prefix_tups {w : World} {lo : Nat} {gb pk m : Nat} {l : List P.Tup} (hm : l.length = m) (hc : m ≤ 17592186043904) (h : OwnT w lo (.slice (some ⟨gb, 0, none⟩) (m + 1) pk) (l ++ [mark7])) : TupsV w (.slice (some ⟨gb, 0, none⟩) m pk) l ∧ w.cell? ⟨gb, m * 5 + 1, none⟩ = some (.int .i64 (-7)) ∧ m ≤ pk := by
  have hl : (l ++ [mark7]).length = m + 1 := by simp [hm]
  have hw : w.ownsRow lo 26 5 (.slice (some ⟨gb, 0, none⟩) (m + 1) pk) (m + 1) (flatL (l ++ [mark7])) := by
    have := h
    unfold OwnT at this
    rw [hl] at this
    exact this
  refine ⟨⟨_, pk, by rw [hm], by omega, .inr ⟨gb, 0, rfl, (World.ownsRow.lt (w := w) h gb rfl).2, fun j hj i u hu => ?_⟩⟩, ?_, ?_⟩
  · have hi : i < 5 := (List.getElem?_eq_some_iff.1 hu).1
    rw [Nat.zero_add, hw.cellAt (j * 5 + i) (by omega), flatL_at _ j i (by omega) hi]
    rw [List.getD_eq_getElem?_getD, List.getElem?_append_left hj, ← List.getD_eq_getElem?_getD]
    exact hu
  · rw [hw.cellAt (m * 5 + 1) (by omega), flatL_at _ m 1 (by omega) (by omega)]
    rw [List.getD_eq_getElem?_getD, List.getElem?_append_right (by omega), hm, Nat.sub_self]
    rfl
  · rcases hw.2 with ⟨e, _⟩ | ⟨g, cap, cur, e, _, _, hnc, _⟩
    · cases e
    · injection e with e1 e2 e3
      omega
set_option maxRecDepth 100000 in
set_option maxHeartbeats 4000000 in
theorem lifts_any (g : P.G) (l : List P.Tup) (z : Int) (v vl : Value) (w : World) (hv : GameV w v g) (hV : TupsV w vl l) (hsz : l.length * 40 ≤ 140737488351232) (hin : ∀ i, i < l.length → Fr.In64 (l.getD i .zero)) : Calls Try.prog 5 #[v, vl, .int .i64 z] w fun e w' => e = .returned (.bool true) ∧ Below w.heap.size w w' := by
  have HLOW : Hid (∀ j k, k < 4 → -9223372036854775808 ≤ ct (l.getD j .zero) k) := Lib.hid (fun j k hk => by
    rcases Nat.lt_or_ge j l.length with h | h
    · exact (hin j h k hk).1
    · rw [List.getD_eq_getElem?_getD, List.getElem?_eq_none h]
      match k, hk with
      | 0, _ | 1, _ | 2, _ | 3, _ => decide)
  have HFI := Lib.hid hv.fits
  have HV := Lib.hid hv
  have HVL := Lib.hid hV
  obtain ⟨a, b, c, rfl, -⟩ := hv
  obtain ⟨lo, lk, rfl, -, -⟩ := hV
  obtain ⟨m, hm⟩ : ∃ m, l.length = m := ⟨_, rfl⟩
  rw [hm] at hsz HVL ⊢
  have HM := Lib.hid hm
  have HSZ := Lib.hid hsz
  have hmb : m ≤ 3600000000000 := by omega
  clear hm hin hsz
  go_enter Try.func5, Try.ntmps5
  go_wp2_with fail
  have bx0 : Box (w.alloc (.cells #[a, b, c] 33)) (w.heap.size) 33 #[a, b, c] := Box.new w 33 #[a, b, c]
  have hbq : Below w.heap.size w (w.alloc (.cells #[a, b, c] 33)) := (Below.refl _ w).alloc (Nat.le_refl _) _
  have hle0 : w.heap.size ≤ w.heap.size := Nat.le_refl _
  generalize (w.alloc (.cells #[a, b, c] 33)) = w0 at bx0 hbq  ⊢
  have BQg := Lib.hid bx0
  have W := Lib.hid hbq
  have LEg := Lib.hid hle0
  clear hbq hle0 bx0 
  obtain ⟨qg, hqg⟩ : ∃ qg, w.heap.size = qg := ⟨_, rfl⟩
  rw [hqg] at BQg ⊢
  have LEg : Hid (w.heap.size ≤ qg) := Lib.hid (by omega)
  clear hqg
  refine (shown_any w0).mono ?_
  rintro e w1 ⟨rfl, hb⟩
  replace BQg := Lib.hid (BQg.out.keep (grown_of_below hb none))
  replace W := Lib.hid (W.out.trans (hb.mono W.out.size))
  clear hb
  have hbb := BQg.out
  have gc0 : w1.cell? ⟨qg, 0, none⟩ = some a := hbb.cell 0 _ rfl
  have gc1 : w1.cell? ⟨qg, 1, none⟩ = some b := hbb.cell 1 _ rfl
  have gc2 : w1.cell? ⟨qg, 2, none⟩ = some c := hbb.cell 2 _ rfl
  clear hbb
  go_wp2_with fail
  clear gc0 gc1 gc2
  refine (rcopy_any g _ _ (HV.out.on W.out)).mono ?_
  rintro e w2 ⟨oav, obv, ocv, oL, rfl, ho, hb⟩
  have hgo := ho.game HFI.out
  obtain ⟨oa, oka, ob_, okb, oc_, okc, rfl, rfl, rfl⟩ := ho.forms
  replace BQg := Lib.hid (BQg.out.keep (grown_of_below hb none))
  replace W := Lib.hid (W.out.trans (hb.mono W.out.size))
  have GO := Lib.hid hgo
  clear hb ho hgo
  go_upto_region 3 with (fail)
  have bq : Box (w2.alloc (.cells #[.slice oa g.owner.length oka, .slice ob_ g.prio.length okb, .slice oc_ g.moves.length okc] 33)) w2.heap.size 33 #[.slice oa g.owner.length oka, .slice ob_ g.prio.length okb, .slice oc_ g.moves.length okc] := Box.new _ _ _
  have hgq := World.grownBy_alloc w2 (.cells #[.slice oa g.owner.length oka, .slice ob_ g.prio.length okb, .slice oc_ g.moves.length okc] 33) none
  replace BQg := Lib.hid (BQg.out.keep hgq)
  replace W := Lib.hid (W.out.trans ((below_of_grown hgq).mono W.out.size))
  replace GO := Lib.hid (GO.out.on (below_of_grown hgq))
  generalize (w2.alloc (.cells #[.slice oa g.owner.length oka, .slice ob_ g.prio.length okb, .slice oc_ g.moves.length okc] 33)) = w3 at bq BQg W GO ⊢
  generalize w2.heap.size = qo at bq ⊢
  have BQo := Lib.hid bq
  clear bq hgq
  go_wp2_with fail
  refine (tuples_any l (by rw [HM.out]; exact HSZ.out) _ w3 (HVL.out.on W.out)).mono ?_
  rintro e w4 ⟨v', rfl, ho, hb34⟩
  have HO := Lib.hid ho
  have HS34 := Lib.hid hb34
  clear ho hb34
  go_wp2_with (at_builtin; refine wpl_append5 (v := v') (q := w4.heap.size) (t := mark7) (l := l) rfl (.tmp 20) (.tmp 23) rfl rfl (HO.out.grown (World.grownBy_alloc _ _ none)) rfl (Box.new _ _ _) ?_ ?_ ?_)
  · rw [HM.out]; have := HSZ.out; omega
  · have := HS34.out.size; simp; omega
  intro v2 w5 hown hgr hat
  have hv' : ∀ k, v'.ownBlock = some k → w3.heap.size ≤ k := fun k hk => (World.ownsRow.lt (w := w4) HO.out k hk).1
  have hb := HS34.out.trans (((Below.refl w3.heap.size w4).alloc HS34.out.size _).grown hgr (by have := HS34.out.size; simp; omega) hv')
  have hml : (l ++ [mark7]).length = m + 1 := by rw [List.length_append, HM.out]; rfl
  obtain ⟨gb, pk, rfl, -, hgb⟩ := World.ownsRow.form (w := w5) hown (by omega)
  rw [hml] at hown ⊢
  obtain ⟨hot, hc7, hpk⟩ := prefix_tups HM.out (by omega) hown
  have TP := Lib.hid hot
  have HC7 : Hid (∀ w', Below w5.heap.size w5 w' → w'.cell? ⟨gb, m * 5 + 1, none⟩ = some (.int .i64 (-7))) := Lib.hid (fun w' hw => (hw.cell (p := ⟨gb, m * 5 + 1, none⟩) hgb).trans hc7)
  have HPK := Lib.hid hpk
  replace BQg := Lib.hid (BQg.out.keep (grown_of_below hb none))
  replace W := Lib.hid (W.out.trans (hb.mono W.out.size))
  replace GO := Lib.hid (GO.out.on hb)
  replace BQo := Lib.hid (BQo.out.keep (grown_of_below hb none))
  clear hb hown hgr hat hv' hml hgb hot hc7 HO HS34
  have HBg := BQg
  have HBo := BQo
  have HGO := GO
  have HTP := TP
  have HW5 := W
  clear BQg BQo GO TP W
  go_wp2_with fail
  go_loopw [10] (fun nv wr => ∃ j : Nat, j ≤ 61 ∧ nv = .int .i64 ((j : Int) - 1) ∧ Below w5.heap.size w5 wr) (fun nv _ => (60 - intOf nv).toNat)
  case atStart => exact ⟨0, by omega, rfl, Below.refl _ _⟩
  case round =>
    obtain ⟨j, hj, rfl, hb⟩ := hrel
    have WN := Lib.hid hb
    have BQg := Lib.hid (HBg.out.keep (grown_of_below hb none))
    have BQo := Lib.hid (HBo.out.keep (grown_of_below hb none))
    have GO := Lib.hid (HGO.out.on hb)
    have TP := Lib.hid (HTP.out.on hb)
    have W := Lib.hid (HW5.out.trans (hb.mono HW5.out.size))
    clear hb
    have hj0 : (0 : Int) ≤ (j : Int) := Int.natCast_nonneg _
    by_cases h1 : (j : Int) - 1 ≤ (m : Int) + 1
    · have f1 : decide ((j : Int) - 1 ≤ (m : Int) + 1) = true := decide_eq_true h1
      by_cases h2 : (j : Int) - 1 < 60
      · have f2 : decide ((j : Int) - 1 < 60) = true := decide_eq_true h2
        by_cases h3 : (m : Int) < (j : Int) - 1
        · have f3 : decide ((m : Int) < (j : Int) - 1) = true := decide_eq_true h3
          obtain ⟨u, hu⟩ : ∃ u, liftX g l z = u := ⟨_, rfl⟩
          have HU := Lib.hid hu
          clear hu
          go_upto_region 10 with (fail)
          refine Rt.wp_region_tail 1 (fun idx => match idx with | 0 => (fun v _ _ => v = .agg #[.slice oa g.owner.length oka, .slice ob_ g.prio.length okb, .slice oc_ g.moves.length okc]) | 1 => (fun v _ _ => v = (.slice (some ⟨gb, 0, none⟩) (m + 1) pk)) | 2 => (fun v _ _ => v = (.slice lo m lk)) | 3 => (fun v _ _ => v = (.int .i64 (m : Int))) | 4 => (fun v _ _ => v = (.slice (some ⟨gb, 0, none⟩) m pk)) | 5 => (fun v _ _ => v = (.int .i64 z)) | 6 => (fun v _ _ => v = .agg (tc u)) | 7 => (fun v _ w' => ∃ q, v = .pointer (some ⟨q, 0, none⟩) ∧ wr.heap.size ≤ q ∧ Box w' q 26 (tc .zero)) | _ => fun _ _ _ => True) (fun _ _ _ _ => True) (Rk.allK) 99 (by kernel_rfl) (by rfl) (by kernel_rfl) (by rfl) ?_ ?_ ?_ ?_
          · refine ⟨?_, ?_, ?_, ?_, ?_, ?_, ?_, ?_, trivial⟩
            · intro A w' K vals h hn hT hgk hK0
              have r0 : A.tmps[8]?.getD undef = .pointer (some ⟨qo, 0, none⟩) := Rg.slot h.1
              have bs := BQo.out.keep (Rk.grown_of hgk)
              have cc0 : w'.cell? ⟨qo, 0, none⟩ = some (.slice oa g.owner.length oka) := bs.cell 0 _ rfl
              have cc1 : w'.cell? ⟨qo, 1, none⟩ = some (.slice ob_ g.prio.length okb) := bs.cell 1 _ rfl
              have cc2 : w'.cell? ⟨qo, 2, none⟩ = some (.slice oc_ g.moves.length okc) := bs.cell 2 _ rfl
              clear h hn hT hgk bs
              simp [Oper.wp, execOp, go_sem, r0, cc0, cc1, cc2]
              exact hK0 _ _ (Rk.Keeps.refl _ _) rfl trivial
            · intro A w' K vals h hn hT hgk hK0
              have r0 : A.tmps[9]?.getD undef = .slice (some ⟨gb, 0, none⟩) (m + 1) pk := Rg.slot h.1
              clear h hn hT hgk
              simp [Oper.wp, execOp, go_sem, r0]
              exact hK0 _ _ (Rk.Keeps.refl _ _) rfl trivial
            · intro A w' K vals h hn hT hgk hK0
              have r0 : A.tmps[1]?.getD undef = .slice lo m lk := Rg.slot h.1
              clear h hn hT hgk
              simp [Oper.wp, execOp, go_sem, r0]
              exact hK0 _ _ (Rk.Keeps.refl _ _) rfl trivial
            · intro A w' K vals h hn hT hgk hK0
              have r0 : A.tmps[44]?.getD undef = vals 2 := Rg.slot h.1
              have s0 : vals 2 = (.slice lo m lk) := hn.1
              clear h hn hT hgk
              simp [Oper.wp, go_sem, r0, s0]
              exact hK0 _ _ (Rk.Keeps.refl _ _) rfl trivial
            · intro A w' K vals h hn hT hgk hK0
              have r0 : A.tmps[43]?.getD undef = vals 1 := Rg.slot h.1
              have r1 : A.tmps[45]?.getD undef = vals 3 := Rg.slot h.2.1
              have s0 : vals 1 = (.slice (some ⟨gb, 0, none⟩) (m + 1) pk) := hn.1
              have s1 : vals 3 = (.int .i64 (m : Int)) := hn.2.1
              clear h hn hT hgk
              simp [Oper.wp, execOp, go_sem, r0, r1, s0, s1, HPK.out]
              exact hK0 _ _ (Rk.Keeps.refl _ _) rfl trivial
            · intro A w' K vals h hn hT hgk hK0
              have r0 : A.tmps[11]?.getD undef = .int .i64 z := Rg.slot h.1
              clear h hn hT hgk
              simp [Oper.wp, execOp, go_sem, r0]
              exact hK0 _ _ (Rk.Keeps.refl _ _) rfl trivial
            · intro A w' K vals h hn hT hgk hK0
              have r0 : A.tmps[42]?.getD undef = vals 0 := Rg.slot h.2.1
              have r1 : A.tmps[46]?.getD undef = vals 4 := Rg.slot h.2.2.1
              have r2 : A.tmps[47]?.getD undef = vals 5 := Rg.slot h.2.2.2.1
              have s0 : vals 0 = .agg #[.slice oa g.owner.length oka, .slice ob_ g.prio.length okb, .slice oc_ g.moves.length okc] := hn.1
              have s1 : vals 4 = (.slice (some ⟨gb, 0, none⟩) m pk) := hn.2.1
              have s2 : vals 5 = (.int .i64 z) := hn.2.2.1
              have hb := below_of_grown (Rk.grown_of hgk)
              clear h hn hT hgk
              simp [Oper.wp, go_sem, r0, r1, r2, s0, s1, s2]
              refine (liftx_any g l z HLOW.out _ _ w' (GO.out.on hb) (TP.out.on hb)).mono ?_
              rintro e w'' ⟨rfl, hb⟩
              exact hK0 _ _ (Rk.keep_of (grown_of_below hb _)) (congrArg (fun x => Value.agg (tc x)) HU.out) trivial
            · intro A w' K vals h hn hT hgk hK0
              have hsz := hgk.size
              clear h hn hT
              simp [Oper.wp, execOp, go_sem]
              exact hK0 _ _ (Rk.keep_of (World.grownBy_alloc _ _ _)) ⟨_, rfl, hsz, Box.new _ _ _⟩ trivial
          · refine ⟨?_, ?_, ?_, ?_, ?_, ?_, ?_, ?_, trivial⟩
            · exact fun _ _ _ _ _ _ h => h
            · exact fun _ _ _ _ _ _ h => h
            · exact fun _ _ _ _ _ _ h => h
            · exact fun _ _ _ _ _ _ h => h
            · exact fun _ _ _ _ _ _ h => h
            · exact fun _ _ _ _ _ _ h => h
            · exact fun _ _ _ _ _ _ h => h
            · exact fun _ _ _ _ _ h ⟨q, h1, h2, hb⟩ => ⟨q, h1, h2, hb.keep (Rk.grown_of h)⟩
          · exact fun _ _ _ _ _ _ h => h
          · intro vals w8 G hgk hS hG
            have sA : vals 6 = .agg #[.bool u.top, .int .i64 u.a, .int .i64 u.b, .int .i64 u.c, .int .i64 u.d] := hS.2.2.2.2.2.2.1
            obtain ⟨qx, sB, hqx, hbx⟩ : ∃ q, vals 7 = .pointer (some ⟨q, 0, none⟩) ∧ wr.heap.size ≤ q ∧ Box w8 q 26 (tc .zero) := hS.2.2.2.2.2.2.2.1
            clear hS
            have hb := below_of_grown (Rk.grown_of hgk)
            clear hgk
            have qc0 : w8.cell? ⟨qx, 0, none⟩ = some (.bool false) := hbx.cell 0 _ rfl
            have qc1 : w8.cell? ⟨qx, 1, none⟩ = some (.int .i64 0) := hbx.cell 1 _ rfl
            have qc2 : w8.cell? ⟨qx, 2, none⟩ = some (.int .i64 0) := hbx.cell 2 _ rfl
            have qc3 : w8.cell? ⟨qx, 3, none⟩ = some (.int .i64 0) := hbx.cell 3 _ rfl
            have qc4 : w8.cell? ⟨qx, 4, none⟩ = some (.int .i64 0) := hbx.cell 4 _ rfl
            have qf0 : w8.frozen? ⟨qx, 0, none⟩ = false := hbx.frozen 0
            have qf1 : w8.frozen? ⟨qx, 1, none⟩ = false := hbx.frozen 1
            have qf2 : w8.frozen? ⟨qx, 2, none⟩ = false := hbx.frozen 2
            have qf3 : w8.frozen? ⟨qx, 3, none⟩ = false := hbx.frozen 3
            have qf4 : w8.frozen? ⟨qx, 4, none⟩ = false := hbx.frozen 4
            refine hG ?_
            clear hG
            simp only [List.take, List.drop, List.length, Nat.reduceSub, Nat.reduceAdd, Rg.putAll, Act.put, List.setIfInBounds_toArray, List.set_cons_succ, List.set_cons_zero, sA, sB]
            clear sA sB
            go_upto_region 11 with (fail)
            clear qc0 qc1 qc2 qc3 qc4 qf0 qf1 qf2 qf3 qf4
            have bx2 := hbx.stT u
            have hb2 : Below wr.heap.size wr (((((w8.setCell ⟨qx, 0, none⟩ (.bool u.top)).setCell ⟨qx, 1, none⟩ (.int .i64 u.a)).setCell ⟨qx, 2, none⟩ (.int .i64 u.b)).setCell ⟨qx, 3, none⟩ (.int .i64 u.c)).setCell ⟨qx, 4, none⟩ (.int .i64 u.d)) := below_stT hb hqx u
            have bx2 := Lib.hid bx2
            have HB2 := Lib.hid hb2
            clear hb hqx hbx
            generalize (((((w8.setCell ⟨qx, 0, none⟩ (.bool u.top)).setCell ⟨qx, 1, none⟩ (.int .i64 u.a)).setCell ⟨qx, 2, none⟩ (.int .i64 u.b)).setCell ⟨qx, 3, none⟩ (.int .i64 u.c)).setCell ⟨qx, 4, none⟩ (.int .i64 u.d)) = w9 at bx2 hb2 HB2 ⊢
            clear hb2
            have BQx := bx2
            clear bx2
            have hb := HB2.out
            replace BQg := Lib.hid (BQg.out.keep (grown_of_below hb none))
            replace BQo := Lib.hid (BQo.out.keep (grown_of_below hb none))
            replace GO := Lib.hid (GO.out.on hb)
            replace TP := Lib.hid (TP.out.on hb)
            replace W := Lib.hid (W.out.trans (hb.mono W.out.size))
            replace WN := Lib.hid (WN.out.trans (hb.mono WN.out.size))
            clear hb HB2
            have hbb := BQg.out
            have gc0 : w9.cell? ⟨qg, 0, none⟩ = some a := hbb.cell 0 _ rfl
            have gc1 : w9.cell? ⟨qg, 1, none⟩ = some b := hbb.cell 1 _ rfl
            have gc2 : w9.cell? ⟨qg, 2, none⟩ = some c := hbb.cell 2 _ rfl
            clear hbb
            go_wp2_with fail
            clear gc0 gc1 gc2
            refine (rlift_any g l z HLOW.out _ _ w9 (HV.out.on W.out) (HVL.out.on W.out)).mono ?_
            rintro e w10 ⟨rfl, hb⟩
            replace BQg := Lib.hid (BQg.out.keep (grown_of_below hb none))
            replace BQo := Lib.hid (BQo.out.keep (grown_of_below hb none))
            replace GO := Lib.hid (GO.out.on hb)
            replace TP := Lib.hid (TP.out.on hb)
            replace W := Lib.hid (W.out.trans (hb.mono W.out.size))
            replace WN := Lib.hid (WN.out.trans (hb.mono WN.out.size))
            replace BQx := Lib.hid (BQx.out.keep (grown_of_below hb none))
            clear hb
            rw [HU.out]
            unfold tc
            go_upto_region 12 with (fail)
            have bq : Box (w10.alloc (.cells #[.bool u.top, .int .i64 u.a, .int .i64 u.b, .int .i64 u.c, .int .i64 u.d] 24)) w10.heap.size 24 #[.bool u.top, .int .i64 u.a, .int .i64 u.b, .int .i64 u.c, .int .i64 u.d] := Box.new _ _ _
            have hgq := World.grownBy_alloc w10 (.cells #[.bool u.top, .int .i64 u.a, .int .i64 u.b, .int .i64 u.c, .int .i64 u.d] 24) none
            replace BQg := Lib.hid (BQg.out.keep hgq)
            replace BQo := Lib.hid (BQo.out.keep hgq)
            replace GO := Lib.hid (GO.out.on (below_of_grown hgq))
            replace TP := Lib.hid (TP.out.on (below_of_grown hgq))
            replace W := Lib.hid (W.out.trans ((below_of_grown hgq).mono W.out.size))
            replace WN := Lib.hid (WN.out.trans ((below_of_grown hgq).mono WN.out.size))
            replace BQx := Lib.hid (BQx.out.keep hgq)
            generalize (w10.alloc (.cells #[.bool u.top, .int .i64 u.a, .int .i64 u.b, .int .i64 u.c, .int .i64 u.d] 24)) = w11 at bq BQg BQo GO TP W WN BQx ⊢
            generalize w10.heap.size = qy at bq ⊢
            have BQy := Lib.hid bq
            clear bq hgq
            have he : ∀ w, (binOp .neq 26 (.agg #[.bool u.top, .int .i64 u.a, .int .i64 u.b, .int .i64 u.c, .int .i64 u.d]) (.agg #[.bool u.top, .int .i64 u.a, .int .i64 u.b, .int .i64 u.c, .int .i64 u.d])).run Try.prog w = .ok (.bool false) w := fun w => (tup_neq u u w).trans (by rw [decide_eq_true rfl]; rfl)
            have hbb := BQx.out
            have xc0 : w11.cell? ⟨qx, 0, none⟩ = some (.bool u.top) := hbb.cell 0 _ rfl
            have xc1 : w11.cell? ⟨qx, 1, none⟩ = some (.int .i64 u.a) := hbb.cell 1 _ rfl
            have xc2 : w11.cell? ⟨qx, 2, none⟩ = some (.int .i64 u.b) := hbb.cell 2 _ rfl
            have xc3 : w11.cell? ⟨qx, 3, none⟩ = some (.int .i64 u.c) := hbb.cell 3 _ rfl
            have xc4 : w11.cell? ⟨qx, 4, none⟩ = some (.int .i64 u.d) := hbb.cell 4 _ rfl
            clear hbb
            have hbb := BQy.out
            have yc0 : w11.cell? ⟨qy, 0, none⟩ = some (.bool u.top) := hbb.cell 0 _ rfl
            have yc1 : w11.cell? ⟨qy, 1, none⟩ = some (.int .i64 u.a) := hbb.cell 1 _ rfl
            have yc2 : w11.cell? ⟨qy, 2, none⟩ = some (.int .i64 u.b) := hbb.cell 2 _ rfl
            have yc3 : w11.cell? ⟨qy, 3, none⟩ = some (.int .i64 u.c) := hbb.cell 3 _ rfl
            have yc4 : w11.cell? ⟨qy, 4, none⟩ = some (.int .i64 u.d) := hbb.cell 4 _ rfl
            clear hbb
            go_wp2_with fail
            go_roundw
            case rel => exact ⟨j + 1, by omega, by first | rfl | go_num | (congr 1; omega), WN.out⟩
            case measure => simp [intOf]; omega
        · have f3 : decide ((m : Int) < (j : Int) - 1) = false := decide_eq_false h3
          obtain ⟨u, hu⟩ : ∃ u, liftX g l ((j : Int) - 1) = u := ⟨_, rfl⟩
          have HU := Lib.hid hu
          clear hu
          go_upto_region 10 with (fail)
          refine Rt.wp_region_tail 1 (fun idx => match idx with | 0 => (fun v _ _ => v = .agg #[.slice oa g.owner.length oka, .slice ob_ g.prio.length okb, .slice oc_ g.moves.length okc]) | 1 => (fun v _ _ => v = (.slice (some ⟨gb, 0, none⟩) (m + 1) pk)) | 2 => (fun v _ _ => v = (.slice lo m lk)) | 3 => (fun v _ _ => v = (.int .i64 (m : Int))) | 4 => (fun v _ _ => v = (.slice (some ⟨gb, 0, none⟩) m pk)) | 5 => (fun v _ _ => v = (.int .i64 ((j : Int) - 1))) | 6 => (fun v _ _ => v = .agg (tc u)) | 7 => (fun v _ w' => ∃ q, v = .pointer (some ⟨q, 0, none⟩) ∧ wr.heap.size ≤ q ∧ Box w' q 26 (tc .zero)) | _ => fun _ _ _ => True) (fun _ _ _ _ => True) (Rk.allK) 99 (by kernel_rfl) (by rfl) (by kernel_rfl) (by rfl) ?_ ?_ ?_ ?_
          · refine ⟨?_, ?_, ?_, ?_, ?_, ?_, ?_, ?_, trivial⟩
            · intro A w' K vals h hn hT hgk hK0
              have r0 : A.tmps[8]?.getD undef = .pointer (some ⟨qo, 0, none⟩) := Rg.slot h.1
              have bs := BQo.out.keep (Rk.grown_of hgk)
              have cc0 : w'.cell? ⟨qo, 0, none⟩ = some (.slice oa g.owner.length oka) := bs.cell 0 _ rfl
              have cc1 : w'.cell? ⟨qo, 1, none⟩ = some (.slice ob_ g.prio.length okb) := bs.cell 1 _ rfl
              have cc2 : w'.cell? ⟨qo, 2, none⟩ = some (.slice oc_ g.moves.length okc) := bs.cell 2 _ rfl
              clear h hn hT hgk bs
              simp [Oper.wp, execOp, go_sem, r0, cc0, cc1, cc2]
              exact hK0 _ _ (Rk.Keeps.refl _ _) rfl trivial
            · intro A w' K vals h hn hT hgk hK0
              have r0 : A.tmps[9]?.getD undef = .slice (some ⟨gb, 0, none⟩) (m + 1) pk := Rg.slot h.1
              clear h hn hT hgk
              simp [Oper.wp, execOp, go_sem, r0]
              exact hK0 _ _ (Rk.Keeps.refl _ _) rfl trivial
            · intro A w' K vals h hn hT hgk hK0
              have r0 : A.tmps[1]?.getD undef = .slice lo m lk := Rg.slot h.1
              clear h hn hT hgk
              simp [Oper.wp, execOp, go_sem, r0]
              exact hK0 _ _ (Rk.Keeps.refl _ _) rfl trivial
            · intro A w' K vals h hn hT hgk hK0
              have r0 : A.tmps[44]?.getD undef = vals 2 := Rg.slot h.1
              have s0 : vals 2 = (.slice lo m lk) := hn.1
              clear h hn hT hgk
              simp [Oper.wp, go_sem, r0, s0]
              exact hK0 _ _ (Rk.Keeps.refl _ _) rfl trivial
            · intro A w' K vals h hn hT hgk hK0
              have r0 : A.tmps[43]?.getD undef = vals 1 := Rg.slot h.1
              have r1 : A.tmps[45]?.getD undef = vals 3 := Rg.slot h.2.1
              have s0 : vals 1 = (.slice (some ⟨gb, 0, none⟩) (m + 1) pk) := hn.1
              have s1 : vals 3 = (.int .i64 (m : Int)) := hn.2.1
              clear h hn hT hgk
              simp [Oper.wp, execOp, go_sem, r0, r1, s0, s1, HPK.out]
              exact hK0 _ _ (Rk.Keeps.refl _ _) rfl trivial
            · intro A w' K vals h hn hT hgk hK0
              have r0 : A.tmps[11]?.getD undef = .int .i64 ((j : Int) - 1) := Rg.slot h.1
              clear h hn hT hgk
              simp [Oper.wp, execOp, go_sem, r0]
              exact hK0 _ _ (Rk.Keeps.refl _ _) rfl trivial
            · intro A w' K vals h hn hT hgk hK0
              have r0 : A.tmps[42]?.getD undef = vals 0 := Rg.slot h.2.1
              have r1 : A.tmps[46]?.getD undef = vals 4 := Rg.slot h.2.2.1
              have r2 : A.tmps[47]?.getD undef = vals 5 := Rg.slot h.2.2.2.1
              have s0 : vals 0 = .agg #[.slice oa g.owner.length oka, .slice ob_ g.prio.length okb, .slice oc_ g.moves.length okc] := hn.1
              have s1 : vals 4 = (.slice (some ⟨gb, 0, none⟩) m pk) := hn.2.1
              have s2 : vals 5 = (.int .i64 ((j : Int) - 1)) := hn.2.2.1
              have hb := below_of_grown (Rk.grown_of hgk)
              clear h hn hT hgk
              simp [Oper.wp, go_sem, r0, r1, r2, s0, s1, s2]
              refine (liftx_any g l ((j : Int) - 1) HLOW.out _ _ w' (GO.out.on hb) (TP.out.on hb)).mono ?_
              rintro e w'' ⟨rfl, hb⟩
              exact hK0 _ _ (Rk.keep_of (grown_of_below hb _)) (congrArg (fun x => Value.agg (tc x)) HU.out) trivial
            · intro A w' K vals h hn hT hgk hK0
              have hsz := hgk.size
              clear h hn hT
              simp [Oper.wp, execOp, go_sem]
              exact hK0 _ _ (Rk.keep_of (World.grownBy_alloc _ _ _)) ⟨_, rfl, hsz, Box.new _ _ _⟩ trivial
          · refine ⟨?_, ?_, ?_, ?_, ?_, ?_, ?_, ?_, trivial⟩
            · exact fun _ _ _ _ _ _ h => h
            · exact fun _ _ _ _ _ _ h => h
            · exact fun _ _ _ _ _ _ h => h
            · exact fun _ _ _ _ _ _ h => h
            · exact fun _ _ _ _ _ _ h => h
            · exact fun _ _ _ _ _ _ h => h
            · exact fun _ _ _ _ _ _ h => h
            · exact fun _ _ _ _ _ h ⟨q, h1, h2, hb⟩ => ⟨q, h1, h2, hb.keep (Rk.grown_of h)⟩
          · exact fun _ _ _ _ _ _ h => h
          · intro vals w8 G hgk hS hG
            have sA : vals 6 = .agg #[.bool u.top, .int .i64 u.a, .int .i64 u.b, .int .i64 u.c, .int .i64 u.d] := hS.2.2.2.2.2.2.1
            obtain ⟨qx, sB, hqx, hbx⟩ : ∃ q, vals 7 = .pointer (some ⟨q, 0, none⟩) ∧ wr.heap.size ≤ q ∧ Box w8 q 26 (tc .zero) := hS.2.2.2.2.2.2.2.1
            clear hS
            have hb := below_of_grown (Rk.grown_of hgk)
            clear hgk
            have qc0 : w8.cell? ⟨qx, 0, none⟩ = some (.bool false) := hbx.cell 0 _ rfl
            have qc1 : w8.cell? ⟨qx, 1, none⟩ = some (.int .i64 0) := hbx.cell 1 _ rfl
            have qc2 : w8.cell? ⟨qx, 2, none⟩ = some (.int .i64 0) := hbx.cell 2 _ rfl
            have qc3 : w8.cell? ⟨qx, 3, none⟩ = some (.int .i64 0) := hbx.cell 3 _ rfl
            have qc4 : w8.cell? ⟨qx, 4, none⟩ = some (.int .i64 0) := hbx.cell 4 _ rfl
            have qf0 : w8.frozen? ⟨qx, 0, none⟩ = false := hbx.frozen 0
            have qf1 : w8.frozen? ⟨qx, 1, none⟩ = false := hbx.frozen 1
            have qf2 : w8.frozen? ⟨qx, 2, none⟩ = false := hbx.frozen 2
            have qf3 : w8.frozen? ⟨qx, 3, none⟩ = false := hbx.frozen 3
            have qf4 : w8.frozen? ⟨qx, 4, none⟩ = false := hbx.frozen 4
            refine hG ?_
            clear hG
            simp only [List.take, List.drop, List.length, Nat.reduceSub, Nat.reduceAdd, Rg.putAll, Act.put, List.setIfInBounds_toArray, List.set_cons_succ, List.set_cons_zero, sA, sB]
            clear sA sB
            go_upto_region 11 with (fail)
            clear qc0 qc1 qc2 qc3 qc4 qf0 qf1 qf2 qf3 qf4
            have bx2 := hbx.stT u
            have hb2 : Below wr.heap.size wr (((((w8.setCell ⟨qx, 0, none⟩ (.bool u.top)).setCell ⟨qx, 1, none⟩ (.int .i64 u.a)).setCell ⟨qx, 2, none⟩ (.int .i64 u.b)).setCell ⟨qx, 3, none⟩ (.int .i64 u.c)).setCell ⟨qx, 4, none⟩ (.int .i64 u.d)) := below_stT hb hqx u
            have bx2 := Lib.hid bx2
            have HB2 := Lib.hid hb2
            clear hb hqx hbx
            generalize (((((w8.setCell ⟨qx, 0, none⟩ (.bool u.top)).setCell ⟨qx, 1, none⟩ (.int .i64 u.a)).setCell ⟨qx, 2, none⟩ (.int .i64 u.b)).setCell ⟨qx, 3, none⟩ (.int .i64 u.c)).setCell ⟨qx, 4, none⟩ (.int .i64 u.d)) = w9 at bx2 hb2 HB2 ⊢
            clear hb2
            have BQx := bx2
            clear bx2
            have hb := HB2.out
            replace BQg := Lib.hid (BQg.out.keep (grown_of_below hb none))
            replace BQo := Lib.hid (BQo.out.keep (grown_of_below hb none))
            replace GO := Lib.hid (GO.out.on hb)
            replace TP := Lib.hid (TP.out.on hb)
            replace W := Lib.hid (W.out.trans (hb.mono W.out.size))
            replace WN := Lib.hid (WN.out.trans (hb.mono WN.out.size))
            clear hb HB2
            have hbb := BQg.out
            have gc0 : w9.cell? ⟨qg, 0, none⟩ = some a := hbb.cell 0 _ rfl
            have gc1 : w9.cell? ⟨qg, 1, none⟩ = some b := hbb.cell 1 _ rfl
            have gc2 : w9.cell? ⟨qg, 2, none⟩ = some c := hbb.cell 2 _ rfl
            clear hbb
            go_wp2_with fail
            clear gc0 gc1 gc2
            refine (rlift_any g l ((j : Int) - 1) HLOW.out _ _ w9 (HV.out.on W.out) (HVL.out.on W.out)).mono ?_
            rintro e w10 ⟨rfl, hb⟩
            replace BQg := Lib.hid (BQg.out.keep (grown_of_below hb none))
            replace BQo := Lib.hid (BQo.out.keep (grown_of_below hb none))
            replace GO := Lib.hid (GO.out.on hb)
            replace TP := Lib.hid (TP.out.on hb)
            replace W := Lib.hid (W.out.trans (hb.mono W.out.size))
            replace WN := Lib.hid (WN.out.trans (hb.mono WN.out.size))
            replace BQx := Lib.hid (BQx.out.keep (grown_of_below hb none))
            clear hb
            rw [HU.out]
            unfold tc
            go_upto_region 12 with (fail)
            have bq : Box (w10.alloc (.cells #[.bool u.top, .int .i64 u.a, .int .i64 u.b, .int .i64 u.c, .int .i64 u.d] 24)) w10.heap.size 24 #[.bool u.top, .int .i64 u.a, .int .i64 u.b, .int .i64 u.c, .int .i64 u.d] := Box.new _ _ _
            have hgq := World.grownBy_alloc w10 (.cells #[.bool u.top, .int .i64 u.a, .int .i64 u.b, .int .i64 u.c, .int .i64 u.d] 24) none
            replace BQg := Lib.hid (BQg.out.keep hgq)
            replace BQo := Lib.hid (BQo.out.keep hgq)
            replace GO := Lib.hid (GO.out.on (below_of_grown hgq))
            replace TP := Lib.hid (TP.out.on (below_of_grown hgq))
            replace W := Lib.hid (W.out.trans ((below_of_grown hgq).mono W.out.size))
            replace WN := Lib.hid (WN.out.trans ((below_of_grown hgq).mono WN.out.size))
            replace BQx := Lib.hid (BQx.out.keep hgq)
            generalize (w10.alloc (.cells #[.bool u.top, .int .i64 u.a, .int .i64 u.b, .int .i64 u.c, .int .i64 u.d] 24)) = w11 at bq BQg BQo GO TP W WN BQx ⊢
            generalize w10.heap.size = qy at bq ⊢
            have BQy := Lib.hid bq
            clear bq hgq
            have he : ∀ w, (binOp .neq 26 (.agg #[.bool u.top, .int .i64 u.a, .int .i64 u.b, .int .i64 u.c, .int .i64 u.d]) (.agg #[.bool u.top, .int .i64 u.a, .int .i64 u.b, .int .i64 u.c, .int .i64 u.d])).run Try.prog w = .ok (.bool false) w := fun w => (tup_neq u u w).trans (by rw [decide_eq_true rfl]; rfl)
            have hbb := BQx.out
            have xc0 : w11.cell? ⟨qx, 0, none⟩ = some (.bool u.top) := hbb.cell 0 _ rfl
            have xc1 : w11.cell? ⟨qx, 1, none⟩ = some (.int .i64 u.a) := hbb.cell 1 _ rfl
            have xc2 : w11.cell? ⟨qx, 2, none⟩ = some (.int .i64 u.b) := hbb.cell 2 _ rfl
            have xc3 : w11.cell? ⟨qx, 3, none⟩ = some (.int .i64 u.c) := hbb.cell 3 _ rfl
            have xc4 : w11.cell? ⟨qx, 4, none⟩ = some (.int .i64 u.d) := hbb.cell 4 _ rfl
            clear hbb
            have hbb := BQy.out
            have yc0 : w11.cell? ⟨qy, 0, none⟩ = some (.bool u.top) := hbb.cell 0 _ rfl
            have yc1 : w11.cell? ⟨qy, 1, none⟩ = some (.int .i64 u.a) := hbb.cell 1 _ rfl
            have yc2 : w11.cell? ⟨qy, 2, none⟩ = some (.int .i64 u.b) := hbb.cell 2 _ rfl
            have yc3 : w11.cell? ⟨qy, 3, none⟩ = some (.int .i64 u.c) := hbb.cell 3 _ rfl
            have yc4 : w11.cell? ⟨qy, 4, none⟩ = some (.int .i64 u.d) := hbb.cell 4 _ rfl
            clear hbb
            go_wp2_with fail
            go_roundw
            case rel => exact ⟨j + 1, by omega, by first | rfl | go_num | (congr 1; omega), WN.out⟩
            case measure => simp [intOf]; omega
      · have f2 : decide ((j : Int) - 1 < 60) = false := decide_eq_false h2
        have hbb := BQg.out
        have gc0 : wr.cell? ⟨qg, 0, none⟩ = some a := hbb.cell 0 _ rfl
        have gc1 : wr.cell? ⟨qg, 1, none⟩ = some b := hbb.cell 1 _ rfl
        have gc2 : wr.cell? ⟨qg, 2, none⟩ = some c := hbb.cell 2 _ rfl
        clear hbb
        have hbb := BQo.out
        have oc0 : wr.cell? ⟨qo, 0, none⟩ = some (.slice oa g.owner.length oka) := hbb.cell 0 _ rfl
        have oc1 : wr.cell? ⟨qo, 1, none⟩ = some (.slice ob_ g.prio.length okb) := hbb.cell 1 _ rfl
        have oc2 : wr.cell? ⟨qo, 2, none⟩ = some (.slice oc_ g.moves.length okc) := hbb.cell 2 _ rfl
        clear hbb
        go_wp2_with fail
        clear gc0 gc1 gc2 oc0 oc1 oc2
        refine (samegame_any g g _ _ _ GO.out (HV.out.on W.out)).mono ?_
        rintro e wz ⟨rfl, hb⟩
        rw [decide_eq_true rfl]
        replace W := Lib.hid (W.out.trans (hb.mono W.out.size))
        replace TP := Lib.hid (TP.out.on hb)
        replace WN := Lib.hid (WN.out.trans (hb.mono WN.out.size))
        clear hb
        go_upto_region 15 with (fail)
        refine Rt.wp_region_tail 1 (fun idx => match idx with | 0 => (fun v _ _ => v = (.slice (some ⟨gb, 0, none⟩) (m + 1) pk)) | 1 => (fun v _ _ => v = (.slice lo m lk)) | 2 => (fun v _ _ => v = (.int .i64 (m : Int))) | 3 => (fun v _ _ => v = (.slice (some ⟨gb, 0, none⟩) m pk)) | 4 => (fun v _ _ => v = (.slice lo m lk)) | 5 => (fun v _ w' => ∃ ao k, v = .slice ao m k ∧ OwnT w' wz.heap.size v l) | 6 => (fun v _ _ => v = .bool true) | _ => fun _ _ _ => True) (fun _ _ _ _ => True) (Rk.allK) 99 (by kernel_rfl) (by rfl) (by kernel_rfl) (by rfl) ?_ ?_ ?_ ?_
        · refine ⟨?_, ?_, ?_, ?_, ?_, ?_, ?_, trivial⟩
          · intro A w' K vals h hn hT hgk hK0
            have r0 : A.tmps[9]?.getD undef = .slice (some ⟨gb, 0, none⟩) (m + 1) pk := Rg.slot h.1
            clear h hn hT hgk
            simp [Oper.wp, execOp, go_sem, r0]
            exact hK0 _ _ (Rk.Keeps.refl _ _) rfl trivial
          · intro A w' K vals h hn hT hgk hK0
            have r0 : A.tmps[1]?.getD undef = .slice lo m lk := Rg.slot h.1
            clear h hn hT hgk
            simp [Oper.wp, execOp, go_sem, r0]
            exact hK0 _ _ (Rk.Keeps.refl _ _) rfl trivial
          · intro A w' K vals h hn hT hgk hK0
            have r0 : A.tmps[64]?.getD undef = vals 1 := Rg.slot h.1
            have s0 : vals 1 = (.slice lo m lk) := hn.1
            clear h hn hT hgk
            simp [Oper.wp, go_sem, r0, s0]
            exact hK0 _ _ (Rk.Keeps.refl _ _) rfl trivial
          · intro A w' K vals h hn hT hgk hK0
            have r0 : A.tmps[63]?.getD undef = vals 0 := Rg.slot h.1
            have r1 : A.tmps[65]?.getD undef = vals 2 := Rg.slot h.2.1
            have s0 : vals 0 = (.slice (some ⟨gb, 0, none⟩) (m + 1) pk) := hn.1
            have s1 : vals 2 = (.int .i64 (m : Int)) := hn.2.1
            clear h hn hT hgk
            simp [Oper.wp, execOp, go_sem, r0, r1, s0, s1, HPK.out]
            exact hK0 _ _ (Rk.Keeps.refl _ _) rfl trivial
          · intro A w' K vals h hn hT hgk hK0
            have r0 : A.tmps[1]?.getD undef = .slice lo m lk := Rg.slot h.1
            clear h hn hT hgk
            simp [Oper.wp, execOp, go_sem, r0]
            exact hK0 _ _ (Rk.Keeps.refl _ _) rfl trivial
          · intro A w' K vals h hn hT hgk hK0
            have r0 : A.tmps[67]?.getD undef = vals 4 := Rg.slot h.2.1
            have s0 : vals 4 = (.slice lo m lk) := hn.1
            have hb := below_of_grown (Rk.grown_of hgk)
            have hsz := hgk.size
            clear h hn hT hgk
            simp [Oper.wp, go_sem, r0, s0]
            refine (tuples_any l (by rw [HM.out]; exact HSZ.out) _ w' (HVL.out.on (W.out.trans (hb.mono W.out.size)))).mono ?_
            rintro e w'' ⟨v', rfl, ho, hb⟩
            obtain ⟨ao, k, rfl⟩ := ho.slice
            exact hK0 _ _ (Rk.keep_of (grown_of_below hb _)) ⟨ao, k, by rw [HM.out], ho.more hsz⟩ trivial
          · intro A w' K vals h hn hT hgk hK0
            have r0 : A.tmps[66]?.getD undef = vals 3 := Rg.slot h.2.1
            have r1 : A.tmps[68]?.getD undef = vals 5 := Rg.slot h.2.2.1
            have s0 : vals 3 = (.slice (some ⟨gb, 0, none⟩) m pk) := hn.1
            obtain ⟨ao, k, s1, ho⟩ : ∃ ao k, vals 5 = .slice ao m k ∧ OwnT w' wz.heap.size (vals 5) l := hn.2.1
            have hb := below_of_grown (Rk.grown_of hgk)
            have hot := ho.tups (by have := HSZ.out; rw [HM.out]; omega)
            rw [s1] at hot
            clear h hn hT hgk ho
            simp [Oper.wp, go_sem, r0, r1, s0, s1]
            refine (sametups_any _ _ l l w' (TP.out.on hb) hot).mono ?_
            rintro e w'' ⟨rfl, hb⟩
            exact hK0 _ _ (Rk.keep_of (grown_of_below hb _)) (by rw [decide_eq_true rfl]; rfl) trivial
        · refine ⟨?_, ?_, ?_, ?_, ?_, ?_, ?_, trivial⟩
          · exact fun _ _ _ _ _ _ h => h
          · exact fun _ _ _ _ _ _ h => h
          · exact fun _ _ _ _ _ _ h => h
          · exact fun _ _ _ _ _ _ h => h
          · exact fun _ _ _ _ _ _ h => h
          · exact fun _ _ _ _ _ h ⟨ao, k, h1, ho⟩ => ⟨ao, k, h1, ho.grown (Rk.grown_of h)⟩
          · exact fun _ _ _ _ _ _ h => h
        · exact fun _ _ _ _ _ _ h => h
        · intro vals w8 G hgk hS hG
          have sA : vals 6 = .bool true := hS.2.2.2.2.2.2.1
          clear hS
          have hb := below_of_grown (Rk.grown_of hgk)
          clear hgk
          replace W := Lib.hid (W.out.trans (hb.mono W.out.size))
          replace TP := Lib.hid (TP.out.on hb)
          replace WN := Lib.hid (WN.out.trans (hb.mono WN.out.size))
          clear hb
          refine hG ?_
          clear hG
          simp only [List.take, List.drop, List.length, Nat.reduceSub, Nat.reduceAdd, Rg.putAll, Act.put, List.setIfInBounds_toArray, List.set_cons_succ, List.set_cons_zero, sA]
          clear sA
          have pc := HC7.out w8 WN.out
          have hm1 : (m : Int) < ((m + 1 : Nat) : Int) := by omega
          have hm0 : (0 : Int) ≤ (m : Int) := Int.natCast_nonneg _
          go_wp2_with fail
          exact bodyPost_ret (v := .bool true) (by simp [results, Try.results5, go_sem]) rfl ⟨rfl, W.out⟩
    · have f1 : decide ((j : Int) - 1 ≤ (m : Int) + 1) = false := decide_eq_false h1
      have hbb := BQg.out
      have gc0 : wr.cell? ⟨qg, 0, none⟩ = some a := hbb.cell 0 _ rfl
      have gc1 : wr.cell? ⟨qg, 1, none⟩ = some b := hbb.cell 1 _ rfl
      have gc2 : wr.cell? ⟨qg, 2, none⟩ = some c := hbb.cell 2 _ rfl
      clear hbb
      have hbb := BQo.out
      have oc0 : wr.cell? ⟨qo, 0, none⟩ = some (.slice oa g.owner.length oka) := hbb.cell 0 _ rfl
      have oc1 : wr.cell? ⟨qo, 1, none⟩ = some (.slice ob_ g.prio.length okb) := hbb.cell 1 _ rfl
      have oc2 : wr.cell? ⟨qo, 2, none⟩ = some (.slice oc_ g.moves.length okc) := hbb.cell 2 _ rfl
      clear hbb
      go_wp2_with fail
      clear gc0 gc1 gc2 oc0 oc1 oc2
      refine (samegame_any g g _ _ _ GO.out (HV.out.on W.out)).mono ?_
      rintro e wz ⟨rfl, hb⟩
      rw [decide_eq_true rfl]
      replace W := Lib.hid (W.out.trans (hb.mono W.out.size))
      replace TP := Lib.hid (TP.out.on hb)
      replace WN := Lib.hid (WN.out.trans (hb.mono WN.out.size))
      clear hb
      go_upto_region 15 with (fail)
      refine Rt.wp_region_tail 1 (fun idx => match idx with | 0 => (fun v _ _ => v = (.slice (some ⟨gb, 0, none⟩) (m + 1) pk)) | 1 => (fun v _ _ => v = (.slice lo m lk)) | 2 => (fun v _ _ => v = (.int .i64 (m : Int))) | 3 => (fun v _ _ => v = (.slice (some ⟨gb, 0, none⟩) m pk)) | 4 => (fun v _ _ => v = (.slice lo m lk)) | 5 => (fun v _ w' => ∃ ao k, v = .slice ao m k ∧ OwnT w' wz.heap.size v l) | 6 => (fun v _ _ => v = .bool true) | _ => fun _ _ _ => True) (fun _ _ _ _ => True) (Rk.allK) 99 (by kernel_rfl) (by rfl) (by kernel_rfl) (by rfl) ?_ ?_ ?_ ?_
      · refine ⟨?_, ?_, ?_, ?_, ?_, ?_, ?_, trivial⟩
        · intro A w' K vals h hn hT hgk hK0
          have r0 : A.tmps[9]?.getD undef = .slice (some ⟨gb, 0, none⟩) (m + 1) pk := Rg.slot h.1
          clear h hn hT hgk
          simp [Oper.wp, execOp, go_sem, r0]
          exact hK0 _ _ (Rk.Keeps.refl _ _) rfl trivial
        · intro A w' K vals h hn hT hgk hK0
          have r0 : A.tmps[1]?.getD undef = .slice lo m lk := Rg.slot h.1
          clear h hn hT hgk
          simp [Oper.wp, execOp, go_sem, r0]
          exact hK0 _ _ (Rk.Keeps.refl _ _) rfl trivial
        · intro A w' K vals h hn hT hgk hK0
          have r0 : A.tmps[64]?.getD undef = vals 1 := Rg.slot h.1
          have s0 : vals 1 = (.slice lo m lk) := hn.1
          clear h hn hT hgk
          simp [Oper.wp, go_sem, r0, s0]
          exact hK0 _ _ (Rk.Keeps.refl _ _) rfl trivial
        · intro A w' K vals h hn hT hgk hK0
          have r0 : A.tmps[63]?.getD undef = vals 0 := Rg.slot h.1
          have r1 : A.tmps[65]?.getD undef = vals 2 := Rg.slot h.2.1
          have s0 : vals 0 = (.slice (some ⟨gb, 0, none⟩) (m + 1) pk) := hn.1
          have s1 : vals 2 = (.int .i64 (m : Int)) := hn.2.1
          clear h hn hT hgk
          simp [Oper.wp, execOp, go_sem, r0, r1, s0, s1, HPK.out]
          exact hK0 _ _ (Rk.Keeps.refl _ _) rfl trivial
        · intro A w' K vals h hn hT hgk hK0
          have r0 : A.tmps[1]?.getD undef = .slice lo m lk := Rg.slot h.1
          clear h hn hT hgk
          simp [Oper.wp, execOp, go_sem, r0]
          exact hK0 _ _ (Rk.Keeps.refl _ _) rfl trivial
        · intro A w' K vals h hn hT hgk hK0
          have r0 : A.tmps[67]?.getD undef = vals 4 := Rg.slot h.2.1
          have s0 : vals 4 = (.slice lo m lk) := hn.1
          have hb := below_of_grown (Rk.grown_of hgk)
          have hsz := hgk.size
          clear h hn hT hgk
          simp [Oper.wp, go_sem, r0, s0]
          refine (tuples_any l (by rw [HM.out]; exact HSZ.out) _ w' (HVL.out.on (W.out.trans (hb.mono W.out.size)))).mono ?_
          rintro e w'' ⟨v', rfl, ho, hb⟩
          obtain ⟨ao, k, rfl⟩ := ho.slice
          exact hK0 _ _ (Rk.keep_of (grown_of_below hb _)) ⟨ao, k, by rw [HM.out], ho.more hsz⟩ trivial
        · intro A w' K vals h hn hT hgk hK0
          have r0 : A.tmps[66]?.getD undef = vals 3 := Rg.slot h.2.1
          have r1 : A.tmps[68]?.getD undef = vals 5 := Rg.slot h.2.2.1
          have s0 : vals 3 = (.slice (some ⟨gb, 0, none⟩) m pk) := hn.1
          obtain ⟨ao, k, s1, ho⟩ : ∃ ao k, vals 5 = .slice ao m k ∧ OwnT w' wz.heap.size (vals 5) l := hn.2.1
          have hb := below_of_grown (Rk.grown_of hgk)
          have hot := ho.tups (by have := HSZ.out; rw [HM.out]; omega)
          rw [s1] at hot
          clear h hn hT hgk ho
          simp [Oper.wp, go_sem, r0, r1, s0, s1]
          refine (sametups_any _ _ l l w' (TP.out.on hb) hot).mono ?_
          rintro e w'' ⟨rfl, hb⟩
          exact hK0 _ _ (Rk.keep_of (grown_of_below hb _)) (by rw [decide_eq_true rfl]; rfl) trivial
      · refine ⟨?_, ?_, ?_, ?_, ?_, ?_, ?_, trivial⟩
        · exact fun _ _ _ _ _ _ h => h
        · exact fun _ _ _ _ _ _ h => h
        · exact fun _ _ _ _ _ _ h => h
        · exact fun _ _ _ _ _ _ h => h
        · exact fun _ _ _ _ _ _ h => h
        · exact fun _ _ _ _ _ h ⟨ao, k, h1, ho⟩ => ⟨ao, k, h1, ho.grown (Rk.grown_of h)⟩
        · exact fun _ _ _ _ _ _ h => h
      · exact fun _ _ _ _ _ _ h => h
      · intro vals w8 G hgk hS hG
        have sA : vals 6 = .bool true := hS.2.2.2.2.2.2.1
        clear hS
        have hb := below_of_grown (Rk.grown_of hgk)
        clear hgk
        replace W := Lib.hid (W.out.trans (hb.mono W.out.size))
        replace TP := Lib.hid (TP.out.on hb)
        replace WN := Lib.hid (WN.out.trans (hb.mono WN.out.size))
        clear hb
        refine hG ?_
        clear hG
        simp only [List.take, List.drop, List.length, Nat.reduceSub, Nat.reduceAdd, Rg.putAll, Act.put, List.setIfInBounds_toArray, List.set_cons_succ, List.set_cons_zero, sA]
        clear sA
        have pc := HC7.out w8 WN.out
        have hm1 : (m : Int) < ((m + 1 : Nat) : Int) := by omega
        have hm0 : (0 : Int) ≤ (m : Int) := Int.natCast_nonneg _
        go_wp2_with fail
        exact bodyPost_ret (v := .bool true) (by simp [results, Try.results5, go_sem]) rfl ⟨rfl, W.out⟩
end W
end Go.Proofs.Yteeaojciobmcaaa
