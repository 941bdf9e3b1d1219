/- PlaysRuns: the walk. -/
import Derived.Test.YtghdjkpndhcplaaShown
import Derived.Test.YtghdjkpndhcplaaSameP
import Derived.Test.YtghdjkpndhcplaaRRunW
import Derived.Test.YtghdjkpndhcplaaRwO
import Derived.Test.YtghdjkpndhcplaaRCopy
import Derived.Test.YtghdjkpndhcplaaSameGame
import Derived.Deep.Cut
import Derived.Lib.Hide
import Derived.Deep.QuietTactic
import Derived.BigQuiet
import Derived.StillTailTactics
namespace Go.Proofs.Ytghdjkpndhcplaa
open Go.RowKit
namespace W

theorem own_prefix {w : World} {lo b n cap : Nat} {xs ys : List Int} (h : OwnI w lo (.slice (some ⟨b, 0, none⟩) n cap) (xs ++ ys)) (hl : xs.length ≤ 17592186043904) : Ints w (.slice (some ⟨b, 0, none⟩) xs.length cap) xs := by
  refine ⟨_, _, rfl, hl, ?_⟩
  by_cases h0 : xs = []
  · exact .inl h0
  · have hp : 0 < (xs ++ ys).length := by
      rw [List.length_append]
      have := List.length_pos_iff.2 h0
      omega
    obtain ⟨g, k, e, -, hlt, hc, -⟩ := own_form h hp
    injection e with e1
    injection e1 with e1
    injection e1 with e1
    subst e1
    refine .inr ⟨_, 0, rfl, hlt, fun j hj => ?_⟩
    rw [Nat.zero_add]
    refine hc j _ ?_
    rw [List.getElem?_map, List.getElem?_append_left hj, List.getD_eq_getElem?_getD, List.getElem?_eq_getElem hj]
    rfl
theorem own_cap {w : World} {lo b n cap : Nat} {xs ys : List Int} (h : OwnI w lo (.slice (some ⟨b, 0, none⟩) n cap) (xs ++ ys)) : xs.length ≤ cap := by
  rcases h.2 with ⟨h1, -⟩ | ⟨g, c, cur, hv, -, -, h2, -⟩
  · cases h1
  · injection hv with _ _ h3
    rw [List.length_append] at h2
    omega
set_option maxRecDepth 100000 in
set_option maxHeartbeats 4000000 in
theorem runs_any (g : P.G) (v : Value) (z p : Int) (mv sc : Value) (moves script : List Int) (w : World) (hv : GameV w v g) (hm : Ints w mv moves) (hs : Ints w sc script) :
    Calls Try.prog 3 #[v, .int .i64 z, .int .i64 p, mv, sc] w fun e w' => e = .returned (.bool true) ∧ Below w.heap.size w w' := by
  have TV := Lib.hid hv
  have TM := Lib.hid hm
  have TS := Lib.hid hs
  have HFI := Lib.hid hv.fits
  obtain ⟨a, b, c, rfl, ⟨ga, gka, rfl, -⟩, ⟨gb, gkb, rfl, -⟩, ⟨gc, gkc, rfl, -⟩⟩ := hv
  obtain ⟨n1, e1⟩ : ∃ k, g.owner.length = k := ⟨_, rfl⟩
  obtain ⟨n2, e2⟩ : ∃ k, g.prio.length = k := ⟨_, rfl⟩
  obtain ⟨n3, e3⟩ : ∃ k, g.moves.length = k := ⟨_, rfl⟩
  obtain ⟨om, km, rfl, -⟩ := hm
  obtain ⟨os, ks, rfl, -⟩ := hs
  obtain ⟨nm, e4⟩ : ∃ k, moves.length = k := ⟨_, rfl⟩
  obtain ⟨ns, e5⟩ : ∃ k, script.length = k := ⟨_, rfl⟩
  rw [e1, e2, e3] at TV ⊢
  rw [e4] at TM ⊢
  rw [e5] at TS ⊢
  have HNM := Lib.hid e4
  have HNS := Lib.hid e5
  clear e1 e2 e3 e4 e5
  go_enter Try.func3, Try.ntmps3
  go_wp2_with fail
  have bx0 : Box (w.alloc (.cells #[.slice ga n1 gka, .slice gb n2 gkb, .slice gc n3 gkc] 25)) (w.heap.size) 25 #[.slice ga n1 gka, .slice gb n2 gkb, .slice gc n3 gkc] := Box.new w 25 #[.slice ga n1 gka, .slice gb n2 gkb, .slice gc n3 gkc]
  have hbq : Below w.heap.size w (w.alloc (.cells #[.slice ga n1 gka, .slice gb n2 gkb, .slice gc n3 gkc] 25)) := (Below.refl _ w).alloc (Nat.le_refl _) _
  have hle0 : w.heap.size ≤ w.heap.size := Nat.le_refl _
  replace TV := Lib.hid (TV.out.on hbq)
  replace TM := Lib.hid (TM.out.on hbq)
  replace TS := Lib.hid (TS.out.on hbq)
  generalize (w.alloc (.cells #[.slice ga n1 gka, .slice gb n2 gkb, .slice gc n3 gkc] 25)) = w0 at bx0 hbq TV TM TS ⊢
  have BQg := Lib.hid bx0
  have W := Lib.hid hbq
  have LEg := Lib.hid hle0
  clear hbq hle0 bx0 
  obtain ⟨qg, hqg⟩ : ∃ qg, w.heap.size = qg := ⟨_, rfl⟩
  rw [hqg] at BQg ⊢
  have LEg : Hid (w.heap.size ≤ qg) := Lib.hid (by omega)
  clear hqg
  refine (shown_any w0).mono ?_
  rintro e w1 ⟨rfl, hb⟩
  replace W := Lib.hid (W.out.trans (hb.mono W.out.size))
  replace BQg := Lib.hid (BQg.out.keep (grown_of_below hb none))
  replace TV := Lib.hid (TV.out.on hb)
  replace TM := Lib.hid (TM.out.on hb)
  replace TS := Lib.hid (TS.out.on hb)
  clear hb
  have hbb := BQg.out
  have gc0 : w1.cell? ⟨qg, 0, none⟩ = some (.slice ga n1 gka) := hbb.cell 0 _ rfl
  have gc1 : w1.cell? ⟨qg, 1, none⟩ = some (.slice gb n2 gkb) := hbb.cell 1 _ rfl
  have gc2 : w1.cell? ⟨qg, 2, none⟩ = some (.slice gc n3 gkc) := hbb.cell 2 _ rfl
  clear hbb
  go_wp2_with fail
  clear gc0 gc1 gc2
  refine (rcopy_any g _ _ TV.out).mono ?_
  rintro e w2 ⟨oav, obv, ocv, oL, rfl, ho, hb⟩
  have hgo := ho.game HFI.out
  obtain ⟨oa, oka, ob_, okb, oc_, okc, rfl, rfl, rfl⟩ := ho.forms
  replace W := Lib.hid (W.out.trans (hb.mono W.out.size))
  replace BQg := Lib.hid (BQg.out.keep (grown_of_below hb none))
  replace TV := Lib.hid (TV.out.on hb)
  replace TM := Lib.hid (TM.out.on hb)
  replace TS := Lib.hid (TS.out.on hb)
  have GO := Lib.hid hgo
  clear hb ho hgo
  go_upto_region 3 with (fail)
  have bq : Box (w2.alloc (.cells #[.slice oa g.owner.length oka, .slice ob_ g.prio.length okb, .slice oc_ g.moves.length okc] 25)) w2.heap.size 25 #[.slice oa g.owner.length oka, .slice ob_ g.prio.length okb, .slice oc_ g.moves.length okc] := Box.new _ _ _
  have hgq := World.grownBy_alloc w2 (.cells #[.slice oa g.owner.length oka, .slice ob_ g.prio.length okb, .slice oc_ g.moves.length okc] 25) none
  replace W := Lib.hid (W.out.trans ((below_of_grown hgq).mono W.out.size))
  replace BQg := Lib.hid (BQg.out.keep hgq)
  replace TV := Lib.hid (TV.out.on (below_of_grown hgq))
  replace TM := Lib.hid (TM.out.on (below_of_grown hgq))
  replace TS := Lib.hid (TS.out.on (below_of_grown hgq))
  replace GO := Lib.hid (GO.out.on (below_of_grown hgq))
  generalize (w2.alloc (.cells #[.slice oa g.owner.length oka, .slice ob_ g.prio.length okb, .slice oc_ g.moves.length okc] 25)) = w3 at bq W BQg TV TM TS GO ⊢
  generalize w2.heap.size = qo at bq ⊢
  have BQo := Lib.hid bq
  clear bq hgq
  have hb0 := (Below.refl w3.heap.size w3).alloc (Nat.le_refl _) (.cells #[] 3)
  go_wp2_with (at_builtin; refine wpl_append_new elInt rfl (.tmp 30) (.tmp 31) rfl rfl (World.ownsRow_made w3 #[] 0 (Nat.le_refl _) (by decide) rfl) rfl (TM.out.on hb0).row (one_ints moves) ?_ ?_ ?_ ?_)
  · have := TM.out.fits1; simp; omega
  · have := TM.out.fits1; simp; omega
  · simp
  intro va wa hown hgr hat
  have hb1 := hb0.trans ((below_of_grown hgr).mono hb0.size)
  go_wp2_with (at_builtin; refine wpl_append elInt rfl (.tmp 32) (.tmp 33) rfl rfl (own_grown hown (World.grownBy_alloc _ _ none)) rfl (row_one wa _ _) ?_ ?_ ?_ ?_ ?_)
  · first | rfl | (intro u hu; simp at hu; subst hu; rfl)
  · have := TM.out.fits1; simp; omega
  · have := TM.out.fits1; simp; omega
  · have := hb1.size; first | omega | (simp; omega)
  intro vb w4 hown2 hgr2 hat2
  have hg3 := World.grownBy_alloc wa (.cells #[.int .i64 0] 3) none
  have hb := (hb1.trans ((below_of_grown hg3).mono hb1.size)).grown hgr2 (Nat.le_trans hb1.size hg3.size) (fun k e => (own_lt hown k e).1)
  have HOm : OwnI w4 w3.heap.size vb (moves ++ [0]) := by unfold OwnI; simpa using hown2
  replace W := Lib.hid (W.out.trans (hb.mono W.out.size))
  replace BQg := Lib.hid (BQg.out.keep (grown_of_below hb none))
  replace TV := Lib.hid (TV.out.on hb)
  replace TM := Lib.hid (TM.out.on hb)
  replace TS := Lib.hid (TS.out.on hb)
  replace GO := Lib.hid (GO.out.on hb)
  replace BQo := Lib.hid (BQo.out.keep (grown_of_below hb none))
  clear hb0 hown hgr hat hb1 hown2 hgr2 hat2 hg3 hb
  obtain ⟨bm, cm, rfl, -, -, -, -⟩ := own_form HOm (by simp)
  have Im := Lib.hid (own_prefix HOm (TM.out.fits1))
  have Cm := Lib.hid (own_cap HOm)
  simp only [List.length_append, List.length_singleton]
  clear HOm
  obtain ⟨mm, em⟩ : ∃ k, moves.length + 1 = k := ⟨_, rfl⟩
  rw [em]
  clear em
  rw [HNM.out] at Im Cm
  go_upto_region 4 with (fail)
  have hb0 := (Below.refl w4.heap.size w4).alloc (Nat.le_refl _) (.cells #[] 3)
  go_wp2_with (at_builtin; refine wpl_append_new elInt rfl (.tmp 35) (.tmp 36) rfl rfl (World.ownsRow_made w4 #[] 0 (Nat.le_refl _) (by decide) rfl) rfl (TS.out.on hb0).row (one_ints script) ?_ ?_ ?_ ?_)
  · have := TS.out.fits1; simp; omega
  · have := TS.out.fits1; simp; omega
  · simp
  intro va wa hown hgr hat
  have hb1 := hb0.trans ((below_of_grown hgr).mono hb0.size)
  go_wp2_with (at_builtin; refine wpl_append elInt rfl (.tmp 37) (.tmp 38) rfl rfl (own_grown hown (World.grownBy_alloc _ _ none)) rfl (row_one wa _ _) ?_ ?_ ?_ ?_ ?_)
  · first | rfl | (intro u hu; simp at hu; subst hu; rfl)
  · have := TS.out.fits1; simp; omega
  · have := TS.out.fits1; simp; omega
  · have := hb1.size; first | omega | (simp; omega)
  intro vb w5 hown2 hgr2 hat2
  have hg3 := World.grownBy_alloc wa (.cells #[.int .i64 0] 3) none
  have hb := (hb1.trans ((below_of_grown hg3).mono hb1.size)).grown hgr2 (Nat.le_trans hb1.size hg3.size) (fun k e => (own_lt hown k e).1)
  have HOs : OwnI w5 w4.heap.size vb (script ++ [0]) := by unfold OwnI; simpa using hown2
  replace W := Lib.hid (W.out.trans (hb.mono W.out.size))
  replace BQg := Lib.hid (BQg.out.keep (grown_of_below hb none))
  replace TV := Lib.hid (TV.out.on hb)
  replace TM := Lib.hid (TM.out.on hb)
  replace TS := Lib.hid (TS.out.on hb)
  replace GO := Lib.hid (GO.out.on hb)
  replace BQo := Lib.hid (BQo.out.keep (grown_of_below hb none))
  replace Im := Lib.hid (Im.out.on hb)
  clear hb0 hown hgr hat hb1 hown2 hgr2 hat2 hg3 hb
  obtain ⟨bs, cs, rfl, -, -, -, -⟩ := own_form HOs (by simp)
  have Is := Lib.hid (own_prefix HOs (TS.out.fits1))
  have Cs := Lib.hid (own_cap HOs)
  simp only [List.length_append, List.length_singleton]
  clear HOs
  obtain ⟨ms, es⟩ : ∃ k, script.length + 1 = k := ⟨_, rfl⟩
  rw [es]
  clear es
  rw [HNS.out] at Is Cs
  have hbb := BQg.out
  have gc0 : w5.cell? ⟨qg, 0, none⟩ = some (.slice ga n1 gka) := hbb.cell 0 _ rfl
  have gc1 : w5.cell? ⟨qg, 1, none⟩ = some (.slice gb n2 gkb) := hbb.cell 1 _ rfl
  have gc2 : w5.cell? ⟨qg, 2, none⟩ = some (.slice gc n3 gkc) := hbb.cell 2 _ rfl
  clear hbb
  go_wp2_with fail
  clear gc0 gc1 gc2
  refine (rrun_any g _ z p _ _ moves script w5 TV.out TM.out TS.out).mono ?_
  rintro e w6 ⟨⟨v1, v2, A, B, tp, c, rfl, ho1, ho2, -, hpp⟩, hb⟩
  have HPP := Lib.hid hpp
  have hln := play_len hpp
  obtain ⟨xa, xk, rfl, -⟩ := own_at ho1
  obtain ⟨xb, xl, rfl, -⟩ := own_at ho2
  obtain ⟨xn, hxn⟩ : ∃ k, A.length = k := ⟨_, rfl⟩
  obtain ⟨xm, hxm⟩ : ∃ k, B.length = k := ⟨_, rfl⟩
  rw [hxn] at ho1 ⊢
  rw [hxm] at ho2 ⊢
  have hia := ho1.ints (by omega)
  have hib := ho2.ints (by omega)
  replace W := Lib.hid (W.out.trans (hb.mono W.out.size))
  replace BQg := Lib.hid (BQg.out.keep (grown_of_below hb none))
  replace TV := Lib.hid (TV.out.on hb)
  replace TM := Lib.hid (TM.out.on hb)
  replace TS := Lib.hid (TS.out.on hb)
  replace GO := Lib.hid (GO.out.on hb)
  replace BQo := Lib.hid (BQo.out.keep (grown_of_below hb none))
  replace Im := Lib.hid (Im.out.on hb)
  replace Is := Lib.hid (Is.out.on hb)
  have IA := Lib.hid hia
  have IB := Lib.hid hib
  clear hb ho1 ho2 hia hib hpp
  have HLN := Lib.hid hln
  clear hln hxn hxm
  go_upto_region 6 with (fail)
  have bq : Box (w6.alloc (.cells #[.slice xa xn xk, .slice xb xm xl, .int .i64 tp] 29)) w6.heap.size 29 #[.slice xa xn xk, .slice xb xm xl, .int .i64 tp] := Box.new _ _ _
  have hgq := World.grownBy_alloc w6 (.cells #[.slice xa xn xk, .slice xb xm xl, .int .i64 tp] 29) none
  replace W := Lib.hid (W.out.trans ((below_of_grown hgq).mono W.out.size))
  replace BQg := Lib.hid (BQg.out.keep hgq)
  replace TV := Lib.hid (TV.out.on (below_of_grown hgq))
  replace TM := Lib.hid (TM.out.on (below_of_grown hgq))
  replace TS := Lib.hid (TS.out.on (below_of_grown hgq))
  replace GO := Lib.hid (GO.out.on (below_of_grown hgq))
  replace BQo := Lib.hid (BQo.out.keep hgq)
  replace Im := Lib.hid (Im.out.on (below_of_grown hgq))
  replace Is := Lib.hid (Is.out.on (below_of_grown hgq))
  replace IA := Lib.hid (IA.out.on (below_of_grown hgq))
  replace IB := Lib.hid (IB.out.on (below_of_grown hgq))
  generalize (w6.alloc (.cells #[.slice xa xn xk, .slice xb xm xl, .int .i64 tp] 29)) = w7 at bq W BQg TV TM TS GO BQo Im Is IA IB ⊢
  generalize w6.heap.size = qw at bq ⊢
  have BQw := Lib.hid bq
  clear bq hgq
  go_wp2_with fail
  go_loopw [17] (fun iv wr => ∃ t : Nat, iv = .int .i64 (t : Int) ∧ t ≤ 2 ∧ Below w7.heap.size w7 wr) (fun iv _ => 2 - (intOf iv).toNat)
  case atStart => exact ⟨0, rfl, Nat.zero_le _, Below.refl _ _⟩
  case round =>
    obtain ⟨t, rfl, ht, hb⟩ := hrel
    obtain ⟨wo, rfl⟩ : ∃ wo : World, wo = wr := ⟨_, rfl⟩
    have HLO := Lib.hid (show w7.heap.size ≤ wo.heap.size from hb.size)
    have HB7 := Lib.hid hb
    have ht0 : (0 : Int) ≤ (t : Int) := Int.natCast_nonneg _
    replace BQw := Lib.hid (BQw.out.keep (grown_of_below hb none))
    replace W := Lib.hid (W.out.trans (hb.mono W.out.size))
    replace BQg := Lib.hid (BQg.out.keep (grown_of_below hb none))
    replace TV := Lib.hid (TV.out.on hb)
    replace TM := Lib.hid (TM.out.on hb)
    replace TS := Lib.hid (TS.out.on hb)
    replace GO := Lib.hid (GO.out.on hb)
    replace BQo := Lib.hid (BQo.out.keep (grown_of_below hb none))
    replace Im := Lib.hid (Im.out.on hb)
    replace Is := Lib.hid (Is.out.on hb)
    replace IA := Lib.hid (IA.out.on hb)
    replace IB := Lib.hid (IB.out.on hb)
    clear hb
    by_cases ht2 : t < 2
    · have ft : decide ((t : Int) < 2) = true := decide_eq_true (by omega)
      have hcm2 : nm ≤ cm := Cm.out
      have hcs2 : ns ≤ cs := Cs.out
      have hnm0 : (0 : Int) ≤ (nm : Int) := Int.natCast_nonneg _
      have hns0 : (0 : Int) ≤ (ns : Int) := Int.natCast_nonneg _
      go_upto_region 9 with (fail)
      refine Rk.wp_region_lit (fun idx => match idx with | 0 => (fun v _ _ => v = .agg #[.slice oa g.owner.length oka, .slice ob_ g.prio.length okb, .slice oc_ g.moves.length okc]) | 1 => (fun v _ _ => v = .int .i64 z) | 2 => (fun v _ _ => v = .int .i64 p) | 3 => (fun v _ _ => v = (.slice (some ⟨bm, 0, none⟩) mm cm)) | 4 => (fun v _ _ => v = (.slice om nm km)) | 5 => (fun v _ _ => v = (.int .i64 (nm : Int))) | 6 => (fun v _ _ => v = (.slice (some ⟨bm, 0, none⟩) nm cm)) | 7 => (fun v _ _ => v = (.slice (some ⟨bs, 0, none⟩) ms cs)) | 8 => (fun v _ _ => v = (.slice os ns ks)) | 9 => (fun v _ _ => v = (.int .i64 (ns : Int))) | 10 => (fun v _ _ => v = (.slice (some ⟨bs, 0, none⟩) ns cs)) | 11 => (fun v _ w' => RunT g z p moves script wo.heap.size v w') | 12 => (fun v ds w' => v = ds.getD 0 undef ∧ RunT g z p moves script wo.heap.size v w') | 13 => (fun v ds _ => v = tupAt17 (ds.getD 0 undef) 0) | 14 => (fun v ds _ => v = tupAt17 (ds.getD 0 undef) 1) | 15 => (fun v _ _ => ∃ qp, v = .pointer (some ⟨qp, 0, none⟩) ∧ wo.heap.size ≤ qp) | 16 => (fun _ ds w' => ∃ qp x0 x1 x2, ds.getD 0 undef = .pointer (some ⟨qp, 0, none⟩) ∧ ds.getD 1 undef = .agg #[x0, x1, x2] ∧ Box w' qp 29 #[x0, x1, x2]) | _ => fun _ _ _ => True) (fun idx => match idx with | 15 => (fun v _ w' => ∃ qp, v = .pointer (some ⟨qp, 0, none⟩) ∧ Box w' qp 29 #[.slice none 0 0, .slice none 0 0, .int .i64 0]) | _ => fun _ _ _ => True) (KG wo.heap.size 29) 16 (by kernel_rfl) (by rfl) (by kernel_rfl) (by rfl) ?_ ?_ ?_ ?_
      · refine ⟨?_, ?_, ?_, ?_, ?_, ?_, ?_, ?_, ?_, ?_, ?_, ?_, ?_, ?_, ?_, ?_, ?_, trivial⟩
        · intro A w' K vals h hn hT hgk hK0
          have r0 : A.tmps[12]?.getD undef = .pointer (some ⟨qo, 0, none⟩) := Rg.slot h.1
          have bs := BQo.out.keep (keeps_old hgk)
          have cc0 : w'.cell? ⟨qo, 0, none⟩ = some (.slice oa g.owner.length oka) := bs.cell 0 _ rfl
          have cc1 : w'.cell? ⟨qo, 1, none⟩ = some (.slice ob_ g.prio.length okb) := bs.cell 1 _ rfl
          have cc2 : w'.cell? ⟨qo, 2, none⟩ = some (.slice oc_ g.moves.length okc) := bs.cell 2 _ rfl
          clear h hn hT hgk bs
          simp [Oper.wp, execOp, go_sem, r0, cc0, cc1, cc2]
          exact hK0 _ _ (Rk.Keeps.refl _ _) rfl trivial
        · intro A w' K vals h hn hT hgk hK0
          have r0 : A.tmps[1]?.getD undef = .int .i64 z := Rg.slot h.1
          clear h hn hT hgk
          simp [Oper.wp, execOp, go_sem, r0]
          exact hK0 _ _ (Rk.Keeps.refl _ _) rfl trivial
        · intro A w' K vals h hn hT hgk hK0
          have r0 : A.tmps[2]?.getD undef = .int .i64 p := Rg.slot h.1
          clear h hn hT hgk
          simp [Oper.wp, execOp, go_sem, r0]
          exact hK0 _ _ (Rk.Keeps.refl _ _) rfl trivial
        · intro A w' K vals h hn hT hgk hK0
          have r0 : A.tmps[13]?.getD undef = .slice (some ⟨bm, 0, none⟩) mm cm := Rg.slot h.1
          clear h hn hT hgk
          simp [Oper.wp, execOp, go_sem, r0]
          exact hK0 _ _ (Rk.Keeps.refl _ _) rfl trivial
        · intro A w' K vals h hn hT hgk hK0
          have r0 : A.tmps[3]?.getD undef = .slice om nm km := Rg.slot h.1
          clear h hn hT hgk
          simp [Oper.wp, execOp, go_sem, r0]
          exact hK0 _ _ (Rk.Keeps.refl _ _) rfl trivial
        · intro A w' K vals h hn hT hgk hK0
          have r0 : A.tmps[58]?.getD undef = vals 4 := Rg.slot h.1
          have s0 : vals 4 = (.slice om nm km) := hn.1
          clear h hn hT hgk
          simp [Oper.wp, go_sem, r0, s0]
          exact hK0 _ _ (Rk.Keeps.refl _ _) rfl trivial
        · intro A w' K vals h hn hT hgk hK0
          have r0 : A.tmps[57]?.getD undef = vals 3 := Rg.slot h.1
          have r1 : A.tmps[59]?.getD undef = vals 5 := Rg.slot h.2.1
          have r2 : vals 3 = (.slice (some ⟨bm, 0, none⟩) mm cm) := hn.1
          have r3 : vals 5 = (.int .i64 (nm : Int)) := hn.2.1
          clear h hn hT hgk
          simp [Oper.wp, execOp, go_sem, r0, r1, r2, r3, hcm2, hnm0]
          exact hK0 _ _ (Rk.Keeps.refl _ _) rfl trivial
        · intro A w' K vals h hn hT hgk hK0
          have r0 : A.tmps[14]?.getD undef = .slice (some ⟨bs, 0, none⟩) ms cs := Rg.slot h.1
          clear h hn hT hgk
          simp [Oper.wp, execOp, go_sem, r0]
          exact hK0 _ _ (Rk.Keeps.refl _ _) rfl trivial
        · intro A w' K vals h hn hT hgk hK0
          have r0 : A.tmps[4]?.getD undef = .slice os ns ks := Rg.slot h.1
          clear h hn hT hgk
          simp [Oper.wp, execOp, go_sem, r0]
          exact hK0 _ _ (Rk.Keeps.refl _ _) rfl trivial
        · intro A w' K vals h hn hT hgk hK0
          have r0 : A.tmps[62]?.getD undef = vals 8 := Rg.slot h.1
          have s0 : vals 8 = (.slice os ns ks) := hn.1
          clear h hn hT hgk
          simp [Oper.wp, go_sem, r0, s0]
          exact hK0 _ _ (Rk.Keeps.refl _ _) rfl trivial
        · intro A w' K vals h hn hT hgk hK0
          have r0 : A.tmps[61]?.getD undef = vals 7 := Rg.slot h.1
          have r1 : A.tmps[63]?.getD undef = vals 9 := Rg.slot h.2.1
          have r2 : vals 7 = (.slice (some ⟨bs, 0, none⟩) ms cs) := hn.1
          have r3 : vals 9 = (.int .i64 (ns : Int)) := hn.2.1
          clear h hn hT hgk
          simp [Oper.wp, execOp, go_sem, r0, r1, r2, r3, hcs2, hns0]
          exact hK0 _ _ (Rk.Keeps.refl _ _) rfl trivial
        · intro A w' K vals h hn hT hgk hK0
          have r0 : A.tmps[54]?.getD undef = vals 0 := Rg.slot h.2.1
          have r1 : A.tmps[55]?.getD undef = vals 1 := Rg.slot h.2.2.1
          have r2 : A.tmps[56]?.getD undef = vals 2 := Rg.slot h.2.2.2.1
          have r3 : A.tmps[60]?.getD undef = vals 6 := Rg.slot h.2.2.2.2.1
          have r4 : A.tmps[64]?.getD undef = vals 10 := Rg.slot h.2.2.2.2.2.1
          have s0 : vals 0 = .agg #[.slice oa g.owner.length oka, .slice ob_ g.prio.length okb, .slice oc_ g.moves.length okc] := hn.1
          have s1 : vals 1 = .int .i64 z := hn.2.1
          have s2 : vals 2 = .int .i64 p := hn.2.2.1
          have s3 : vals 6 = (.slice (some ⟨bm, 0, none⟩) nm cm) := hn.2.2.2.1
          have s4 : vals 10 = (.slice (some ⟨bs, 0, none⟩) ns cs) := hn.2.2.2.2.1
          have hb := below_of_grown (keeps_old hgk)
          have hsz := hgk.size
          clear h hn hT hgk
          simp [Oper.wp, go_sem, r0, r1, r2, r3, r4, s0, s1, s2, s3, s4]
          refine (run_any g _ z p _ _ moves script w' (GO.out.on hb) (Im.out.on hb) (Is.out.on hb)).mono ?_
          rintro e w'' ⟨hv, hb⟩
          obtain ⟨v, rfl, v1, v2, A1, B1, tq, c1, rfl, h1, h2, h3, h4⟩ := hv.val
          exact hK0 _ _ (Rk.keep_of (grown_of_below hb _)) ⟨v1, v2, A1, B1, tq, c1, rfl, own_more h1 hsz, own_more h2 hsz, h3, h4⟩ trivial
        · intro A w' K vals h hn hT hgk hK0
          have r0 : A.tmps[65]?.getD undef = vals 11 := Rg.slot h.1
          have n3 : RunT g z p moves script wo.heap.size (vals 11) w' := hn.1
          clear h hn hT hgk
          simp [Oper.wp, execOp, go_sem, r0]
          exact hK0 _ _ (Rk.Keeps.refl _ _) ⟨rfl, n3⟩ trivial
        · intro A w' K vals h hn hT hgk hK0
          have r0 : A.tmps[53]?.getD undef = vals 12 := Rg.slot h.1
          obtain ⟨v1, v2, A1, B1, tq, c1, hv, -⟩ : RunT g z p moves script wo.heap.size (vals 12) w' := hn.1.2
          clear h hn hT hgk
          simp [Oper.wp, execOp, go_sem, r0, hv]
          refine hK0 _ _ (Rk.Keeps.refl _ _) ?_ trivial
          show _ = tupAt17 (vals 12) 0
          rw [hv]
          rfl
        · intro A w' K vals h hn hT hgk hK0
          have r0 : A.tmps[53]?.getD undef = vals 12 := Rg.slot h.1
          obtain ⟨v1, v2, A1, B1, tq, c1, hv, -⟩ : RunT g z p moves script wo.heap.size (vals 12) w' := hn.1.2
          clear h hn hT hgk
          simp [Oper.wp, execOp, go_sem, r0, hv]
          refine hK0 _ _ (Rk.Keeps.refl _ _) ?_ trivial
          show _ = tupAt17 (vals 12) 1
          rw [hv]
          rfl
        · intro A w' K vals h hn hT hgk hK0
          clear h hn hT
          simp [Oper.wp, execOp, go_sem]
          exact hK0 _ _ (Rk.keep_of (World.grownBy_alloc _ _ _)) ⟨_, rfl, hgk.size⟩ ⟨_, rfl, Box.new _ _ _⟩
        · intro A w' K vals h hn hT hgk hK0
          have r0 : A.tmps[18]?.getD undef = vals 15 := Rg.slot h.1
          have r1 : A.tmps[66]?.getD undef = vals 13 := Rg.slot h.2.1
          obtain ⟨qp, hp, hbx⟩ : ∃ qp, vals 15 = .pointer (some ⟨qp, 0, none⟩) ∧ Box w' qp 29 #[.slice none 0 0, .slice none 0 0, .int .i64 0] := (hT rfl).1
          obtain ⟨qp', hp', hlo⟩ : ∃ qp, vals 15 = .pointer (some ⟨qp, 0, none⟩) ∧ wo.heap.size ≤ qp := hn.1
          have s6 : vals 13 = tupAt17 (vals 12) 0 := hn.2.1
          obtain ⟨v1, v2, A1, B1, tq, c1, s5, ho1, ho2, -⟩ : RunT g z p moves script wo.heap.size (vals 12) w' := hn.2.2.2.2.2.2.2.2.2.2.2.2.2.2.2.1.2
          rw [s5] at s6
          have s6 : vals 13 = .agg #[v1, v2, .int .i64 tq] := s6
          obtain ⟨x1, y1, rfl, -⟩ := own_at ho1
          obtain ⟨x2, y2, rfl, -⟩ := own_at ho2
          obtain ⟨z1, hz1⟩ : ∃ k, A1.length = k := ⟨_, rfl⟩
          obtain ⟨z2, hz2⟩ : ∃ k, B1.length = k := ⟨_, rfl⟩
          rw [hz1, hz2] at s6
          obtain rfl : qp' = qp := by rw [hp'] at hp; injection hp with hp; injection hp with hp; injection hp with hp
          clear h hn hT s5 ho1 ho2 hz1 hz2
          have qc0 : w'.cell? ⟨qp', 0, none⟩ = some (.slice none 0 0) := hbx.cell 0 _ rfl
          have qc1 : w'.cell? ⟨qp', 1, none⟩ = some (.slice none 0 0) := hbx.cell 1 _ rfl
          have qc2 : w'.cell? ⟨qp', 2, none⟩ = some (.int .i64 0) := hbx.cell 2 _ rfl
          have qf0 : w'.frozen? ⟨qp', 0, none⟩ = false := hbx.frozen 0
          have qf1 : w'.frozen? ⟨qp', 1, none⟩ = false := hbx.frozen 1
          have qf2 : w'.frozen? ⟨qp', 2, none⟩ = false := hbx.frozen 2
          simp [Oper.wp, execOp, go_sem, r0, r1, hp', s6, qc0, qc1, qc2, qf0, qf1, qf2]
          exact hK0 undef _ (((keeps_set hbx hlo _ _).trans (keeps_set (hbx.set _ _) hlo _ _)).trans (keeps_set ((hbx.set _ _).set _ _) hlo _ _)) ⟨qp', _, _, _, hp', s6, by simpa using ((hbx.set 0 (.slice x1 z1 y1)).set 1 (.slice x2 z2 y2)).set 2 (.int .i64 tq)⟩ trivial
      · refine ⟨?_, ?_, ?_, ?_, ?_, ?_, ?_, ?_, ?_, ?_, ?_, ?_, ?_, ?_, ?_, ?_, ?_, trivial⟩
        · exact fun _ _ _ _ _ _ h => h
        · exact fun _ _ _ _ _ _ h => h
        · exact fun _ _ _ _ _ _ h => h
        · exact fun _ _ _ _ _ _ h => h
        · exact fun _ _ _ _ _ _ h => h
        · exact fun _ _ _ _ _ _ h => h
        · exact fun _ _ _ _ _ _ h => h
        · exact fun _ _ _ _ _ _ h => h
        · exact fun _ _ _ _ _ _ h => h
        · exact fun _ _ _ _ _ _ h => h
        · exact fun _ _ _ _ _ _ h => h
        · exact fun _ _ _ _ _ h ⟨v1, v2, A1, B1, tq, c1, hv, h1, h2, hr⟩ => ⟨v1, v2, A1, B1, tq, c1, hv, own_other h1 h (by decide), own_other h2 h (by decide), hr⟩
        · exact fun _ _ _ _ _ h ⟨he, v1, v2, A1, B1, tq, c1, hv, h1, h2, hr⟩ => ⟨he, v1, v2, A1, B1, tq, c1, hv, own_other h1 h (by decide), own_other h2 h (by decide), hr⟩
        · exact fun _ _ _ _ _ _ h => h
        · exact fun _ _ _ _ _ _ h => h
        · exact fun _ _ _ _ _ _ h => h
        · exact fun _ _ _ _ _ h ⟨qp, x0, x1, x2, h1, h2, hb⟩ => ⟨qp, x0, x1, x2, h1, h2, hb.keep (Rk.grown_of h)⟩
      · intro k v ds w w' hk h
        match k, h with
        | 15, h => exact ⟨h.choose, h.choose_spec.1, h.choose_spec.2.keep (Rk.grown_of hk)⟩
        | 0, _ | 1, _ | 2, _ | 3, _ | 4, _ | 5, _ | 6, _ | 7, _ | 8, _ | 9, _ | 10, _ | 11, _ | 12, _ | 13, _ | 14, _ | _ + 16, _ => trivial
      · intro vals w8 G hgk hS hG
        obtain ⟨v1, v2, A1, B1, tq, c1, s5, ho1, ho2, hap, hpp⟩ : RunT g z p moves script wo.heap.size (vals 12) w8 := hS.2.2.2.2.2.2.2.2.2.2.2.2.1.2
        have s6 : vals 13 = tupAt17 (vals 12) 0 := hS.2.2.2.2.2.2.2.2.2.2.2.2.2.1
        have s7 : vals 14 = tupAt17 (vals 12) 1 := hS.2.2.2.2.2.2.2.2.2.2.2.2.2.2.1
        obtain ⟨qp0, e15, hqp⟩ : ∃ qp, vals 15 = .pointer (some ⟨qp, 0, none⟩) ∧ wo.heap.size ≤ qp := hS.2.2.2.2.2.2.2.2.2.2.2.2.2.2.2.1
        obtain ⟨qp, x0, x1, x2, s8, s9, hbp⟩ : ∃ qp x0 x1 x2, vals 15 = .pointer (some ⟨qp, 0, none⟩) ∧ vals 13 = .agg #[x0, x1, x2] ∧ Box w8 qp 29 #[x0, x1, x2] := hS.2.2.2.2.2.2.2.2.2.2.2.2.2.2.2.2.1
        clear hS
        rw [s5] at s6 s7
        have s6 : vals 13 = .agg #[v1, v2, .int .i64 tq] := s6
        have s7 : vals 14 = .int .i64 ((c1 : Nat) : Int) := s7
        rw [s6] at s9
        obtain ⟨rfl, rfl, rfl⟩ : v1 = x0 ∧ v2 = x1 ∧ Value.int .i64 tq = x2 := by
          injection s9 with s9
          injection s9 with s9
          injection s9 with h1 s9
          injection s9 with h2 s9
          injection s9 with h3 s9
          exact ⟨h1, h2, h3⟩
        rw [e15] at s8
        obtain rfl : qp0 = qp := by injection s8 with s8; injection s8 with s8; injection s8 with s8
        have hb := below_of_grown (keeps_old hgk)
        replace BQw := Lib.hid (BQw.out.keep (grown_of_below hb none))
        replace W := Lib.hid (W.out.trans (hb.mono W.out.size))
        replace BQg := Lib.hid (BQg.out.keep (grown_of_below hb none))
        replace TV := Lib.hid (TV.out.on hb)
        replace TM := Lib.hid (TM.out.on hb)
        replace TS := Lib.hid (TS.out.on hb)
        replace GO := Lib.hid (GO.out.on hb)
        replace BQo := Lib.hid (BQo.out.keep (grown_of_below hb none))
        replace Im := Lib.hid (Im.out.on hb)
        replace Is := Lib.hid (Is.out.on hb)
        replace IA := Lib.hid (IA.out.on hb)
        replace IB := Lib.hid (IB.out.on hb)
        replace HB7 := Lib.hid (HB7.out.trans (hb.mono HB7.out.size))
        have HSZ := Lib.hid (show wo.heap.size ≤ w8.heap.size from hgk.size)
        clear hb hgk s8
        obtain ⟨rfl, rfl, rfl, rfl⟩ := hpp.unique HPP.out
        refine hG ?_
        clear hG
        simp [Rg.putAll, Oper.wp, execOp, go_sem, s5, s6, s7, e15]
        clear s5 s6 s7 e15
        have HO1 := Lib.hid ho1
        have HO2 := Lib.hid ho2
        have BQp := Lib.hid hbp
        have HHQ := Lib.hid hqp
        have hi1 := ho1.ints (by have := HLN.out.1; omega)
        have hi2 := ho2.ints (by have := HLN.out.2; omega)
        have IC1 := Lib.hid hi1
        have IC2 := Lib.hid hi2
        obtain ⟨x1, y1, rfl, -⟩ := own_at ho1
        obtain ⟨x2, y2, rfl, -⟩ := own_at ho2
        obtain ⟨z1, hz1⟩ : ∃ k, A1.length = k := ⟨_, rfl⟩
        obtain ⟨z2, hz2⟩ : ∃ k, B1.length = k := ⟨_, rfl⟩
        have HZ1 := Lib.hid (show z1 ≤ 12800 by have := HLN.out.1; omega)
        have HZ2 := Lib.hid (show z2 ≤ 12800 by have := HLN.out.2; omega)
        rw [hz1, hz2] at BQp
        rw [hz1] at IC1 HO1
        rw [hz2] at IC2 HO2
        have HR1 : Hid (Rw wo.heap.size 0 0 w8 (.slice x1 z1 y1) z1) := Lib.hid (by
          have := Rw.of_own (N := 0) HO1.out
          rw [hz1] at this
          exact this)
        have HR2 : Hid (Rw wo.heap.size 0 0 w8 (.slice x2 z2 y2) z2) := Lib.hid (by
          have := Rw.of_own (N := 0) HO2.out
          rw [hz2] at this
          exact this)
        clear hz1 hz2 hi1 hi2 ho1 ho2 hbp hqp hap hpp HO1 HO2
        have hbb := BQp.out
        have pc0 : w8.cell? ⟨qp0, 0, none⟩ = some (.slice x1 z1 y1) := hbb.cell 0 _ rfl
        have pc1 : w8.cell? ⟨qp0, 1, none⟩ = some (.slice x2 z2 y2) := hbb.cell 1 _ rfl
        have pc2 : w8.cell? ⟨qp0, 2, none⟩ = some (.int .i64 tq) := hbb.cell 2 _ rfl
        clear hbb
        have hbb := BQw.out
        have vc0 : w8.cell? ⟨qw, 0, none⟩ = some (.slice xa xn xk) := hbb.cell 0 _ rfl
        have vc1 : w8.cell? ⟨qw, 1, none⟩ = some (.slice xb xm xl) := hbb.cell 1 _ rfl
        have vc2 : w8.cell? ⟨qw, 2, none⟩ = some (.int .i64 tq) := hbb.cell 2 _ rfl
        clear hbb
        go_wp2_with fail
        refine (same_any _ _ _ _ tq tq A1 B1 A1 B1 w8 IC1.out IC2.out IA.out IB.out).mono ?_
        rintro e w9 ⟨rfl, hb⟩
        rw [decide_eq_true (show A1 = A1 ∧ B1 = B1 ∧ tq = tq from ⟨rfl, rfl, rfl⟩)]
        clear pc0 pc1 pc2 vc0 vc1 vc2
        replace BQp := Lib.hid (BQp.out.keep (grown_of_below hb none))
        replace HR1 := Lib.hid (HR1.out.soft (soft_all (Rk.keep_of (grown_of_below hb none))))
        replace HR2 := Lib.hid (HR2.out.soft (soft_all (Rk.keep_of (grown_of_below hb none))))
        replace HB7 := Lib.hid (HB7.out.trans (hb.mono HB7.out.size))
        replace HSZ := Lib.hid (Nat.le_trans HSZ.out hb.size)
        clear hb BQw W BQg TV TM TS GO BQo Im Is IA IB IC1 IC2
        have fc : (((c1 : Nat) : Int) != ((c1 : Nat) : Int)) = false := by rw [bne_eq_false_iff_eq]
        have hbb := BQp.out
        have pc0 : w9.cell? ⟨qp0, 0, none⟩ = some (.slice x1 z1 y1) := hbb.cell 0 _ rfl
        have pc1 : w9.cell? ⟨qp0, 1, none⟩ = some (.slice x2 z2 y2) := hbb.cell 1 _ rfl
        have pc2 : w9.cell? ⟨qp0, 2, none⟩ = some (.int .i64 tq) := hbb.cell 2 _ rfl
        clear hbb
        go_wp2_with (at_builtin; refine wpl_one rfl (.tmp 79) (.tmp 80) rfl rfl (HR1.out.soft (soft_all (Rk.keep_of (World.grownBy_alloc w9 (.cells #[.int .i64 9] 3) none)))) rfl (Box.new _ _ _) ?_ (Nat.zero_le _) ?_ ?_)
        · have := HZ1.out; omega
        · have := HSZ.out; first | omega | (simp; omega)
        intro vl w10 hrl hsl hkl
        clear pc0 pc1 pc2
        have hga := World.grownBy_alloc w9 (.cells #[.int .i64 9] 3) none
        replace BQp := Lib.hid (kf_box hkl (BQp.out.keep hga) (by decide))
        replace HR2 := Lib.hid ((HR2.out.soft (soft_all (Rk.keep_of hga))).soft hsl)
        replace HB7 := Lib.hid ((HB7.out.trans ((below_of_grown hga).mono HB7.out.size)).trans ((kf_below hkl (Nat.le_trans HSZ.out hga.size)).mono HLO.out))
        replace HSZ := Lib.hid (Nat.le_trans (Nat.le_trans HSZ.out hga.size) hkl.size)
        clear hga hsl hkl
        obtain ⟨lo0, lk0, rfl⟩ := hrl.form
        have HRL0 := Lib.hid hrl
        obtain ⟨ln0, hln0⟩ : ∃ k, z1 + 1 = k := ⟨_, rfl⟩
        rw [hln0] at HRL0 ⊢
        have HLL0 := Lib.hid (show ln0 ≤ 12801 by have := HZ1.out; omega)
        clear hrl hln0
        go_wp2_with fail
        go_loopw [22] (fun iv wr => ∃ k : Nat, iv = .int .i64 (k : Int) ∧ k ≤ ln0 ∧ Rw wo.heap.size 0 0 wr (.slice lo0 ln0 lk0) ln0 ∧ Soft w10 wr ∧ Rk.Keeps (KF wo.heap.size 0 0 3) w10 wr) (fun iv _ => ln0 - (intOf iv).toNat)
        case atStart => exact ⟨0, rfl, Nat.zero_le _, HRL0.out, soft_all (Rk.Keeps.refl _ _), kf_refl _ _ _ _ _⟩
        case round =>
          obtain ⟨k, rfl, hk, hrw, hso, hkp⟩ := hrel
          have hll := HLL0.out
          have hk0 : (0 : Int) ≤ (k : Int) := Int.natCast_nonneg _
          by_cases hkl : k < ln0
          · have fk : decide ((k : Int) < (ln0 : Int)) = true := decide_eq_true (by omega)
            have hki : (k : Int) < (ln0 : Int) := by omega
            obtain ⟨g9, u9, rfl, hc9, hf9, hset⟩ := hrw.at k hkl
            obtain ⟨hs9, hk9⟩ := hset (.int .i64 (-9))
            have HRW := Lib.hid (hrw.soft hs9)
            have HSO := Lib.hid (hso.trans hs9)
            have HKP := Lib.hid (hkp.trans hk9)
            clear hrw hso hkp hset hs9 hk9
            go_wp2_with fail
            go_roundw
            case rel => exact ⟨k + 1, rfl, by omega, HRW.out, HSO.out, HKP.out⟩
            case measure => simp [intOf]; omega
          · have fk : decide ((k : Int) < (ln0 : Int)) = false := decide_eq_false (by omega)
            replace BQp := Lib.hid (kf_box hkp BQp.out (by decide))
            replace HR2 := Lib.hid (HR2.out.soft hso)
            replace HB7 := Lib.hid (HB7.out.trans ((kf_below hkp HSZ.out).mono HLO.out))
            replace HSZ := Lib.hid (Nat.le_trans HSZ.out hkp.size)
            obtain ⟨w12, rfl⟩ : ∃ w9 : World, w9 = wr := ⟨_, rfl⟩
            clear hrw hso hkp hk0 hll
            have hbb := BQp.out
            have pc0 : w12.cell? ⟨qp0, 0, none⟩ = some (.slice x1 z1 y1) := hbb.cell 0 _ rfl
            have pc1 : w12.cell? ⟨qp0, 1, none⟩ = some (.slice x2 z2 y2) := hbb.cell 1 _ rfl
            have pc2 : w12.cell? ⟨qp0, 2, none⟩ = some (.int .i64 tq) := hbb.cell 2 _ rfl
            clear hbb
            go_wp2_with (at_builtin; refine wpl_one rfl (.tmp 92) (.tmp 93) rfl rfl (HR2.out.soft (soft_all (Rk.keep_of (World.grownBy_alloc w12 (.cells #[.int .i64 9] 3) none)))) rfl (Box.new _ _ _) ?_ (Nat.zero_le _) ?_ ?_)
            · have := HZ2.out; omega
            · have := HSZ.out; first | omega | (simp; omega)
            intro vl w13 hrl hsl hkl
            clear pc0 pc1 pc2
            have hga := World.grownBy_alloc w12 (.cells #[.int .i64 9] 3) none
            replace BQp := Lib.hid (kf_box hkl (BQp.out.keep hga) (by decide))
            replace HB7 := Lib.hid ((HB7.out.trans ((below_of_grown hga).mono HB7.out.size)).trans ((kf_below hkl (Nat.le_trans HSZ.out hga.size)).mono HLO.out))
            replace HSZ := Lib.hid (Nat.le_trans (Nat.le_trans HSZ.out hga.size) hkl.size)
            clear hga hsl hkl
            obtain ⟨lo1, lk1, rfl⟩ := hrl.form
            have HRL1 := Lib.hid hrl
            obtain ⟨ln1, hln1⟩ : ∃ k, z2 + 1 = k := ⟨_, rfl⟩
            rw [hln1] at HRL1 ⊢
            have HLL1 := Lib.hid (show ln1 ≤ 12801 by have := HZ2.out; omega)
            clear hrl hln1
            go_wp2_with fail
            go_loopw [23] (fun iv wr => ∃ k : Nat, iv = .int .i64 (k : Int) ∧ k ≤ ln1 ∧ Rw wo.heap.size 0 0 wr (.slice lo1 ln1 lk1) ln1 ∧ Soft w13 wr ∧ Rk.Keeps (KF wo.heap.size 0 0 3) w13 wr) (fun iv _ => ln1 - (intOf iv).toNat)
            case atStart => exact ⟨0, rfl, Nat.zero_le _, HRL1.out, soft_all (Rk.Keeps.refl _ _), kf_refl _ _ _ _ _⟩
            case round =>
              obtain ⟨k, rfl, hk, hrw, hso, hkp⟩ := hrel
              have hll := HLL1.out
              have hk0 : (0 : Int) ≤ (k : Int) := Int.natCast_nonneg _
              by_cases hkl : k < ln1
              · have fk : decide ((k : Int) < (ln1 : Int)) = true := decide_eq_true (by omega)
                have hki : (k : Int) < (ln1 : Int) := by omega
                obtain ⟨g9, u9, rfl, hc9, hf9, hset⟩ := hrw.at k hkl
                obtain ⟨hs9, hk9⟩ := hset (.int .i64 (-9))
                have HRW := Lib.hid (hrw.soft hs9)
                have HSO := Lib.hid (hso.trans hs9)
                have HKP := Lib.hid (hkp.trans hk9)
                clear hrw hso hkp hset hs9 hk9
                go_wp2_with fail
                go_roundw
                case rel => exact ⟨k + 1, rfl, by omega, HRW.out, HSO.out, HKP.out⟩
                case measure => simp [intOf]; omega
              · have fk : decide ((k : Int) < (ln1 : Int)) = false := decide_eq_false (by omega)
                replace BQp := Lib.hid (kf_box hkp BQp.out (by decide))
                replace HB7 := Lib.hid (HB7.out.trans ((kf_below hkp HSZ.out).mono HLO.out))
                replace HSZ := Lib.hid (Nat.le_trans HSZ.out hkp.size)
                obtain ⟨w15, rfl⟩ : ∃ w9 : World, w9 = wr := ⟨_, rfl⟩
                clear hrw hso hkp hk0 hll
                go_wp2_with fail
                go_roundw
                case rel => exact ⟨t + 1, by go_num, by omega, HB7.out⟩
                case measure => simp [intOf]; omega
    · have ft : decide ((t : Int) < 2) = false := decide_eq_false (by omega)
      have hcm2 : nm ≤ cm := Cm.out
      have hcs2 : ns ≤ cs := Cs.out
      have hnm0 : (0 : Int) ≤ (nm : Int) := Int.natCast_nonneg _
      have hns0 : (0 : Int) ≤ (ns : Int) := Int.natCast_nonneg _
      have hbb := BQg.out
      have gc0 : wo.cell? ⟨qg, 0, none⟩ = some (.slice ga n1 gka) := hbb.cell 0 _ rfl
      have gc1 : wo.cell? ⟨qg, 1, none⟩ = some (.slice gb n2 gkb) := hbb.cell 1 _ rfl
      have gc2 : wo.cell? ⟨qg, 2, none⟩ = some (.slice gc n3 gkc) := hbb.cell 2 _ rfl
      clear hbb
      have hbb := BQo.out
      have vc0 : wo.cell? ⟨qo, 0, none⟩ = some (.slice oa g.owner.length oka) := hbb.cell 0 _ rfl
      have vc1 : wo.cell? ⟨qo, 1, none⟩ = some (.slice ob_ g.prio.length okb) := hbb.cell 1 _ rfl
      have vc2 : wo.cell? ⟨qo, 2, none⟩ = some (.slice oc_ g.moves.length okc) := hbb.cell 2 _ rfl
      clear hbb
      go_wp2_with fail
      refine (samegame_any g g _ _ wo GO.out TV.out).mono ?_
      rintro e w8 ⟨rfl, hb⟩
      rw [decide_eq_true (show g = g from rfl)]
      replace W := Lib.hid (W.out.trans (hb.mono W.out.size))
      replace TM := Lib.hid (TM.out.on hb)
      replace TS := Lib.hid (TS.out.on hb)
      replace Im := Lib.hid (Im.out.on hb)
      replace Is := Lib.hid (Is.out.on hb)
      clear hb gc0 gc1 gc2 vc0 vc1 vc2
      go_wp2_with fail
      refine (sameints_any _ _ moves moves w8 Im.out TM.out).mono ?_
      rintro e w9 ⟨rfl, hb⟩
      rw [decide_eq_true (show moves = moves from rfl)]
      replace W := Lib.hid (W.out.trans (hb.mono W.out.size))
      replace TM := Lib.hid (TM.out.on hb)
      replace TS := Lib.hid (TS.out.on hb)
      replace Im := Lib.hid (Im.out.on hb)
      replace Is := Lib.hid (Is.out.on hb)
      clear hb
      go_wp2_with fail
      refine (sameints_any _ _ script script w9 Is.out TS.out).mono ?_
      rintro e w10 ⟨rfl, hb⟩
      rw [decide_eq_true (show script = script from rfl)]
      replace W := Lib.hid (W.out.trans (hb.mono W.out.size))
      clear hb
      go_wp2_with fail
      go_ret
      exact ⟨rfl, W.out⟩
end W
end Go.Proofs.Ytghdjkpndhcplaa
