/- DecompDual: the walk. -/
import Derived.Test.YtpjmboonaciplaaDoorShown13
import Derived.Test.YtpjmboonaciplaaDoorDual
import Derived.Test.YtpjmboonaciplaaDoorDecD
import Derived.Test.YtpjmboonaciplaaDoorSam
import Derived.Test.YtpjmboonaciplaaDoorPartF
import Derived.Deep.Cut
import Derived.Lib.Hide
import Derived.Deep.QuietTactic
import Derived.BigQuiet
import Derived.StillTailTactics
namespace Go.Proofs.YtpjmboonaciplaaDoor
open Go.RowKit
namespace W

theorem ROWS.ints {w : World} {lo n : Nat} {g : P.G} {p : Int} {S : BitVec 256} {c : List Int} {r : Value} {b : Nat} (h : ROWS w lo n g p S c r b) : Ints w r (lstI S) := by
  have hl : (lstI S).length = (P.lst S).length := by unfold lstI; rw [List.length_map]
  refine OwnI.ints (lo := lo) ?_ ?_
  · unfold OwnI
    rw [hl]
    exact h.1
  · rw [hl]
    unfold P.lst
    exact Nat.le_trans (List.length_filter_le _ _) (by simp)
theorem lstI_len (S : BitVec 256) : (lstI S).length = (P.lst S).length := by unfold lstI; rw [List.length_map]
theorem lst_short (S : BitVec 256) : (P.lst S).length ≤ 256 := by unfold P.lst; exact Nat.le_trans (List.length_filter_le _ _) (by simp)

set_option maxRecDepth 100000 in
set_option maxHeartbeats 4000000 in
theorem dual_none (g : P.G) (v : Value) (w : World) (hv : GameV w v g) (hT : Tab w) (hd0 : g.dual.owner.length = 0) : Calls Tryd.prog 4 #[v] w fun e w' => e = .returned (.bool true) ∧ Below w.heap.size w w' := by
  have HFD := Lib.hid (fits_dual' hv.fits)
  have HV := Lib.hid hv
  have T := Lib.hid hT
  obtain ⟨a, b, c, rfl, -⟩ := hv
  obtain ⟨dn, hdn⟩ : ∃ dn, g.dual.owner.length = dn := ⟨_, rfl⟩
  rw [hdn] at hd0
  have fd : (((dn : Nat) : Int) == 0) = true := by rw [beq_iff_eq]; omega
  have HDN := Lib.hid hdn
  clear hdn hd0 hT
  go_enter Tryd.func4, Tryd.ntmps4
  go_wp2_with fail
  have bx0 : Box (w.alloc (.cells #[a, b, c] 25)) (w.heap.size) 25 #[a, b, c] := Box.new w 25 #[a, b, c]
  have hbq : Below w.heap.size w (w.alloc (.cells #[a, b, c] 25)) := (Below.refl _ w).alloc (Nat.le_refl _) _
  have hle0 : w.heap.size ≤ w.heap.size := Nat.le_refl _
  generalize (w.alloc (.cells #[a, b, c] 25)) = w0 at bx0 hbq  ⊢
  have BQg := Lib.hid bx0
  have W := Lib.hid hbq
  have LEg := Lib.hid hle0
  clear hbq hle0 bx0 
  obtain ⟨qg, hqg⟩ : ∃ qg, w.heap.size = qg := ⟨_, rfl⟩
  rw [hqg] at BQg ⊢
  have LEg : Hid (w.heap.size ≤ qg) := Lib.hid (by omega)
  clear hqg
  refine (shown_any w0 (T.out.on W.out)).mono ?_
  rintro e w1 ⟨rfl, hb⟩
  replace BQg := Lib.hid (BQg.out.keep (grown_of_below hb none))
  replace W := Lib.hid (W.out.trans (hb.mono W.out.size))
  clear hb
  have hbb := BQg.out
  have gc0 : w1.cell? ⟨qg, 0, none⟩ = some a := hbb.cell 0 _ rfl
  have gc1 : w1.cell? ⟨qg, 1, none⟩ = some b := hbb.cell 1 _ rfl
  have gc2 : w1.cell? ⟨qg, 2, none⟩ = some c := hbb.cell 2 _ rfl
  clear hbb
  go_wp2_with fail
  clear gc0 gc1 gc2
  refine (dual_any g _ _ (HV.out.on W.out)).mono ?_
  rintro e w2 ⟨dav, dbv, dcv, dL, rfl, ho, hb⟩
  have hgd := ho.game HFD.out
  obtain ⟨da, dka, db, dkb, dc, dkc, rfl, rfl, rfl⟩ := ho.forms
  rw [HDN.out] at hgd ⊢
  replace BQg := Lib.hid (BQg.out.keep (grown_of_below hb none))
  replace W := Lib.hid (W.out.trans (hb.mono W.out.size))
  have GD := Lib.hid hgd
  clear hb ho hgd
  go_upto_region 3 with (fail)
  have bq : Box (w2.alloc (.cells #[.slice da dn dka, .slice db g.dual.prio.length dkb, .slice dc g.dual.moves.length dkc] 25)) w2.heap.size 25 #[.slice da dn dka, .slice db g.dual.prio.length dkb, .slice dc g.dual.moves.length dkc] := Box.new _ _ _
  have hgq := World.grownBy_alloc w2 (.cells #[.slice da dn dka, .slice db g.dual.prio.length dkb, .slice dc g.dual.moves.length dkc] 25) none
  replace BQg := Lib.hid (BQg.out.keep hgq)
  replace W := Lib.hid (W.out.trans ((below_of_grown hgq).mono W.out.size))
  replace GD := Lib.hid (GD.out.on (below_of_grown hgq))
  generalize (w2.alloc (.cells #[.slice da dn dka, .slice db g.dual.prio.length dkb, .slice dc g.dual.moves.length dkc] 25)) = w3 at bq BQg W GD ⊢
  generalize w2.heap.size = qd at bq ⊢
  have BQd := Lib.hid bq
  clear bq hgq
  have hbb := BQd.out
  have dc0 : w3.cell? ⟨qd, 0, none⟩ = some (.slice da dn dka) := hbb.cell 0 _ rfl
  have dc1 : w3.cell? ⟨qd, 1, none⟩ = some (.slice db g.dual.prio.length dkb) := hbb.cell 1 _ rfl
  have dc2 : w3.cell? ⟨qd, 2, none⟩ = some (.slice dc g.dual.moves.length dkc) := hbb.cell 2 _ rfl
  clear hbb
  go_wp2_with fail
  exact bodyPost_ret (v := .bool true) (by simp [results, Tryd.results4, go_sem]) rfl ⟨rfl, W.out⟩

set_option maxRecDepth 100000 in
set_option maxHeartbeats 8000000 in
theorem dual_law (g : P.G) (v : Value) (w : World) (hv : GameV w v g) (hT : Tab w) : Calls Tryd.prog 4 #[v] w fun e w' => e = .returned (.bool true) ∧ Below w.heap.size w w' := by
  by_cases hd0 : g.dual.owner.length = 0
  · exact dual_none g v w hv hT hd0
  have hr : g.Right := by
    refine (P.G.ok_iff g).1 ?_
    cases h : g.ok
    · exact absurd (by rw [P.G.dual_none h]; rfl) hd0
    · rfl
  have hdr := P.dual_right13 hr hd0
  have HFD := Lib.hid (fits_dual' hv.fits)
  have HV := Lib.hid hv
  have T := Lib.hid hT
  have HR := Lib.hid hr
  have HDR := Lib.hid hdr.1
  have HD0 := Lib.hid hd0
  obtain ⟨n, hn⟩ : ∃ n, g.owner.length = n := ⟨_, rfl⟩
  have hdn : g.dual.owner.length = n := by rw [hdr.2, hn]
  have hop := hr.prio
  have hmp := hr.moves
  have hmany := hr.many
  have h0 := hr.pos
  rw [hn] at hop hmp hmany h0
  obtain ⟨ba, oa, ka, bb, ob, kb, bc_, oc, kc, rfl, -, -, -⟩ := hv.open_ hn hop hmp h0
  have HN := Lib.hid hn
  have HDN := Lib.hid hdn
  have fd : (((n : Nat) : Int) == 0) = false := by rw [beq_eq_false_iff_ne]; omega
  clear hr hdr hd0 hn hdn hop hmp hv hT
  go_enter Tryd.func4, Tryd.ntmps4
  go_wp2_with fail
  have bx0 : Box (w.alloc (.cells #[.slice (some ⟨ba, oa, none⟩) n ka, .slice (some ⟨bb, ob, none⟩) n kb, .slice (some ⟨bc_, oc, none⟩) n kc] 25)) (w.heap.size) 25 #[.slice (some ⟨ba, oa, none⟩) n ka, .slice (some ⟨bb, ob, none⟩) n kb, .slice (some ⟨bc_, oc, none⟩) n kc] := Box.new w 25 #[.slice (some ⟨ba, oa, none⟩) n ka, .slice (some ⟨bb, ob, none⟩) n kb, .slice (some ⟨bc_, oc, none⟩) n kc]
  have hbq : Below w.heap.size w (w.alloc (.cells #[.slice (some ⟨ba, oa, none⟩) n ka, .slice (some ⟨bb, ob, none⟩) n kb, .slice (some ⟨bc_, oc, none⟩) n kc] 25)) := (Below.refl _ w).alloc (Nat.le_refl _) _
  have hle0 : w.heap.size ≤ w.heap.size := Nat.le_refl _
  generalize (w.alloc (.cells #[.slice (some ⟨ba, oa, none⟩) n ka, .slice (some ⟨bb, ob, none⟩) n kb, .slice (some ⟨bc_, oc, none⟩) n kc] 25)) = w0 at bx0 hbq  ⊢
  have BQg := Lib.hid bx0
  have W := Lib.hid hbq
  have LEg := Lib.hid hle0
  clear hbq hle0 bx0 
  obtain ⟨qg, hqg⟩ : ∃ qg, w.heap.size = qg := ⟨_, rfl⟩
  rw [hqg] at BQg ⊢
  have LEg : Hid (w.heap.size ≤ qg) := Lib.hid (by omega)
  clear hqg
  refine (shown_any w0 (T.out.on W.out)).mono ?_
  rintro e w1 ⟨rfl, hb⟩
  replace BQg := Lib.hid (BQg.out.keep (grown_of_below hb none))
  replace W := Lib.hid (W.out.trans (hb.mono W.out.size))
  clear hb
  have hbb := BQg.out
  have gc0 : w1.cell? ⟨qg, 0, none⟩ = some (.slice (some ⟨ba, oa, none⟩) n ka) := hbb.cell 0 _ rfl
  have gc1 : w1.cell? ⟨qg, 1, none⟩ = some (.slice (some ⟨bb, ob, none⟩) n kb) := hbb.cell 1 _ rfl
  have gc2 : w1.cell? ⟨qg, 2, none⟩ = some (.slice (some ⟨bc_, oc, none⟩) n kc) := hbb.cell 2 _ rfl
  clear hbb
  go_wp2_with fail
  clear gc0 gc1 gc2
  refine (dual_any g _ _ (HV.out.on W.out)).mono ?_
  rintro e w2 ⟨dav, dbv, dcv, dL, rfl, ho, hb⟩
  have hgd := ho.game HFD.out
  obtain ⟨da, dka, db, dkb, dc, dkc, rfl, rfl, rfl⟩ := ho.forms
  rw [HDN.out] at hgd ⊢
  replace BQg := Lib.hid (BQg.out.keep (grown_of_below hb none))
  replace W := Lib.hid (W.out.trans (hb.mono W.out.size))
  have GD := Lib.hid hgd
  clear hb ho hgd
  go_upto_region 3 with (fail)
  have bq : Box (w2.alloc (.cells #[.slice da n dka, .slice db g.dual.prio.length dkb, .slice dc g.dual.moves.length dkc] 25)) w2.heap.size 25 #[.slice da n dka, .slice db g.dual.prio.length dkb, .slice dc g.dual.moves.length dkc] := Box.new _ _ _
  have hgq := World.grownBy_alloc w2 (.cells #[.slice da n dka, .slice db g.dual.prio.length dkb, .slice dc g.dual.moves.length dkc] 25) none
  replace BQg := Lib.hid (BQg.out.keep hgq)
  replace W := Lib.hid (W.out.trans ((below_of_grown hgq).mono W.out.size))
  replace GD := Lib.hid (GD.out.on (below_of_grown hgq))
  generalize (w2.alloc (.cells #[.slice da n dka, .slice db g.dual.prio.length dkb, .slice dc g.dual.moves.length dkc] 25)) = w3 at bq BQg W GD ⊢
  generalize w2.heap.size = qd at bq ⊢
  have BQd := Lib.hid bq
  clear bq hgq
  have hbb := BQd.out
  have dc0 : w3.cell? ⟨qd, 0, none⟩ = some (.slice da n dka) := hbb.cell 0 _ rfl
  have dc1 : w3.cell? ⟨qd, 1, none⟩ = some (.slice db g.dual.prio.length dkb) := hbb.cell 1 _ rfl
  have dc2 : w3.cell? ⟨qd, 2, none⟩ = some (.slice dc g.dual.moves.length dkc) := hbb.cell 2 _ rfl
  clear hbb
  go_upto_region 5 with (fail)
  clear dc0 dc1 dc2
  have hbb := BQg.out
  have gc0 : w3.cell? ⟨qg, 0, none⟩ = some (.slice (some ⟨ba, oa, none⟩) n ka) := hbb.cell 0 _ rfl
  have gc1 : w3.cell? ⟨qg, 1, none⟩ = some (.slice (some ⟨bb, ob, none⟩) n kb) := hbb.cell 1 _ rfl
  have gc2 : w3.cell? ⟨qg, 2, none⟩ = some (.slice (some ⟨bc_, oc, none⟩) n kc) := hbb.cell 2 _ rfl
  clear hbb
  go_wp2_with fail
  clear gc0 gc1 gc2
  refine (decomp_any g HR.out n HN.out _ w3 (HV.out.on W.out) (T.out.on W.out)).mono ?_
  rintro e w4 ⟨Xa, Ya, cha, depa, ra0, ra1, ba0, ba1, rfl, hd, hb⟩
  obtain ⟨xa0, ka0, rfl, -⟩ := own_at hd.zero.1
  obtain ⟨xa1, ka1, rfl, -⟩ := own_at hd.one.1
  have Da := Lib.hid hd
  have Ia0 := Lib.hid hd.zero.ints
  have Ia1 := Lib.hid hd.one.ints
  replace BQg := Lib.hid (BQg.out.keep (grown_of_below hb none))
  replace BQd := Lib.hid (BQd.out.keep (grown_of_below hb none))
  replace GD := Lib.hid (GD.out.on hb)
  replace W := Lib.hid (W.out.trans (hb.mono W.out.size))
  clear hb hd
  go_upto_region 6 with (fail)
  have bq : Box (w4.alloc (.cells #[.slice xa0 (P.lst Xa).length ka0, .slice xa1 (P.lst Ya).length ka1, .slice (some ⟨ba0, 0, none⟩) n n, .slice (some ⟨ba1, 0, none⟩) n n] 32)) w4.heap.size 32 #[.slice xa0 (P.lst Xa).length ka0, .slice xa1 (P.lst Ya).length ka1, .slice (some ⟨ba0, 0, none⟩) n n, .slice (some ⟨ba1, 0, none⟩) n n] := Box.new _ _ _
  have hgq := World.grownBy_alloc w4 (.cells #[.slice xa0 (P.lst Xa).length ka0, .slice xa1 (P.lst Ya).length ka1, .slice (some ⟨ba0, 0, none⟩) n n, .slice (some ⟨ba1, 0, none⟩) n n] 32) none
  replace BQg := Lib.hid (BQg.out.keep hgq)
  replace BQd := Lib.hid (BQd.out.keep hgq)
  replace GD := Lib.hid (GD.out.on (below_of_grown hgq))
  replace W := Lib.hid (W.out.trans ((below_of_grown hgq).mono W.out.size))
  replace Ia0 := Lib.hid (Ia0.out.on (below_of_grown hgq))
  replace Ia1 := Lib.hid (Ia1.out.on (below_of_grown hgq))
  generalize (w4.alloc (.cells #[.slice xa0 (P.lst Xa).length ka0, .slice xa1 (P.lst Ya).length ka1, .slice (some ⟨ba0, 0, none⟩) n n, .slice (some ⟨ba1, 0, none⟩) n n] 32)) = w5 at bq BQg BQd GD W Ia0 Ia1 ⊢
  generalize w4.heap.size = qa at bq ⊢
  have BQa := Lib.hid bq
  clear bq hgq
  have hbb := BQd.out
  have dc0 : w5.cell? ⟨qd, 0, none⟩ = some (.slice da n dka) := hbb.cell 0 _ rfl
  have dc1 : w5.cell? ⟨qd, 1, none⟩ = some (.slice db g.dual.prio.length dkb) := hbb.cell 1 _ rfl
  have dc2 : w5.cell? ⟨qd, 2, none⟩ = some (.slice dc g.dual.moves.length dkc) := hbb.cell 2 _ rfl
  clear hbb
  go_wp2_with fail
  clear dc0 dc1 dc2
  refine (decomp_any g.dual HDR.out n HDN.out _ w5 GD.out (T.out.on W.out)).mono ?_
  rintro e w6 ⟨Xb, Yb, chb, depb, rb0, rb1, bb0, bb1, rfl, hd, hb⟩
  obtain ⟨xb0, kb0, rfl, -⟩ := own_at hd.zero.1
  obtain ⟨xb1, kb1, rfl, -⟩ := own_at hd.one.1
  have Db := Lib.hid hd
  have Ib0 := Lib.hid hd.zero.ints
  have Ib1 := Lib.hid hd.one.ints
  replace BQg := Lib.hid (BQg.out.keep (grown_of_below hb none))
  replace BQd := Lib.hid (BQd.out.keep (grown_of_below hb none))
  replace BQa := Lib.hid (BQa.out.keep (grown_of_below hb none))
  replace GD := Lib.hid (GD.out.on hb)
  replace Ia0 := Lib.hid (Ia0.out.on hb)
  replace Ia1 := Lib.hid (Ia1.out.on hb)
  replace W := Lib.hid (W.out.trans (hb.mono W.out.size))
  clear hb hd
  go_upto_region 7 with (fail)
  have bq : Box (w6.alloc (.cells #[.slice xb0 (P.lst Xb).length kb0, .slice xb1 (P.lst Yb).length kb1, .slice (some ⟨bb0, 0, none⟩) n n, .slice (some ⟨bb1, 0, none⟩) n n] 32)) w6.heap.size 32 #[.slice xb0 (P.lst Xb).length kb0, .slice xb1 (P.lst Yb).length kb1, .slice (some ⟨bb0, 0, none⟩) n n, .slice (some ⟨bb1, 0, none⟩) n n] := Box.new _ _ _
  have hgq := World.grownBy_alloc w6 (.cells #[.slice xb0 (P.lst Xb).length kb0, .slice xb1 (P.lst Yb).length kb1, .slice (some ⟨bb0, 0, none⟩) n n, .slice (some ⟨bb1, 0, none⟩) n n] 32) none
  replace BQg := Lib.hid (BQg.out.keep hgq)
  replace BQd := Lib.hid (BQd.out.keep hgq)
  replace BQa := Lib.hid (BQa.out.keep hgq)
  replace GD := Lib.hid (GD.out.on (below_of_grown hgq))
  replace Ia0 := Lib.hid (Ia0.out.on (below_of_grown hgq))
  replace Ia1 := Lib.hid (Ia1.out.on (below_of_grown hgq))
  replace W := Lib.hid (W.out.trans ((below_of_grown hgq).mono W.out.size))
  replace Ib0 := Lib.hid (Ib0.out.on (below_of_grown hgq))
  replace Ib1 := Lib.hid (Ib1.out.on (below_of_grown hgq))
  generalize (w6.alloc (.cells #[.slice xb0 (P.lst Xb).length kb0, .slice xb1 (P.lst Yb).length kb1, .slice (some ⟨bb0, 0, none⟩) n n, .slice (some ⟨bb1, 0, none⟩) n n] 32)) = w7 at bq BQg BQd BQa GD Ia0 Ia1 W Ib0 Ib1 ⊢
  generalize w6.heap.size = qb at bq ⊢
  have BQb := Lib.hid bq
  clear bq hgq
  have HEQ := Lib.hid (show lstI Xa = lstI Yb ∧ lstI Ya = lstI Xb by
    have h1 := Da.out.ap.solved fun i => (P.full_bits HR.out HN.out).1 i
    have h2 := Db.out.ap.solved fun i => (P.full_bits HDR.out HDN.out).1 i
    have h3 := P.dual_same HR.out (d := g.dual) rfl HD0.out (by rw [HN.out]; exact h1) (by rw [HDN.out]; exact h2)
    rw [h3.2.1, h3.2.2]
    exact ⟨rfl, rfl⟩)
  have hbb := BQa.out
  have pc0 : w7.cell? ⟨qa, 0, none⟩ = some (.slice xa0 (P.lst Xa).length ka0) := hbb.cell 0 _ rfl
  have pc1 : w7.cell? ⟨qa, 1, none⟩ = some (.slice xa1 (P.lst Ya).length ka1) := hbb.cell 1 _ rfl
  have pc2 : w7.cell? ⟨qa, 2, none⟩ = some (.slice (some ⟨ba0, 0, none⟩) n n) := hbb.cell 2 _ rfl
  have pc3 : w7.cell? ⟨qa, 3, none⟩ = some (.slice (some ⟨ba1, 0, none⟩) n n) := hbb.cell 3 _ rfl
  clear hbb
  have hbb := BQb.out
  have rc0 : w7.cell? ⟨qb, 0, none⟩ = some (.slice xb0 (P.lst Xb).length kb0) := hbb.cell 0 _ rfl
  have rc1 : w7.cell? ⟨qb, 1, none⟩ = some (.slice xb1 (P.lst Yb).length kb1) := hbb.cell 1 _ rfl
  have rc2 : w7.cell? ⟨qb, 2, none⟩ = some (.slice (some ⟨bb0, 0, none⟩) n n) := hbb.cell 2 _ rfl
  have rc3 : w7.cell? ⟨qb, 3, none⟩ = some (.slice (some ⟨bb1, 0, none⟩) n n) := hbb.cell 3 _ rfl
  clear hbb
  go_wp2_with fail
  refine (sameints_any _ _ _ _ w7 Ia0.out Ib1.out).mono ?_
  rintro e w8 ⟨rfl, hb⟩
  rw [decide_eq_true HEQ.out.1]
  replace BQa := Lib.hid (BQa.out.keep (grown_of_below hb none))
  replace BQb := Lib.hid (BQb.out.keep (grown_of_below hb none))
  replace Ia1 := Lib.hid (Ia1.out.on hb)
  replace Ib0 := Lib.hid (Ib0.out.on hb)
  replace W := Lib.hid (W.out.trans (hb.mono W.out.size))
  clear hb pc0 pc1 pc2 pc3 rc0 rc1 rc2 rc3
  have hbb := BQa.out
  have pc0 : w8.cell? ⟨qa, 0, none⟩ = some (.slice xa0 (P.lst Xa).length ka0) := hbb.cell 0 _ rfl
  have pc1 : w8.cell? ⟨qa, 1, none⟩ = some (.slice xa1 (P.lst Ya).length ka1) := hbb.cell 1 _ rfl
  have pc2 : w8.cell? ⟨qa, 2, none⟩ = some (.slice (some ⟨ba0, 0, none⟩) n n) := hbb.cell 2 _ rfl
  have pc3 : w8.cell? ⟨qa, 3, none⟩ = some (.slice (some ⟨ba1, 0, none⟩) n n) := hbb.cell 3 _ rfl
  clear hbb
  have hbb := BQb.out
  have rc0 : w8.cell? ⟨qb, 0, none⟩ = some (.slice xb0 (P.lst Xb).length kb0) := hbb.cell 0 _ rfl
  have rc1 : w8.cell? ⟨qb, 1, none⟩ = some (.slice xb1 (P.lst Yb).length kb1) := hbb.cell 1 _ rfl
  have rc2 : w8.cell? ⟨qb, 2, none⟩ = some (.slice (some ⟨bb0, 0, none⟩) n n) := hbb.cell 2 _ rfl
  have rc3 : w8.cell? ⟨qb, 3, none⟩ = some (.slice (some ⟨bb1, 0, none⟩) n n) := hbb.cell 3 _ rfl
  clear hbb
  go_wp2_with fail
  refine (sameints_any _ _ _ _ w8 Ia1.out Ib0.out).mono ?_
  rintro e w9 ⟨rfl, hb⟩
  rw [decide_eq_true HEQ.out.2]
  replace W := Lib.hid (W.out.trans (hb.mono W.out.size))
  clear hb
  go_wp2_with fail
  exact bodyPost_ret (v := .bool true) (by simp [results, Tryd.results4, go_sem]) rfl ⟨rfl, W.out⟩
end W
end Go.Proofs.YtpjmboonaciplaaDoor
