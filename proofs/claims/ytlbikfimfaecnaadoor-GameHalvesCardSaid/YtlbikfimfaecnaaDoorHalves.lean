/- GameHalves: the walk. -/
import Derived.Test.YtlbikfimfaecnaaDoorShown
import Derived.Test.YtlbikfimfaecnaaDoorHalvesP
import Derived.Test.YtlbikfimfaecnaaDoorPartF
import Derived.Test.YtlbikfimfaecnaaDoorDual
import Derived.Test.YtlbikfimfaecnaaDoorSub
import Derived.Test.YtlbikfimfaecnaaDoorReads
import Derived.Deep.Cut
import Derived.Deep.CutRange
import Derived.Laws.StructEq
namespace Go.Proofs.YtlbikfimfaecnaaDoor
open Go.RowKit Go.Sort
namespace W
set_option maxRecDepth 100000 in
set_option maxHeartbeats 8000000 in
theorem halves_none (g : P.G) (s : BitVec 256) (v : Value) (w : World) (hv : GameV w v g) (hT : Tab w) (hd : g.dual = P.G.none) : Calls Tryd.prog 10 #[v, .agg #[.int .u64 (P.wrd s 0), .int .u64 (P.wrd s 1), .int .u64 (P.wrd s 2), .int .u64 (P.wrd s 3)]] w fun e w' => e = .returned (.bool true) ∧ Below w.heap.size w w' := by
  have HDN := Lib.hid (show g.dual.has s = false by rw [hd]; exact P.G.none_has s)
  have HD := Lib.hid (show g.dual.owner.length = 0 by rw [hd]; rfl)
  clear hd
  have hf := Lib.hid hv.fits
  have hfd := Lib.hid (fits_dual' hv.fits)
  have HV := Lib.hid hv
  obtain ⟨a, b, c, rfl, -⟩ := hv
  have T := Lib.hid hT
  clear hT
  go_enter Tryd.func10, Tryd.ntmps10
  go_wp2_with fail
  have b1q : Box ((w.alloc (.cells #[a, b, c] 25)).alloc (.cells #[.int .u64 (P.wrd s 0), .int .u64 (P.wrd s 1), .int .u64 (P.wrd s 2), .int .u64 (P.wrd s 3)] 35)) w.heap.size 25 #[a, b, c] := (Box.new w _ _).alloc _
  have b2q : Box ((w.alloc (.cells #[a, b, c] 25)).alloc (.cells #[.int .u64 (P.wrd s 0), .int .u64 (P.wrd s 1), .int .u64 (P.wrd s 2), .int .u64 (P.wrd s 3)] 35)) (w.heap.size + 1) 35 #[.int .u64 (P.wrd s 0), .int .u64 (P.wrd s 1), .int .u64 (P.wrd s 2), .int .u64 (P.wrd s 3)] := by
    have := Box.new (w.alloc (.cells #[a, b, c] 25)) 35 #[.int .u64 (P.wrd s 0), .int .u64 (P.wrd s 1), .int .u64 (P.wrd s 2), .int .u64 (P.wrd s 3)]
    simpa using this
  have hbq : Below w.heap.size w ((w.alloc (.cells #[a, b, c] 25)).alloc (.cells #[.int .u64 (P.wrd s 0), .int .u64 (P.wrd s 1), .int .u64 (P.wrd s 2), .int .u64 (P.wrd s 3)] 35)) := ((Below.refl _ w).alloc (Nat.le_refl _) _).alloc (by simp) _
  have T := Lib.hid (T.out.on hbq)
  generalize ((w.alloc (.cells #[a, b, c] 25)).alloc (.cells #[.int .u64 (P.wrd s 0), .int .u64 (P.wrd s 1), .int .u64 (P.wrd s 2), .int .u64 (P.wrd s 3)] 35)) = w1 at b1q b2q hbq T ⊢
  have BQg := Lib.hid b1q
  have BQs := Lib.hid b2q
  have W := Lib.hid hbq
  clear b1q b2q hbq
  generalize w.heap.size + 1 = qs at BQs ⊢
  generalize w.heap.size = qg at BQg ⊢
  refine (shown_any _ T.out).mono ?_
  rintro e w2 ⟨rfl, hb⟩
  have BQg := Lib.hid (BQg.out.keep (grown_of_below hb none))
  have BQs := Lib.hid (BQs.out.keep (grown_of_below hb none))
  have W := Lib.hid (W.out.trans (hb.mono W.out.size))
  have T := Lib.hid (T.out.on hb)
  clear hb
  have bb := BQg.out
  have pc0 : w2.cell? ⟨qg, 0, none⟩ = some a := bb.cell 0 _ rfl
  have pc1 : w2.cell? ⟨qg, 1, none⟩ = some b := bb.cell 1 _ rfl
  have pc2 : w2.cell? ⟨qg, 2, none⟩ = some c := bb.cell 2 _ rfl
  clear bb
  go_wp2_with fail
  refine (dual_any g _ _ (HV.out.on W.out)).mono ?_
  rintro e w3 ⟨dav, dbv, dcv, dL, rfl, ho, hb⟩
  have hgd := ho.game hfd.out
  obtain ⟨da, dka, db, dkb, dc, dkc, rfl, rfl, rfl⟩ := ho.forms
  have GD := Lib.hid hgd
  have BQg := Lib.hid (BQg.out.keep (grown_of_below hb none))
  have BQs := Lib.hid (BQs.out.keep (grown_of_below hb none))
  have W := Lib.hid (W.out.trans (hb.mono W.out.size))
  have T := Lib.hid (T.out.on hb)
  have W3 := Lib.hid (Below.refl w3.heap.size w3)
  clear hb ho hgd pc0 pc1 pc2
  go_upto_region 3 with (fail)
  have bq : Box (w3.alloc (.cells #[.slice da g.dual.owner.length dka, .slice db g.dual.prio.length dkb, .slice dc g.dual.moves.length dkc] 25)) w3.heap.size 25 #[.slice da g.dual.owner.length dka, .slice db g.dual.prio.length dkb, .slice dc g.dual.moves.length dkc] := Box.new _ _ _
  have hgq := World.grownBy_alloc w3 (.cells #[.slice da g.dual.owner.length dka, .slice db g.dual.prio.length dkb, .slice dc g.dual.moves.length dkc] 25) none
  have BQg := Lib.hid (BQg.out.keep hgq)
  have BQs := Lib.hid (BQs.out.keep hgq)
  have W := Lib.hid (W.out.trans ((below_of_grown hgq).mono W.out.size))
  have T := Lib.hid (T.out.on (below_of_grown hgq))
  have W3 := Lib.hid (W3.out.trans ((below_of_grown hgq).mono W3.out.size))
  generalize (w3.alloc (.cells #[.slice da g.dual.owner.length dka, .slice db g.dual.prio.length dkb, .slice dc g.dual.moves.length dkc] 25)) = w4 at bq BQg BQs W T W3 ⊢
  generalize w3.heap.size = qd at bq ⊢
  have BQd := Lib.hid bq
  clear bq hgq
  by_cases hs : g.has s = true
  · have HS := Lib.hid hs
    clear hs
    have bb := BQg.out
    have pc0 : w4.cell? ⟨qg, 0, none⟩ = some a := bb.cell 0 _ rfl
    have pc1 : w4.cell? ⟨qg, 1, none⟩ = some b := bb.cell 1 _ rfl
    have pc2 : w4.cell? ⟨qg, 2, none⟩ = some c := bb.cell 2 _ rfl
    clear bb
    have bb := BQs.out
    have sc0 : w4.cell? ⟨qs, 0, none⟩ = some (.int .u64 (P.wrd s 0)) := bb.cell 0 _ rfl
    have sc1 : w4.cell? ⟨qs, 1, none⟩ = some (.int .u64 (P.wrd s 1)) := bb.cell 1 _ rfl
    have sc2 : w4.cell? ⟨qs, 2, none⟩ = some (.int .u64 (P.wrd s 2)) := bb.cell 2 _ rfl
    have sc3 : w4.cell? ⟨qs, 3, none⟩ = some (.int .u64 (P.wrd s 3)) := bb.cell 3 _ rfl
    clear bb
    go_wp2_with fail
    refine (sub_any g s _ _ (HV.out.on W.out) T.out).mono ?_
    rintro e w5 hsub
    unfold Subbed at hsub
    rw [if_pos HS.out] at hsub
    obtain ⟨xav, xbv, xcv, xL, xo, rfl, ho, hol, hb⟩ := hsub
    have hgp := ho.game (fits_part hf.out s)
    obtain ⟨xa, xka, xb, xkb, xc, xkc, rfl, rfl, rfl⟩ := ho.forms
    have hil := hol.ints len_old
    have Gx := Lib.hid hgp
    have Ix := Lib.hid hil
    have BQg := Lib.hid (BQg.out.keep (grown_of_below hb none))
    have BQs := Lib.hid (BQs.out.keep (grown_of_below hb none))
    have BQd := Lib.hid (BQd.out.keep (grown_of_below hb none))
    have W := Lib.hid (W.out.trans (hb.mono W.out.size))
    have T := Lib.hid (T.out.on hb)
    have W3 := Lib.hid (W3.out.trans (hb.mono W3.out.size))
    have Wx := Lib.hid (Below.refl w5.heap.size w5)
    clear hb ho hol hgp hil pc0 pc1 pc2 sc0 sc1 sc2 sc3
    go_upto_region 4 with (fail)
    have bq : Box (w5.alloc (.cells #[.slice xa (g.part s).owner.length xka, .slice xb (g.part s).prio.length xkb, .slice xc (g.part s).moves.length xkc] 25)) w5.heap.size 25 #[.slice xa (g.part s).owner.length xka, .slice xb (g.part s).prio.length xkb, .slice xc (g.part s).moves.length xkc] := Box.new _ _ _
    have hgq := World.grownBy_alloc w5 (.cells #[.slice xa (g.part s).owner.length xka, .slice xb (g.part s).prio.length xkb, .slice xc (g.part s).moves.length xkc] 25) none
    have BQg := Lib.hid (BQg.out.keep hgq)
    have BQs := Lib.hid (BQs.out.keep hgq)
    have BQd := Lib.hid (BQd.out.keep hgq)
    have W := Lib.hid (W.out.trans ((below_of_grown hgq).mono W.out.size))
    have T := Lib.hid (T.out.on (below_of_grown hgq))
    have W3 := Lib.hid (W3.out.trans ((below_of_grown hgq).mono W3.out.size))
    have Wx := Lib.hid (Wx.out.trans ((below_of_grown hgq).mono Wx.out.size))
    generalize (w5.alloc (.cells #[.slice xa (g.part s).owner.length xka, .slice xb (g.part s).prio.length xkb, .slice xc (g.part s).moves.length xkc] 25)) = w5b at bq BQg BQs BQd W T W3 Wx ⊢
    generalize w5.heap.size = qa at bq ⊢
    have BQx := Lib.hid bq
    clear bq hgq
    have bb := BQd.out
    have pc0 : w5b.cell? ⟨qd, 0, none⟩ = some (.slice da g.dual.owner.length dka) := bb.cell 0 _ rfl
    have pc1 : w5b.cell? ⟨qd, 1, none⟩ = some (.slice db g.dual.prio.length dkb) := bb.cell 1 _ rfl
    have pc2 : w5b.cell? ⟨qd, 2, none⟩ = some (.slice dc g.dual.moves.length dkc) := bb.cell 2 _ rfl
    clear bb
    have bb := BQs.out
    have sc0 : w5b.cell? ⟨qs, 0, none⟩ = some (.int .u64 (P.wrd s 0)) := bb.cell 0 _ rfl
    have sc1 : w5b.cell? ⟨qs, 1, none⟩ = some (.int .u64 (P.wrd s 1)) := bb.cell 1 _ rfl
    have sc2 : w5b.cell? ⟨qs, 2, none⟩ = some (.int .u64 (P.wrd s 2)) := bb.cell 2 _ rfl
    have sc3 : w5b.cell? ⟨qs, 3, none⟩ = some (.int .u64 (P.wrd s 3)) := bb.cell 3 _ rfl
    clear bb
    go_wp2_with fail
    refine (sub_any g.dual s _ _ (GD.out.on W3.out) T.out).mono ?_
    rintro e w6 hsub
    unfold Subbed at hsub
    rw [if_neg (by rw [HDN.out]; decide)] at hsub
    obtain ⟨rfl, hb⟩ := hsub
    have BQg := Lib.hid (BQg.out.keep (grown_of_below hb none))
    have BQs := Lib.hid (BQs.out.keep (grown_of_below hb none))
    have BQd := Lib.hid (BQd.out.keep (grown_of_below hb none))
    have W := Lib.hid (W.out.trans (hb.mono W.out.size))
    have T := Lib.hid (T.out.on hb)
    have W3 := Lib.hid (W3.out.trans (hb.mono W3.out.size))
    clear hb pc0 pc1 pc2 sc0 sc1 sc2 sc3
    go_upto_region 5 with (fail)
    have bq : Box (w6.alloc (.cells #[.slice none 0 0, .slice none 0 0, .slice none 0 0] 25)) w6.heap.size 25 #[.slice none 0 0, .slice none 0 0, .slice none 0 0] := Box.new _ _ _
    have hgq := World.grownBy_alloc w6 (.cells #[.slice none 0 0, .slice none 0 0, .slice none 0 0] 25) none
    have BQg := Lib.hid (BQg.out.keep hgq)
    have BQs := Lib.hid (BQs.out.keep hgq)
    have BQd := Lib.hid (BQd.out.keep hgq)
    have W := Lib.hid (W.out.trans ((below_of_grown hgq).mono W.out.size))
    have T := Lib.hid (T.out.on (below_of_grown hgq))
    have W3 := Lib.hid (W3.out.trans ((below_of_grown hgq).mono W3.out.size))
    generalize (w6.alloc (.cells #[.slice none 0 0, .slice none 0 0, .slice none 0 0] 25)) = w6b at bq BQg BQs BQd W T W3 ⊢
    generalize w6.heap.size = qb at bq ⊢
    have BQy := Lib.hid bq
    clear bq hgq
    rw [HD.out] at BQd
    have bb := BQd.out
    have pc0 : w6b.cell? ⟨qd, 0, none⟩ = some (.slice da 0 dka) := bb.cell 0 _ rfl
    have pc1 : w6b.cell? ⟨qd, 1, none⟩ = some (.slice db g.dual.prio.length dkb) := bb.cell 1 _ rfl
    have pc2 : w6b.cell? ⟨qd, 2, none⟩ = some (.slice dc g.dual.moves.length dkc) := bb.cell 2 _ rfl
    clear bb
    go_wp2_with fail
    exact bodyPost_ret (v := .bool true) (by simp [results, Tryd.results10, go_sem]) rfl ⟨rfl, W.out⟩
  · have HS := Lib.hid hs
    clear hs
    have bb := BQg.out
    have pc0 : w4.cell? ⟨qg, 0, none⟩ = some a := bb.cell 0 _ rfl
    have pc1 : w4.cell? ⟨qg, 1, none⟩ = some b := bb.cell 1 _ rfl
    have pc2 : w4.cell? ⟨qg, 2, none⟩ = some c := bb.cell 2 _ rfl
    clear bb
    have bb := BQs.out
    have sc0 : w4.cell? ⟨qs, 0, none⟩ = some (.int .u64 (P.wrd s 0)) := bb.cell 0 _ rfl
    have sc1 : w4.cell? ⟨qs, 1, none⟩ = some (.int .u64 (P.wrd s 1)) := bb.cell 1 _ rfl
    have sc2 : w4.cell? ⟨qs, 2, none⟩ = some (.int .u64 (P.wrd s 2)) := bb.cell 2 _ rfl
    have sc3 : w4.cell? ⟨qs, 3, none⟩ = some (.int .u64 (P.wrd s 3)) := bb.cell 3 _ rfl
    clear bb
    go_wp2_with fail
    refine (sub_any g s _ _ (HV.out.on W.out) T.out).mono ?_
    rintro e w5 hsub
    unfold Subbed at hsub
    rw [if_neg HS.out] at hsub
    obtain ⟨rfl, hb⟩ := hsub
    have BQg := Lib.hid (BQg.out.keep (grown_of_below hb none))
    have BQs := Lib.hid (BQs.out.keep (grown_of_below hb none))
    have BQd := Lib.hid (BQd.out.keep (grown_of_below hb none))
    have W := Lib.hid (W.out.trans (hb.mono W.out.size))
    have T := Lib.hid (T.out.on hb)
    have W3 := Lib.hid (W3.out.trans (hb.mono W3.out.size))
    clear hb pc0 pc1 pc2 sc0 sc1 sc2 sc3
    go_upto_region 4 with (fail)
    have bq : Box (w5.alloc (.cells #[.slice none 0 0, .slice none 0 0, .slice none 0 0] 25)) w5.heap.size 25 #[.slice none 0 0, .slice none 0 0, .slice none 0 0] := Box.new _ _ _
    have hgq := World.grownBy_alloc w5 (.cells #[.slice none 0 0, .slice none 0 0, .slice none 0 0] 25) none
    have BQg := Lib.hid (BQg.out.keep hgq)
    have BQs := Lib.hid (BQs.out.keep hgq)
    have BQd := Lib.hid (BQd.out.keep hgq)
    have W := Lib.hid (W.out.trans ((below_of_grown hgq).mono W.out.size))
    have T := Lib.hid (T.out.on (below_of_grown hgq))
    have W3 := Lib.hid (W3.out.trans ((below_of_grown hgq).mono W3.out.size))
    generalize (w5.alloc (.cells #[.slice none 0 0, .slice none 0 0, .slice none 0 0] 25)) = w5b at bq BQg BQs BQd W T W3 ⊢
    generalize w5.heap.size = qa at bq ⊢
    have BQx := Lib.hid bq
    clear bq hgq
    have bb := BQd.out
    have pc0 : w5b.cell? ⟨qd, 0, none⟩ = some (.slice da g.dual.owner.length dka) := bb.cell 0 _ rfl
    have pc1 : w5b.cell? ⟨qd, 1, none⟩ = some (.slice db g.dual.prio.length dkb) := bb.cell 1 _ rfl
    have pc2 : w5b.cell? ⟨qd, 2, none⟩ = some (.slice dc g.dual.moves.length dkc) := bb.cell 2 _ rfl
    clear bb
    have bb := BQs.out
    have sc0 : w5b.cell? ⟨qs, 0, none⟩ = some (.int .u64 (P.wrd s 0)) := bb.cell 0 _ rfl
    have sc1 : w5b.cell? ⟨qs, 1, none⟩ = some (.int .u64 (P.wrd s 1)) := bb.cell 1 _ rfl
    have sc2 : w5b.cell? ⟨qs, 2, none⟩ = some (.int .u64 (P.wrd s 2)) := bb.cell 2 _ rfl
    have sc3 : w5b.cell? ⟨qs, 3, none⟩ = some (.int .u64 (P.wrd s 3)) := bb.cell 3 _ rfl
    clear bb
    go_wp2_with fail
    refine (sub_any g.dual s _ _ (GD.out.on W3.out) T.out).mono ?_
    rintro e w6 hsub
    unfold Subbed at hsub
    rw [if_neg (by rw [HDN.out]; decide)] at hsub
    obtain ⟨rfl, hb⟩ := hsub
    have BQg := Lib.hid (BQg.out.keep (grown_of_below hb none))
    have BQs := Lib.hid (BQs.out.keep (grown_of_below hb none))
    have BQd := Lib.hid (BQd.out.keep (grown_of_below hb none))
    have W := Lib.hid (W.out.trans (hb.mono W.out.size))
    have T := Lib.hid (T.out.on hb)
    have W3 := Lib.hid (W3.out.trans (hb.mono W3.out.size))
    clear hb pc0 pc1 pc2 sc0 sc1 sc2 sc3
    go_upto_region 5 with (fail)
    have bq : Box (w6.alloc (.cells #[.slice none 0 0, .slice none 0 0, .slice none 0 0] 25)) w6.heap.size 25 #[.slice none 0 0, .slice none 0 0, .slice none 0 0] := Box.new _ _ _
    have hgq := World.grownBy_alloc w6 (.cells #[.slice none 0 0, .slice none 0 0, .slice none 0 0] 25) none
    have BQg := Lib.hid (BQg.out.keep hgq)
    have BQs := Lib.hid (BQs.out.keep hgq)
    have BQd := Lib.hid (BQd.out.keep hgq)
    have W := Lib.hid (W.out.trans ((below_of_grown hgq).mono W.out.size))
    have T := Lib.hid (T.out.on (below_of_grown hgq))
    have W3 := Lib.hid (W3.out.trans ((below_of_grown hgq).mono W3.out.size))
    generalize (w6.alloc (.cells #[.slice none 0 0, .slice none 0 0, .slice none 0 0] 25)) = w6b at bq BQg BQs BQd W T W3 ⊢
    generalize w6.heap.size = qb at bq ⊢
    have BQy := Lib.hid bq
    clear bq hgq
    rw [HD.out] at BQd
    have bb := BQd.out
    have pc0 : w6b.cell? ⟨qd, 0, none⟩ = some (.slice da 0 dka) := bb.cell 0 _ rfl
    have pc1 : w6b.cell? ⟨qd, 1, none⟩ = some (.slice db g.dual.prio.length dkb) := bb.cell 1 _ rfl
    have pc2 : w6b.cell? ⟨qd, 2, none⟩ = some (.slice dc g.dual.moves.length dkc) := bb.cell 2 _ rfl
    clear bb
    go_wp2_with fail
    exact bodyPost_ret (v := .bool true) (by simp [results, Tryd.results10, go_sem]) rfl ⟨rfl, W.out⟩
set_option maxRecDepth 100000 in
set_option maxHeartbeats 8000000 in
theorem halves_no (g : P.G) (s : BitVec 256) (v : Value) (w : World) (hv : GameV w v g) (hT : Tab w) (hd : g.dual.owner.length ≠ 0) (hs : g.has s = false) (hds : g.dual.has s = false) : Calls Tryd.prog 10 #[v, .agg #[.int .u64 (P.wrd s 0), .int .u64 (P.wrd s 1), .int .u64 (P.wrd s 2), .int .u64 (P.wrd s 3)]] w fun e w' => e = .returned (.bool true) ∧ Below w.heap.size w w' := by
  have HDN := Lib.hid hds
  have HD := Lib.hid hd
  have HS := Lib.hid hs
  clear hd hs hds
  have hf := Lib.hid hv.fits
  have hfd := Lib.hid (fits_dual' hv.fits)
  have HV := Lib.hid hv
  obtain ⟨a, b, c, rfl, -⟩ := hv
  have T := Lib.hid hT
  clear hT
  go_enter Tryd.func10, Tryd.ntmps10
  go_wp2_with fail
  have b1q : Box ((w.alloc (.cells #[a, b, c] 25)).alloc (.cells #[.int .u64 (P.wrd s 0), .int .u64 (P.wrd s 1), .int .u64 (P.wrd s 2), .int .u64 (P.wrd s 3)] 35)) w.heap.size 25 #[a, b, c] := (Box.new w _ _).alloc _
  have b2q : Box ((w.alloc (.cells #[a, b, c] 25)).alloc (.cells #[.int .u64 (P.wrd s 0), .int .u64 (P.wrd s 1), .int .u64 (P.wrd s 2), .int .u64 (P.wrd s 3)] 35)) (w.heap.size + 1) 35 #[.int .u64 (P.wrd s 0), .int .u64 (P.wrd s 1), .int .u64 (P.wrd s 2), .int .u64 (P.wrd s 3)] := by
    have := Box.new (w.alloc (.cells #[a, b, c] 25)) 35 #[.int .u64 (P.wrd s 0), .int .u64 (P.wrd s 1), .int .u64 (P.wrd s 2), .int .u64 (P.wrd s 3)]
    simpa using this
  have hbq : Below w.heap.size w ((w.alloc (.cells #[a, b, c] 25)).alloc (.cells #[.int .u64 (P.wrd s 0), .int .u64 (P.wrd s 1), .int .u64 (P.wrd s 2), .int .u64 (P.wrd s 3)] 35)) := ((Below.refl _ w).alloc (Nat.le_refl _) _).alloc (by simp) _
  have T := Lib.hid (T.out.on hbq)
  generalize ((w.alloc (.cells #[a, b, c] 25)).alloc (.cells #[.int .u64 (P.wrd s 0), .int .u64 (P.wrd s 1), .int .u64 (P.wrd s 2), .int .u64 (P.wrd s 3)] 35)) = w1 at b1q b2q hbq T ⊢
  have BQg := Lib.hid b1q
  have BQs := Lib.hid b2q
  have W := Lib.hid hbq
  clear b1q b2q hbq
  generalize w.heap.size + 1 = qs at BQs ⊢
  generalize w.heap.size = qg at BQg ⊢
  refine (shown_any _ T.out).mono ?_
  rintro e w2 ⟨rfl, hb⟩
  have BQg := Lib.hid (BQg.out.keep (grown_of_below hb none))
  have BQs := Lib.hid (BQs.out.keep (grown_of_below hb none))
  have W := Lib.hid (W.out.trans (hb.mono W.out.size))
  have T := Lib.hid (T.out.on hb)
  clear hb
  have bb := BQg.out
  have pc0 : w2.cell? ⟨qg, 0, none⟩ = some a := bb.cell 0 _ rfl
  have pc1 : w2.cell? ⟨qg, 1, none⟩ = some b := bb.cell 1 _ rfl
  have pc2 : w2.cell? ⟨qg, 2, none⟩ = some c := bb.cell 2 _ rfl
  clear bb
  go_wp2_with fail
  refine (dual_any g _ _ (HV.out.on W.out)).mono ?_
  rintro e w3 ⟨dav, dbv, dcv, dL, rfl, ho, hb⟩
  have hgd := ho.game hfd.out
  obtain ⟨da, dka, db, dkb, dc, dkc, rfl, rfl, rfl⟩ := ho.forms
  have GD := Lib.hid hgd
  have BQg := Lib.hid (BQg.out.keep (grown_of_below hb none))
  have BQs := Lib.hid (BQs.out.keep (grown_of_below hb none))
  have W := Lib.hid (W.out.trans (hb.mono W.out.size))
  have T := Lib.hid (T.out.on hb)
  have W3 := Lib.hid (Below.refl w3.heap.size w3)
  clear hb ho hgd pc0 pc1 pc2
  go_upto_region 3 with (fail)
  have bq : Box (w3.alloc (.cells #[.slice da g.dual.owner.length dka, .slice db g.dual.prio.length dkb, .slice dc g.dual.moves.length dkc] 25)) w3.heap.size 25 #[.slice da g.dual.owner.length dka, .slice db g.dual.prio.length dkb, .slice dc g.dual.moves.length dkc] := Box.new _ _ _
  have hgq := World.grownBy_alloc w3 (.cells #[.slice da g.dual.owner.length dka, .slice db g.dual.prio.length dkb, .slice dc g.dual.moves.length dkc] 25) none
  have BQg := Lib.hid (BQg.out.keep hgq)
  have BQs := Lib.hid (BQs.out.keep hgq)
  have W := Lib.hid (W.out.trans ((below_of_grown hgq).mono W.out.size))
  have T := Lib.hid (T.out.on (below_of_grown hgq))
  have W3 := Lib.hid (W3.out.trans ((below_of_grown hgq).mono W3.out.size))
  generalize (w3.alloc (.cells #[.slice da g.dual.owner.length dka, .slice db g.dual.prio.length dkb, .slice dc g.dual.moves.length dkc] 25)) = w4 at bq BQg BQs W T W3 ⊢
  generalize w3.heap.size = qd at bq ⊢
  have BQd := Lib.hid bq
  clear bq hgq
  have bb := BQg.out
  have pc0 : w4.cell? ⟨qg, 0, none⟩ = some a := bb.cell 0 _ rfl
  have pc1 : w4.cell? ⟨qg, 1, none⟩ = some b := bb.cell 1 _ rfl
  have pc2 : w4.cell? ⟨qg, 2, none⟩ = some c := bb.cell 2 _ rfl
  clear bb
  have bb := BQs.out
  have sc0 : w4.cell? ⟨qs, 0, none⟩ = some (.int .u64 (P.wrd s 0)) := bb.cell 0 _ rfl
  have sc1 : w4.cell? ⟨qs, 1, none⟩ = some (.int .u64 (P.wrd s 1)) := bb.cell 1 _ rfl
  have sc2 : w4.cell? ⟨qs, 2, none⟩ = some (.int .u64 (P.wrd s 2)) := bb.cell 2 _ rfl
  have sc3 : w4.cell? ⟨qs, 3, none⟩ = some (.int .u64 (P.wrd s 3)) := bb.cell 3 _ rfl
  clear bb
  go_wp2_with fail
  refine (sub_any g s _ _ (HV.out.on W.out) T.out).mono ?_
  rintro e w5 hsub
  unfold Subbed at hsub
  rw [if_neg (by rw [HS.out]; decide)] at hsub
  obtain ⟨rfl, hb⟩ := hsub
  have BQg := Lib.hid (BQg.out.keep (grown_of_below hb none))
  have BQs := Lib.hid (BQs.out.keep (grown_of_below hb none))
  have BQd := Lib.hid (BQd.out.keep (grown_of_below hb none))
  have W := Lib.hid (W.out.trans (hb.mono W.out.size))
  have T := Lib.hid (T.out.on hb)
  have W3 := Lib.hid (W3.out.trans (hb.mono W3.out.size))
  clear hb pc0 pc1 pc2 sc0 sc1 sc2 sc3
  go_upto_region 4 with (fail)
  have bq : Box (w5.alloc (.cells #[.slice none 0 0, .slice none 0 0, .slice none 0 0] 25)) w5.heap.size 25 #[.slice none 0 0, .slice none 0 0, .slice none 0 0] := Box.new _ _ _
  have hgq := World.grownBy_alloc w5 (.cells #[.slice none 0 0, .slice none 0 0, .slice none 0 0] 25) none
  have BQg := Lib.hid (BQg.out.keep hgq)
  have BQs := Lib.hid (BQs.out.keep hgq)
  have BQd := Lib.hid (BQd.out.keep hgq)
  have W := Lib.hid (W.out.trans ((below_of_grown hgq).mono W.out.size))
  have T := Lib.hid (T.out.on (below_of_grown hgq))
  have W3 := Lib.hid (W3.out.trans ((below_of_grown hgq).mono W3.out.size))
  generalize (w5.alloc (.cells #[.slice none 0 0, .slice none 0 0, .slice none 0 0] 25)) = w5b at bq BQg BQs BQd W T W3 ⊢
  generalize w5.heap.size = qa at bq ⊢
  have BQx := Lib.hid bq
  clear bq hgq
  have bb := BQd.out
  have pc0 : w5b.cell? ⟨qd, 0, none⟩ = some (.slice da g.dual.owner.length dka) := bb.cell 0 _ rfl
  have pc1 : w5b.cell? ⟨qd, 1, none⟩ = some (.slice db g.dual.prio.length dkb) := bb.cell 1 _ rfl
  have pc2 : w5b.cell? ⟨qd, 2, none⟩ = some (.slice dc g.dual.moves.length dkc) := bb.cell 2 _ rfl
  clear bb
  have bb := BQs.out
  have sc0 : w5b.cell? ⟨qs, 0, none⟩ = some (.int .u64 (P.wrd s 0)) := bb.cell 0 _ rfl
  have sc1 : w5b.cell? ⟨qs, 1, none⟩ = some (.int .u64 (P.wrd s 1)) := bb.cell 1 _ rfl
  have sc2 : w5b.cell? ⟨qs, 2, none⟩ = some (.int .u64 (P.wrd s 2)) := bb.cell 2 _ rfl
  have sc3 : w5b.cell? ⟨qs, 3, none⟩ = some (.int .u64 (P.wrd s 3)) := bb.cell 3 _ rfl
  clear bb
  go_wp2_with fail
  refine (sub_any g.dual s _ _ (GD.out.on W3.out) T.out).mono ?_
  rintro e w6 hsub
  unfold Subbed at hsub
  rw [if_neg (by rw [HDN.out]; decide)] at hsub
  obtain ⟨rfl, hb⟩ := hsub
  have BQg := Lib.hid (BQg.out.keep (grown_of_below hb none))
  have BQs := Lib.hid (BQs.out.keep (grown_of_below hb none))
  have BQd := Lib.hid (BQd.out.keep (grown_of_below hb none))
  have W := Lib.hid (W.out.trans (hb.mono W.out.size))
  have T := Lib.hid (T.out.on hb)
  have W3 := Lib.hid (W3.out.trans (hb.mono W3.out.size))
  have BQx := Lib.hid (BQx.out.keep (grown_of_below hb none))
  clear hb pc0 pc1 pc2 sc0 sc1 sc2 sc3
  go_upto_region 5 with (fail)
  have bq : Box (w6.alloc (.cells #[.slice none 0 0, .slice none 0 0, .slice none 0 0] 25)) w6.heap.size 25 #[.slice none 0 0, .slice none 0 0, .slice none 0 0] := Box.new _ _ _
  have hgq := World.grownBy_alloc w6 (.cells #[.slice none 0 0, .slice none 0 0, .slice none 0 0] 25) none
  have BQg := Lib.hid (BQg.out.keep hgq)
  have BQs := Lib.hid (BQs.out.keep hgq)
  have BQd := Lib.hid (BQd.out.keep hgq)
  have W := Lib.hid (W.out.trans ((below_of_grown hgq).mono W.out.size))
  have T := Lib.hid (T.out.on (below_of_grown hgq))
  have W3 := Lib.hid (W3.out.trans ((below_of_grown hgq).mono W3.out.size))
  have BQx := Lib.hid (BQx.out.keep hgq)
  generalize (w6.alloc (.cells #[.slice none 0 0, .slice none 0 0, .slice none 0 0] 25)) = w6b at bq BQg BQs BQd W T W3 BQx ⊢
  generalize w6.heap.size = qb at bq ⊢
  have BQy := Lib.hid bq
  clear bq hgq
  obtain ⟨dn, hdn⟩ : ∃ dn, g.dual.owner.length = dn := ⟨_, rfl⟩
  rw [hdn] at BQd
  have HDP := HD.out
  rw [hdn] at HDP
  have fz : (((dn : Nat) : Int) == 0) = false := by rw [beq_eq_false_iff_ne]; omega
  clear HDP hdn
  have bb := BQd.out
  have pc0 : w6b.cell? ⟨qd, 0, none⟩ = some (.slice da dn dka) := bb.cell 0 _ rfl
  have pc1 : w6b.cell? ⟨qd, 1, none⟩ = some (.slice db g.dual.prio.length dkb) := bb.cell 1 _ rfl
  have pc2 : w6b.cell? ⟨qd, 2, none⟩ = some (.slice dc g.dual.moves.length dkc) := bb.cell 2 _ rfl
  clear bb
  have bb := BQx.out
  have qc0 : w6b.cell? ⟨qa, 0, none⟩ = some (.slice none 0 0) := bb.cell 0 _ rfl
  have qc1 : w6b.cell? ⟨qa, 1, none⟩ = some (.slice none 0 0) := bb.cell 1 _ rfl
  have qc2 : w6b.cell? ⟨qa, 2, none⟩ = some (.slice none 0 0) := bb.cell 2 _ rfl
  clear bb
  have bb := BQy.out
  have rc0 : w6b.cell? ⟨qb, 0, none⟩ = some (.slice none 0 0) := bb.cell 0 _ rfl
  have rc1 : w6b.cell? ⟨qb, 1, none⟩ = some (.slice none 0 0) := bb.cell 1 _ rfl
  have rc2 : w6b.cell? ⟨qb, 2, none⟩ = some (.slice none 0 0) := bb.cell 2 _ rfl
  clear bb
  go_wp2_with fail
  go_loopw [14] (fun i wr => i = .int .i64 0 ∧ wr = w6b) (fun i _ => 0)
  case atStart => exact ⟨rfl, rfl⟩
  case round =>
    obtain ⟨rfl, rfl⟩ := hrel
    go_wp2_with fail
    refine (sameints_any (.slice none 0 0) (.slice none 0 0) [] [] _ ⟨none, 0, rfl, by decide, .inl rfl⟩ ⟨none, 0, rfl, by decide, .inl rfl⟩).mono ?_
    rintro e w7 ⟨rfl, hb⟩
    rw [decide_eq_true rfl]
    have W := Lib.hid (W.out.trans (hb.mono W.out.size))
    clear hb pc0 pc1 pc2 qc0 qc1 qc2 rc0 rc1 rc2
    go_wp2_with fail
    exact bodyPost_ret (v := .bool true) (by simp [results, Tryd.results10, go_sem]) rfl ⟨rfl, W.out⟩

/-- What stays through the loop. -/
structure InvH (w wx wy : World) (qa qb : Nat) (av bv : Array Value) (wr : World) : Prop where
  fa : Box wr qa 25 av
  fb : Box wr qb 25 bv
  fw : Below w.heap.size w wr
  fx : Below wx.heap.size wx wr
  fy : Below wy.heap.size wy wr
theorem InvH.on {w wx wy : World} {qa qb : Nat} {av bv : Array Value} {wr w' : World} (h : InvH w wx wy qa qb av bv wr) (hb : Below wr.heap.size wr w') : InvH w wx wy qa qb av bv w' :=
  ⟨h.fa.keep (grown_of_below hb none), h.fb.keep (grown_of_below hb none), h.fw.trans (hb.mono h.fw.size), h.fx.trans (hb.mono h.fx.size), h.fy.trans (hb.mono h.fy.size)⟩
theorem wrap_diff (x y s : Int) (h : x = y + s) (hs : s = 1 ∨ s = -1) : IntKind.i64.wrap (x - y) = s := by
  rw [IntKind.wrap_i64]
  omega
theorem wrap_one (x y : Int) (h : x = 1 - y) (h0 : y = 0 ∨ y = 1) : IntKind.i64.wrap (1 - y) = x := by
  rw [IntKind.wrap_i64]
  omega
set_option maxRecDepth 100000 in
set_option maxHeartbeats 8000000 in
theorem halves_yes (g A B : P.G) (s : BitVec 256) (n : Nat) (y : Int) (ol : List Int) (v : Value) (w : World) (hv : GameV w v g) (hT : Tab w) (hd : g.dual.owner.length ≠ 0) (hs : g.has s = true) (hds : g.dual.has s = true)
    (hA : g.part s = A) (hB : g.dual.part s = B) (hh : P.Half A B n y) (hn0 : 0 < n) (hn2 : n ≤ 256) (hol : ((g.old s).map fun (i : Nat) => (i : Int)) = ol) (hdl : ((g.dual.old s).map fun (i : Nat) => (i : Int)) = ol) (hnl : ol.length = n) :
    Calls Tryd.prog 10 #[v, .agg #[.int .u64 (P.wrd s 0), .int .u64 (P.wrd s 1), .int .u64 (P.wrd s 2), .int .u64 (P.wrd s 3)]] w fun e w' => e = .returned (.bool true) ∧ Below w.heap.size w w' := by
  have HDN := Lib.hid hds
  have HD := Lib.hid hd
  have HS := Lib.hid hs
  have HA := Lib.hid hA
  have HB := Lib.hid hB
  have HF := Lib.hid hh
  have HOL := Lib.hid hol
  have HDL := Lib.hid hdl
  have HNL := Lib.hid hnl
  clear hd hs hds hA hB hh hol hdl hnl
  have hf := Lib.hid hv.fits
  have hfd := Lib.hid (fits_dual' hv.fits)
  have HV := Lib.hid hv
  obtain ⟨a, b, c, rfl, -⟩ := hv
  have T := Lib.hid hT
  clear hT
  go_enter Tryd.func10, Tryd.ntmps10
  go_wp2_with fail
  have b1q : Box ((w.alloc (.cells #[a, b, c] 25)).alloc (.cells #[.int .u64 (P.wrd s 0), .int .u64 (P.wrd s 1), .int .u64 (P.wrd s 2), .int .u64 (P.wrd s 3)] 35)) w.heap.size 25 #[a, b, c] := (Box.new w _ _).alloc _
  have b2q : Box ((w.alloc (.cells #[a, b, c] 25)).alloc (.cells #[.int .u64 (P.wrd s 0), .int .u64 (P.wrd s 1), .int .u64 (P.wrd s 2), .int .u64 (P.wrd s 3)] 35)) (w.heap.size + 1) 35 #[.int .u64 (P.wrd s 0), .int .u64 (P.wrd s 1), .int .u64 (P.wrd s 2), .int .u64 (P.wrd s 3)] := by
    have := Box.new (w.alloc (.cells #[a, b, c] 25)) 35 #[.int .u64 (P.wrd s 0), .int .u64 (P.wrd s 1), .int .u64 (P.wrd s 2), .int .u64 (P.wrd s 3)]
    simpa using this
  have hbq : Below w.heap.size w ((w.alloc (.cells #[a, b, c] 25)).alloc (.cells #[.int .u64 (P.wrd s 0), .int .u64 (P.wrd s 1), .int .u64 (P.wrd s 2), .int .u64 (P.wrd s 3)] 35)) := ((Below.refl _ w).alloc (Nat.le_refl _) _).alloc (by simp) _
  have T := Lib.hid (T.out.on hbq)
  generalize ((w.alloc (.cells #[a, b, c] 25)).alloc (.cells #[.int .u64 (P.wrd s 0), .int .u64 (P.wrd s 1), .int .u64 (P.wrd s 2), .int .u64 (P.wrd s 3)] 35)) = w1 at b1q b2q hbq T ⊢
  have BQg := Lib.hid b1q
  have BQs := Lib.hid b2q
  have W := Lib.hid hbq
  clear b1q b2q hbq
  generalize w.heap.size + 1 = qs at BQs ⊢
  generalize w.heap.size = qg at BQg ⊢
  refine (shown_any _ T.out).mono ?_
  rintro e w2 ⟨rfl, hb⟩
  have BQg := Lib.hid (BQg.out.keep (grown_of_below hb none))
  have BQs := Lib.hid (BQs.out.keep (grown_of_below hb none))
  have W := Lib.hid (W.out.trans (hb.mono W.out.size))
  have T := Lib.hid (T.out.on hb)
  clear hb
  have bb := BQg.out
  have pc0 : w2.cell? ⟨qg, 0, none⟩ = some a := bb.cell 0 _ rfl
  have pc1 : w2.cell? ⟨qg, 1, none⟩ = some b := bb.cell 1 _ rfl
  have pc2 : w2.cell? ⟨qg, 2, none⟩ = some c := bb.cell 2 _ rfl
  clear bb
  go_wp2_with fail
  refine (dual_any g _ _ (HV.out.on W.out)).mono ?_
  rintro e w3 ⟨dav, dbv, dcv, dL, rfl, ho, hb⟩
  have hgd := ho.game hfd.out
  obtain ⟨da, dka, db, dkb, dc, dkc, rfl, rfl, rfl⟩ := ho.forms
  have GD := Lib.hid hgd
  have BQg := Lib.hid (BQg.out.keep (grown_of_below hb none))
  have BQs := Lib.hid (BQs.out.keep (grown_of_below hb none))
  have W := Lib.hid (W.out.trans (hb.mono W.out.size))
  have T := Lib.hid (T.out.on hb)
  have W3 := Lib.hid (Below.refl w3.heap.size w3)
  clear hb ho hgd pc0 pc1 pc2
  go_upto_region 3 with (fail)
  have bq : Box (w3.alloc (.cells #[.slice da g.dual.owner.length dka, .slice db g.dual.prio.length dkb, .slice dc g.dual.moves.length dkc] 25)) w3.heap.size 25 #[.slice da g.dual.owner.length dka, .slice db g.dual.prio.length dkb, .slice dc g.dual.moves.length dkc] := Box.new _ _ _
  have hgq := World.grownBy_alloc w3 (.cells #[.slice da g.dual.owner.length dka, .slice db g.dual.prio.length dkb, .slice dc g.dual.moves.length dkc] 25) none
  have BQg := Lib.hid (BQg.out.keep hgq)
  have BQs := Lib.hid (BQs.out.keep hgq)
  have W := Lib.hid (W.out.trans ((below_of_grown hgq).mono W.out.size))
  have T := Lib.hid (T.out.on (below_of_grown hgq))
  have W3 := Lib.hid (W3.out.trans ((below_of_grown hgq).mono W3.out.size))
  generalize (w3.alloc (.cells #[.slice da g.dual.owner.length dka, .slice db g.dual.prio.length dkb, .slice dc g.dual.moves.length dkc] 25)) = w4 at bq BQg BQs W T W3 ⊢
  generalize w3.heap.size = qd at bq ⊢
  have BQd := Lib.hid bq
  clear bq hgq
  have bb := BQg.out
  have pc0 : w4.cell? ⟨qg, 0, none⟩ = some a := bb.cell 0 _ rfl
  have pc1 : w4.cell? ⟨qg, 1, none⟩ = some b := bb.cell 1 _ rfl
  have pc2 : w4.cell? ⟨qg, 2, none⟩ = some c := bb.cell 2 _ rfl
  clear bb
  have bb := BQs.out
  have sc0 : w4.cell? ⟨qs, 0, none⟩ = some (.int .u64 (P.wrd s 0)) := bb.cell 0 _ rfl
  have sc1 : w4.cell? ⟨qs, 1, none⟩ = some (.int .u64 (P.wrd s 1)) := bb.cell 1 _ rfl
  have sc2 : w4.cell? ⟨qs, 2, none⟩ = some (.int .u64 (P.wrd s 2)) := bb.cell 2 _ rfl
  have sc3 : w4.cell? ⟨qs, 3, none⟩ = some (.int .u64 (P.wrd s 3)) := bb.cell 3 _ rfl
  clear bb
  go_wp2_with fail
  refine (sub_any g s _ _ (HV.out.on W.out) T.out).mono ?_
  rintro e w5 hsub
  unfold Subbed at hsub
  rw [if_pos HS.out] at hsub
  obtain ⟨xav, xbv, xcv, xL, xo, rfl, ho, hol, hb⟩ := hsub
  have hgp := ho.game (fits_part hf.out s)
  have hil := hol.ints len_old
  rw [HA.out] at hgp
  rw [HOL.out] at hil
  obtain ⟨xa, xao, xak, xb, xbo, xbk, xc, xco, xck, hxv, hxa, hxb, hxc⟩ := hgp.open_ HF.out.al HF.out.apl HF.out.aml hn0
  have XA := Lib.hid hxa
  have XB := Lib.hid hxb
  have XC := Lib.hid hxc
  have hxv' : #[xav, xbv, xcv] = #[.slice (some ⟨xa, xao, none⟩) n xak, .slice (some ⟨xb, xbo, none⟩) n xbk, .slice (some ⟨xc, xco, none⟩) n xck] := Value.agg.inj hxv
  simp only [Array.mk.injEq, List.cons.injEq, and_true] at hxv'
  obtain ⟨rfl, rfl, rfl⟩ := hxv'
  have Ix := Lib.hid hil
  have BQg := Lib.hid (BQg.out.keep (grown_of_below hb none))
  have BQs := Lib.hid (BQs.out.keep (grown_of_below hb none))
  have BQd := Lib.hid (BQd.out.keep (grown_of_below hb none))
  have W := Lib.hid (W.out.trans (hb.mono W.out.size))
  have T := Lib.hid (T.out.on hb)
  have W3 := Lib.hid (W3.out.trans (hb.mono W3.out.size))
  have Wx := Lib.hid (Below.refl w5.heap.size w5)
  clear hb ho hol hgp hil pc0 pc1 pc2 sc0 sc1 sc2 sc3 hxa hxb hxc hxv
  go_upto_region 4 with (fail)
  have bq : Box (w5.alloc (.cells #[.slice (some ⟨xa, xao, none⟩) n xak, .slice (some ⟨xb, xbo, none⟩) n xbk, .slice (some ⟨xc, xco, none⟩) n xck] 25)) w5.heap.size 25 #[.slice (some ⟨xa, xao, none⟩) n xak, .slice (some ⟨xb, xbo, none⟩) n xbk, .slice (some ⟨xc, xco, none⟩) n xck] := Box.new _ _ _
  have hgq := World.grownBy_alloc w5 (.cells #[.slice (some ⟨xa, xao, none⟩) n xak, .slice (some ⟨xb, xbo, none⟩) n xbk, .slice (some ⟨xc, xco, none⟩) n xck] 25) none
  have BQg := Lib.hid (BQg.out.keep hgq)
  have BQs := Lib.hid (BQs.out.keep hgq)
  have BQd := Lib.hid (BQd.out.keep hgq)
  have W := Lib.hid (W.out.trans ((below_of_grown hgq).mono W.out.size))
  have T := Lib.hid (T.out.on (below_of_grown hgq))
  have W3 := Lib.hid (W3.out.trans ((below_of_grown hgq).mono W3.out.size))
  have Wx := Lib.hid (Wx.out.trans ((below_of_grown hgq).mono Wx.out.size))
  generalize (w5.alloc (.cells #[.slice (some ⟨xa, xao, none⟩) n xak, .slice (some ⟨xb, xbo, none⟩) n xbk, .slice (some ⟨xc, xco, none⟩) n xck] 25)) = w5b at bq BQg BQs BQd W T W3 Wx ⊢
  generalize w5.heap.size = qa at bq ⊢
  have BQx := Lib.hid bq
  clear bq hgq
  have bb := BQd.out
  have pc0 : w5b.cell? ⟨qd, 0, none⟩ = some (.slice da g.dual.owner.length dka) := bb.cell 0 _ rfl
  have pc1 : w5b.cell? ⟨qd, 1, none⟩ = some (.slice db g.dual.prio.length dkb) := bb.cell 1 _ rfl
  have pc2 : w5b.cell? ⟨qd, 2, none⟩ = some (.slice dc g.dual.moves.length dkc) := bb.cell 2 _ rfl
  clear bb
  have bb := BQs.out
  have sc0 : w5b.cell? ⟨qs, 0, none⟩ = some (.int .u64 (P.wrd s 0)) := bb.cell 0 _ rfl
  have sc1 : w5b.cell? ⟨qs, 1, none⟩ = some (.int .u64 (P.wrd s 1)) := bb.cell 1 _ rfl
  have sc2 : w5b.cell? ⟨qs, 2, none⟩ = some (.int .u64 (P.wrd s 2)) := bb.cell 2 _ rfl
  have sc3 : w5b.cell? ⟨qs, 3, none⟩ = some (.int .u64 (P.wrd s 3)) := bb.cell 3 _ rfl
  clear bb
  go_wp2_with fail
  refine (sub_any g.dual s _ _ (GD.out.on W3.out) T.out).mono ?_
  rintro e w6 hsub
  unfold Subbed at hsub
  rw [if_pos HDN.out] at hsub
  obtain ⟨yav, ybv, ycv, yL, yo, rfl, ho, hol, hb⟩ := hsub
  have hgp := ho.game (fits_part hfd.out s)
  have hil := hol.ints len_old
  rw [HB.out] at hgp
  rw [HDL.out] at hil
  obtain ⟨ya, yao, yak, yb, ybo, ybk, yc, yco, yck, hxv, hxa, hxb, hxc⟩ := hgp.open_ HF.out.bl HF.out.bpl HF.out.bml hn0
  have YA := Lib.hid hxa
  have YB := Lib.hid hxb
  have YC := Lib.hid hxc
  have hxv' : #[yav, ybv, ycv] = #[.slice (some ⟨ya, yao, none⟩) n yak, .slice (some ⟨yb, ybo, none⟩) n ybk, .slice (some ⟨yc, yco, none⟩) n yck] := Value.agg.inj hxv
  simp only [Array.mk.injEq, List.cons.injEq, and_true] at hxv'
  obtain ⟨rfl, rfl, rfl⟩ := hxv'
  have Iy := Lib.hid hil
  have BQg := Lib.hid (BQg.out.keep (grown_of_below hb none))
  have BQs := Lib.hid (BQs.out.keep (grown_of_below hb none))
  have BQd := Lib.hid (BQd.out.keep (grown_of_below hb none))
  have W := Lib.hid (W.out.trans (hb.mono W.out.size))
  have T := Lib.hid (T.out.on hb)
  have W3 := Lib.hid (W3.out.trans (hb.mono W3.out.size))
  have BQx := Lib.hid (BQx.out.keep (grown_of_below hb none))
  have Wx := Lib.hid (Wx.out.trans (hb.mono Wx.out.size))
  have Wy := Lib.hid (Below.refl w6.heap.size w6)
  clear hb ho hol hgp hil pc0 pc1 pc2 sc0 sc1 sc2 sc3 hxa hxb hxc hxv
  go_upto_region 5 with (fail)
  have bq : Box (w6.alloc (.cells #[.slice (some ⟨ya, yao, none⟩) n yak, .slice (some ⟨yb, ybo, none⟩) n ybk, .slice (some ⟨yc, yco, none⟩) n yck] 25)) w6.heap.size 25 #[.slice (some ⟨ya, yao, none⟩) n yak, .slice (some ⟨yb, ybo, none⟩) n ybk, .slice (some ⟨yc, yco, none⟩) n yck] := Box.new _ _ _
  have hgq := World.grownBy_alloc w6 (.cells #[.slice (some ⟨ya, yao, none⟩) n yak, .slice (some ⟨yb, ybo, none⟩) n ybk, .slice (some ⟨yc, yco, none⟩) n yck] 25) none
  have BQg := Lib.hid (BQg.out.keep hgq)
  have BQs := Lib.hid (BQs.out.keep hgq)
  have BQd := Lib.hid (BQd.out.keep hgq)
  have W := Lib.hid (W.out.trans ((below_of_grown hgq).mono W.out.size))
  have T := Lib.hid (T.out.on (below_of_grown hgq))
  have W3 := Lib.hid (W3.out.trans ((below_of_grown hgq).mono W3.out.size))
  have BQx := Lib.hid (BQx.out.keep hgq)
  have Wx := Lib.hid (Wx.out.trans ((below_of_grown hgq).mono Wx.out.size))
  have Wy := Lib.hid (Wy.out.trans ((below_of_grown hgq).mono Wy.out.size))
  generalize (w6.alloc (.cells #[.slice (some ⟨ya, yao, none⟩) n yak, .slice (some ⟨yb, ybo, none⟩) n ybk, .slice (some ⟨yc, yco, none⟩) n yck] 25)) = w6b at bq BQg BQs BQd W T W3 BQx Wx Wy ⊢
  generalize w6.heap.size = qb at bq ⊢
  have BQy := Lib.hid bq
  clear bq hgq
  obtain ⟨dn, hdn⟩ : ∃ dn, g.dual.owner.length = dn := ⟨_, rfl⟩
  rw [hdn] at BQd
  have HDP := HD.out
  rw [hdn] at HDP
  have fz : (((dn : Nat) : Int) == 0) = false := by rw [beq_eq_false_iff_ne]; omega
  clear HDP hdn
  have bb := BQd.out
  have pc0 : w6b.cell? ⟨qd, 0, none⟩ = some (.slice da dn dka) := bb.cell 0 _ rfl
  have pc1 : w6b.cell? ⟨qd, 1, none⟩ = some (.slice db g.dual.prio.length dkb) := bb.cell 1 _ rfl
  have pc2 : w6b.cell? ⟨qd, 2, none⟩ = some (.slice dc g.dual.moves.length dkc) := bb.cell 2 _ rfl
  clear bb
  have bb := BQx.out
  have qc0 : w6b.cell? ⟨qa, 0, none⟩ = some (.slice (some ⟨xa, xao, none⟩) n xak) := bb.cell 0 _ rfl
  have qc1 : w6b.cell? ⟨qa, 1, none⟩ = some (.slice (some ⟨xb, xbo, none⟩) n xbk) := bb.cell 1 _ rfl
  have qc2 : w6b.cell? ⟨qa, 2, none⟩ = some (.slice (some ⟨xc, xco, none⟩) n xck) := bb.cell 2 _ rfl
  clear bb
  have bb := BQy.out
  have rc0 : w6b.cell? ⟨qb, 0, none⟩ = some (.slice (some ⟨ya, yao, none⟩) n yak) := bb.cell 0 _ rfl
  have rc1 : w6b.cell? ⟨qb, 1, none⟩ = some (.slice (some ⟨yb, ybo, none⟩) n ybk) := bb.cell 1 _ rfl
  have rc2 : w6b.cell? ⟨qb, 2, none⟩ = some (.slice (some ⟨yc, yco, none⟩) n yck) := bb.cell 2 _ rfl
  clear bb
  go_wp2_with fail
  clear pc0 pc1 pc2 qc0 qc1 qc2 rc0 rc1 rc2
  have IV := Lib.hid (InvH.mk BQx.out BQy.out W.out Wx.out Wy.out)
  go_loopw [14] (fun i wr => ∃ k : Nat, k ≤ n ∧ i = .int .i64 k ∧ InvH w w5 w6 qa qb #[.slice (some ⟨xa, xao, none⟩) n xak, .slice (some ⟨xb, xbo, none⟩) n xbk, .slice (some ⟨xc, xco, none⟩) n xck] #[.slice (some ⟨ya, yao, none⟩) n yak, .slice (some ⟨yb, ybo, none⟩) n ybk, .slice (some ⟨yc, yco, none⟩) n yck] wr) (fun i _ => n - (intOf i).toNat)
  case atStart => exact ⟨0, Nat.zero_le _, rfl, IV.out⟩
  case round =>
    obtain ⟨k, hk, rfl, hI⟩ := hrel
    have IV := Lib.hid hI
    have hk0 : (0 : Int) ≤ (k : Int) := Int.natCast_nonneg _
    clear hI
    by_cases hlt : k < n
    · have fk : decide ((k : Int) < (n : Int)) = true := decide_eq_true (by omega)
      have il : (k : Int) < (n : Int) := by omega
      have i0 : (0 : Int) < (n : Int) := by omega
      obtain ⟨ap, hap⟩ : ∃ z, A.prio.getD k 0 = z := ⟨_, rfl⟩
      obtain ⟨bp, hbp⟩ : ∃ z, B.prio.getD k 0 = z := ⟨_, rfl⟩
      have c1 := XB.out wr IV.out.fx k hlt
      have c2 := YB.out wr IV.out.fy k hlt
      have e1 := (HF.out.pr k hlt).1
      rw [hap] at c1
      rw [hbp] at c2
      rw [hap, hbp] at e1
      have fw := wrap_diff bp ap y e1 HF.out.y1
      clear hap hbp e1
      have bb := (Lib.hid IV.out.fa).out
      have qc0 : wr.cell? ⟨qa, 0, none⟩ = some (.slice (some ⟨xa, xao, none⟩) n xak) := bb.cell 0 _ rfl
      have qc1 : wr.cell? ⟨qa, 1, none⟩ = some (.slice (some ⟨xb, xbo, none⟩) n xbk) := bb.cell 1 _ rfl
      have qc2 : wr.cell? ⟨qa, 2, none⟩ = some (.slice (some ⟨xc, xco, none⟩) n xck) := bb.cell 2 _ rfl
      clear bb
      have bb := (Lib.hid IV.out.fb).out
      have rc0 : wr.cell? ⟨qb, 0, none⟩ = some (.slice (some ⟨ya, yao, none⟩) n yak) := bb.cell 0 _ rfl
      have rc1 : wr.cell? ⟨qb, 1, none⟩ = some (.slice (some ⟨yb, ybo, none⟩) n ybk) := bb.cell 1 _ rfl
      have rc2 : wr.cell? ⟨qb, 2, none⟩ = some (.slice (some ⟨yc, yco, none⟩) n yck) := bb.cell 2 _ rfl
      clear bb
      go_wp2_with fail
      go_quiet (fail)
      clear c1 c2 fw qc0 qc1 qc2 rc0 rc1 rc2
      rename_i nq
      have hb := below_drewN (Below.refl wr.heap.size wr) nq
      have IV := Lib.hid (IV.out.on hb)
      clear hb
      generalize wr.drewN nq = wo at IV ⊢
      obtain ⟨xm, cxm, hxm⟩ := XC.out wo IV.out.fx k hlt
      obtain ⟨ym, cym, hym⟩ := YC.out wo IV.out.fy k hlt
      rw [HF.out.mo k hlt] at hym
      have k0 : ∀ (d : Nat) (os : Array Obj), (grow (redrawn wo d) os).cell? ⟨qa, 0, none⟩ = some (.slice (some ⟨xa, xao, none⟩) n xak) := fun d os => ((Lib.hid IV.out.fa).out.keep (grown_of_below (below_regrown wo d os) none)).cell 0 _ rfl
      have k1 : ∀ (d : Nat) (os : Array Obj), (grow (redrawn wo d) os).cell? ⟨qa, 1, none⟩ = some (.slice (some ⟨xb, xbo, none⟩) n xbk) := fun d os => ((Lib.hid IV.out.fa).out.keep (grown_of_below (below_regrown wo d os) none)).cell 1 _ rfl
      have k2 : ∀ (d : Nat) (os : Array Obj), (grow (redrawn wo d) os).cell? ⟨qa, 2, none⟩ = some (.slice (some ⟨xc, xco, none⟩) n xck) := fun d os => ((Lib.hid IV.out.fa).out.keep (grown_of_below (below_regrown wo d os) none)).cell 2 _ rfl
      have l0 : ∀ (d : Nat) (os : Array Obj), (grow (redrawn wo d) os).cell? ⟨qb, 0, none⟩ = some (.slice (some ⟨ya, yao, none⟩) n yak) := fun d os => ((Lib.hid IV.out.fb).out.keep (grown_of_below (below_regrown wo d os) none)).cell 0 _ rfl
      have l1 : ∀ (d : Nat) (os : Array Obj), (grow (redrawn wo d) os).cell? ⟨qb, 1, none⟩ = some (.slice (some ⟨yb, ybo, none⟩) n ybk) := fun d os => ((Lib.hid IV.out.fb).out.keep (grown_of_below (below_regrown wo d os) none)).cell 1 _ rfl
      have l2 : ∀ (d : Nat) (os : Array Obj), (grow (redrawn wo d) os).cell? ⟨qb, 2, none⟩ = some (.slice (some ⟨yc, yco, none⟩) n yck) := fun d os => ((Lib.hid IV.out.fb).out.keep (grown_of_below (below_regrown wo d os) none)).cell 2 _ rfl
      have m0 := fun d os => cell_regrown cxm d os
      have m1 := fun d os => cell_regrown cym d os
      have kC : ∀ d os, Calls Tryd.prog 24 #[xm, ym] (grow (redrawn wo d) os) fun e w'' => e = .returned (.bool true) ∧ ∃ p : Regrown, w'' = grow (redrawn wo p.d) p.os := fun d os => by
        have := Calls.regrown_of (sameints_any xm ym _ _ _ (hxm.on (below_regrown wo d os)) (hym.on (below_regrown wo d os)))
        rw [decide_eq_true rfl] at this
        exact this
      clear hxm hym cxm cym
      go_wp2_with fail
      refine wp_region_quiet_below (by kernel_rfl) (by kernel_rfl) ?_
      repeat (first | go_big_quiet_step (first | (go_at_call 24; exact kC _ _)) | quiet_step (first | (go_at_call 24; exact kC _ _)))
      refine wpQuiet_nil ?_
      intro _ hw'
      obtain ⟨⟨dq, osq⟩, hw''⟩ := hw'
      subst hw''
      clear k0 k1 k2 l0 l1 l2 m0 m1 kC
      have IV := Lib.hid (IV.out.on (below_regrown wo dq osq))
      generalize (grow (redrawn wo dq) osq) = wp at IV ⊢
      obtain ⟨ao, hao⟩ : ∃ z, A.owner.getD k 0 = z := ⟨_, rfl⟩
      obtain ⟨bo, hbo⟩ : ∃ z, B.owner.getD k 0 = z := ⟨_, rfl⟩
      obtain ⟨p0, hp0⟩ : ∃ z, A.prio.getD 0 0 = z := ⟨_, rfl⟩
      obtain ⟨q0, hq0⟩ : ∃ z, B.prio.getD 0 0 = z := ⟨_, rfl⟩
      have c1 := XA.out wp IV.out.fx k hlt
      have c2 := YA.out wp IV.out.fy k hlt
      have c3 := XB.out wp IV.out.fx 0 hn0
      have c4 := YB.out wp IV.out.fy 0 hn0
      have e1 := HF.out.ow k hlt
      have e2 := (HF.out.pr 0 hn0).1
      rw [hao] at c1 e1
      rw [hbo] at c2 e1
      rw [hp0] at c3 e2
      rw [hq0] at c4 e2
      rw [Nat.add_zero] at c3 c4
      have f1 := wrap_one bo ao e1.1 e1.2
      have f2 := wrap_diff q0 p0 y e2 HF.out.y1
      have f3 : (bo != bo) = false := by simp
      have f4 : (y != y) = false := by simp
      clear hao hbo hp0 hq0 e1 e2
      have bb := (Lib.hid IV.out.fa).out
      have qc0 : wp.cell? ⟨qa, 0, none⟩ = some (.slice (some ⟨xa, xao, none⟩) n xak) := bb.cell 0 _ rfl
      have qc1 : wp.cell? ⟨qa, 1, none⟩ = some (.slice (some ⟨xb, xbo, none⟩) n xbk) := bb.cell 1 _ rfl
      have qc2 : wp.cell? ⟨qa, 2, none⟩ = some (.slice (some ⟨xc, xco, none⟩) n xck) := bb.cell 2 _ rfl
      clear bb
      have bb := (Lib.hid IV.out.fb).out
      have rc0 : wp.cell? ⟨qb, 0, none⟩ = some (.slice (some ⟨ya, yao, none⟩) n yak) := bb.cell 0 _ rfl
      have rc1 : wp.cell? ⟨qb, 1, none⟩ = some (.slice (some ⟨yb, ybo, none⟩) n ybk) := bb.cell 1 _ rfl
      have rc2 : wp.cell? ⟨qb, 2, none⟩ = some (.slice (some ⟨yc, yco, none⟩) n yck) := bb.cell 2 _ rfl
      clear bb
      have HY := HF.out.y1
      rcases HY with rfl | rfl
      all_goals
        go_wp2_with fail
        go_quiet (fail)
        go_wp2_with fail
        go_roundw
        case rel => exact ⟨k + 1, by omega, by go_num, IV.out.on (below_drewN (Below.refl wp.heap.size wp) _)⟩
        case measure => simp [intOf]; omega
    · obtain rfl : k = n := by omega
      have fk : decide ((k : Int) < (k : Int)) = false := decide_eq_false (Int.lt_irrefl _)
      have fp : decide ((0 : Int) < (k : Int)) = true := decide_eq_true (by omega)
      have Ix := Lib.hid (Ix.out.on IV.out.fx)
      have Iy := Lib.hid (Iy.out.on IV.out.fy)
      obtain ⟨xoo, xok, rfl, -⟩ := Ix.out
      obtain ⟨yoo, yok, rfl, -⟩ := Iy.out
      rw [HNL.out]
      rw [HNL.out] at Ix Iy
      go_wp2_with fail
      refine (sameints_any _ _ _ _ _ Ix.out Iy.out).mono ?_
      rintro e w7 ⟨rfl, hb⟩
      rw [decide_eq_true rfl]
      have IV := Lib.hid (IV.out.on hb)
      clear hb
      go_wp2_with fail
      exact bodyPost_ret (v := .bool true) (by simp [results, Tryd.results10, go_sem]) rfl ⟨rfl, IV.out.fw⟩
theorem halves_any (g : P.G) (s : BitVec 256) (v : Value) (w : World) (hv : GameV w v g) (hT : Tab w) : Calls Tryd.prog 10 #[v, .agg #[.int .u64 (P.wrd s 0), .int .u64 (P.wrd s 1), .int .u64 (P.wrd s 2), .int .u64 (P.wrd s 3)]] w fun e w' => e = .returned (.bool true) ∧ Below w.heap.size w w' := by
  by_cases hd : g.dual = P.G.none
  · exact halves_none g s v w hv hT hd
  · have hok : g.ok = true := by
      cases h : g.ok with
      | true => rfl
      | false => exact absurd (P.G.dual_none h) hd
    have hr := (P.G.ok_iff g).1 hok
    have hb : ¬ ((0 : Int) ∈ g.prio ∧ (7 : Int) ∈ g.prio) := fun h => hd (P.G.dual_both hr h.1 h.2)
    have hw := P.G.dual_way hr hb
    have hl : g.dual.owner.length ≠ 0 := by
      rw [hw, (P.G.turned_len g g.way).1]
      have := hr.pos
      omega
    have hh : g.dual.has s = g.has s := by rw [hw]; exact P.G.turned_has hr _ s (P.G.turned_right hr hb)
    cases hs : g.has s with
    | false => exact halves_no g s v w hv hT hl hs (by rw [hh]; exact hs)
    | true =>
      refine halves_yes g _ _ s _ g.way _ v w hv hT hl hs (by rw [hh]; exact hs) rfl rfl (by rw [hw]; exact P.half_is hr s) (P.G.old_pos hs) (g.old_len s) rfl ?_ (by rw [List.length_map])
      rw [hw, P.G.turned_old]
end W
end Go.Proofs.YtlbikfimfaecnaaDoor
