/- GameRights: the walk. -/
import Derived.Test.YtlbikfimfaecnaaDoorShown
import Derived.Test.YtlbikfimfaecnaaDoorRCopy
import Derived.Test.YtlbikfimfaecnaaDoorRRight
namespace Go.Proofs.YtlbikfimfaecnaaDoor
open Go.RowKit
namespace W

theorem copied_game {w w' : World} {g : P.G} {e : Ending} (h : Copied w g e w') (hf : Fits g) : ∃ a1 k1 b1 k2 c1 k3, e = .returned (.agg #[.slice a1 g.owner.length k1, .slice b1 g.prio.length k2, .slice c1 g.moves.length k3]) ∧ GameV w' (.agg #[.slice a1 g.owner.length k1, .slice b1 g.prio.length k2, .slice c1 g.moves.length k3]) g ∧ Below w.heap.size w w' := by
  obtain ⟨a, b, c, L, he, ho, hb⟩ := h
  have hg := ho.game hf
  obtain ⟨a1, k1, b1, k2, c1, k3, rfl, rfl, rfl⟩ := ho.forms
  exact ⟨a1, k1, b1, k2, c1, k3, he, hg, hb⟩
set_option maxRecDepth 100000 in
set_option maxHeartbeats 1000000 in
theorem rights_any (g : P.G) (v : Value) (w : World) (hv : GameV w v g) (hT : Tab w) : Calls Tryd.prog 3 #[v] w fun e w' => e = .returned (.bool true) ∧ Below w.heap.size w w' := by
  have hf := Lib.hid hv.fits
  have HV := Lib.hid hv
  obtain ⟨a, b, c, rfl, -⟩ := hv
  have T := Lib.hid hT
  have W := Lib.hid (Below.refl w.heap.size w)
  clear hT
  have GV := HV
  clear HV
  go_enter Tryd.func3, Tryd.ntmps3
  go_wp2_with fail
  have bq : Box (w.alloc (.cells #[a, b, c] 25)) w.heap.size 25 #[a, b, c] := Box.new _ _ _
  have hgq := World.grownBy_alloc w (.cells #[a, b, c] 25) none
  have GV := Lib.hid (GV.out.on (below_of_grown hgq))
  have T := Lib.hid (T.out.on (below_of_grown hgq))
  have W := Lib.hid (W.out.trans ((below_of_grown hgq).mono W.out.size))
  generalize (w.alloc (.cells #[a, b, c] 25)) = w1 at bq GV T W ⊢
  generalize w.heap.size = q1 at bq ⊢
  have BQ1 := Lib.hid bq
  clear bq hgq
  refine (shown_any _ T.out).mono ?_
  rintro e w2 ⟨rfl, hb⟩
  have BQ1 := Lib.hid (BQ1.out.keep (grown_of_below hb none))
  have GV := Lib.hid (GV.out.on hb)
  have T := Lib.hid (T.out.on hb)
  have W := Lib.hid (W.out.trans (hb.mono W.out.size))
  clear hb
  have bb := BQ1.out
  have pc0 : w2.cell? ⟨q1, 0, none⟩ = some a := bb.cell 0 _ rfl
  have pc1 : w2.cell? ⟨q1, 1, none⟩ = some b := bb.cell 1 _ rfl
  have pc2 : w2.cell? ⟨q1, 2, none⟩ = some c := bb.cell 2 _ rfl
  clear bb
  go_wp2_with fail
  refine (rcopy_any g _ _ GV.out).mono ?_
  rintro e w3 hc
  obtain ⟨a1, k1, b1, k2, c1, k3, rfl, hh, hb⟩ := copied_game hc hf.out
  have BQ1 := Lib.hid (BQ1.out.keep (grown_of_below hb none))
  have GV := Lib.hid (GV.out.on hb)
  have T := Lib.hid (T.out.on hb)
  have W := Lib.hid (W.out.trans (hb.mono W.out.size))
  have GH := Lib.hid hh
  clear hb hh hc pc0 pc1 pc2
  have bb := BQ1.out.alloc (.cells #[.slice a1 g.owner.length k1, .slice b1 g.prio.length k2, .slice c1 g.moves.length k3] 25)
  have pc0 : (w3.alloc (.cells #[.slice a1 g.owner.length k1, .slice b1 g.prio.length k2, .slice c1 g.moves.length k3] 25)).cell? ⟨q1, 0, none⟩ = some a := bb.cell 0 _ rfl
  have pc1 : (w3.alloc (.cells #[.slice a1 g.owner.length k1, .slice b1 g.prio.length k2, .slice c1 g.moves.length k3] 25)).cell? ⟨q1, 1, none⟩ = some b := bb.cell 1 _ rfl
  have pc2 : (w3.alloc (.cells #[.slice a1 g.owner.length k1, .slice b1 g.prio.length k2, .slice c1 g.moves.length k3] 25)).cell? ⟨q1, 2, none⟩ = some c := bb.cell 2 _ rfl
  clear bb
  go_wp2_with fail
  clear pc0 pc1 pc2
  have bq : Box (w3.alloc (.cells #[.slice a1 g.owner.length k1, .slice b1 g.prio.length k2, .slice c1 g.moves.length k3] 25)) w3.heap.size 25 #[.slice a1 g.owner.length k1, .slice b1 g.prio.length k2, .slice c1 g.moves.length k3] := Box.new _ _ _
  have hgq := World.grownBy_alloc w3 (.cells #[.slice a1 g.owner.length k1, .slice b1 g.prio.length k2, .slice c1 g.moves.length k3] 25) none
  have BQ1 := Lib.hid (BQ1.out.keep hgq)
  have GV := Lib.hid (GV.out.on (below_of_grown hgq))
  have GH := Lib.hid (GH.out.on (below_of_grown hgq))
  have T := Lib.hid (T.out.on (below_of_grown hgq))
  have W := Lib.hid (W.out.trans ((below_of_grown hgq).mono W.out.size))
  generalize (w3.alloc (.cells #[.slice a1 g.owner.length k1, .slice b1 g.prio.length k2, .slice c1 g.moves.length k3] 25)) = w4 at bq BQ1 GV GH T W ⊢
  generalize w3.heap.size = q2 at bq ⊢
  have BQ2 := Lib.hid bq
  clear bq hgq
  refine (right_any g _ _ GV.out).mono ?_
  rintro e w5 ⟨rfl, hb⟩
  have BQ1 := Lib.hid (BQ1.out.keep (grown_of_below hb none))
  have BQ2 := Lib.hid (BQ2.out.keep (grown_of_below hb none))
  have GV := Lib.hid (GV.out.on hb)
  have GH := Lib.hid (GH.out.on hb)
  have T := Lib.hid (T.out.on hb)
  have W := Lib.hid (W.out.trans (hb.mono W.out.size))
  clear hb
  have bb := BQ2.out
  have pc0 : w5.cell? ⟨q2, 0, none⟩ = some (.slice a1 g.owner.length k1) := bb.cell 0 _ rfl
  have pc1 : w5.cell? ⟨q2, 1, none⟩ = some (.slice b1 g.prio.length k2) := bb.cell 1 _ rfl
  have pc2 : w5.cell? ⟨q2, 2, none⟩ = some (.slice c1 g.moves.length k3) := bb.cell 2 _ rfl
  clear bb
  go_wp2_with fail
  refine (rright_any g _ _ GH.out).mono ?_
  rintro e w6 ⟨rfl, hb⟩
  have BQ1 := Lib.hid (BQ1.out.keep (grown_of_below hb none))
  have BQ2 := Lib.hid (BQ2.out.keep (grown_of_below hb none))
  have GV := Lib.hid (GV.out.on hb)
  have GH := Lib.hid (GH.out.on hb)
  have T := Lib.hid (T.out.on hb)
  have W := Lib.hid (W.out.trans (hb.mono W.out.size))
  clear hb pc0 pc1 pc2
  have bb := BQ1.out
  have pc0 : w6.cell? ⟨q1, 0, none⟩ = some a := bb.cell 0 _ rfl
  have pc1 : w6.cell? ⟨q1, 1, none⟩ = some b := bb.cell 1 _ rfl
  have pc2 : w6.cell? ⟨q1, 2, none⟩ = some c := bb.cell 2 _ rfl
  clear bb
  have bb := BQ2.out
  have qc0 : w6.cell? ⟨q2, 0, none⟩ = some (.slice a1 g.owner.length k1) := bb.cell 0 _ rfl
  have qc1 : w6.cell? ⟨q2, 1, none⟩ = some (.slice b1 g.prio.length k2) := bb.cell 1 _ rfl
  have qc2 : w6.cell? ⟨q2, 2, none⟩ = some (.slice c1 g.moves.length k3) := bb.cell 2 _ rfl
  clear bb
  go_wp2_with fail
  refine (samegame_any g g _ _ _ GV.out GH.out).mono ?_
  rintro e w7 ⟨rfl, hb⟩
  rw [decide_eq_true rfl]
  have W := Lib.hid (W.out.trans (hb.mono W.out.size))
  clear hb pc0 pc1 pc2 qc0 qc1 qc2
  go_wp2_with fail
  exact bodyPost_ret (v := .bool true) (by simp [results, Tryd.results3, go_sem]) rfl ⟨rfl, W.out⟩
end W
end Go.Proofs.YtlbikfimfaecnaaDoor
