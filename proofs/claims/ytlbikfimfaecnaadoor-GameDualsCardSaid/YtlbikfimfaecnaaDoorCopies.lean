/- GameCopies: the walk. -/
import Derived.Test.YtlbikfimfaecnaaDoorShown
import Derived.Test.YtlbikfimfaecnaaDoorRCopy
import Derived.Test.YtlbikfimfaecnaaDoorRDual
import Derived.Test.YtlbikfimfaecnaaDoorFull
import Derived.Test.YtlbikfimfaecnaaDoorRights
import Derived.Deep.Cut
namespace Go.Proofs.YtlbikfimfaecnaaDoor
open Go.RowKit
namespace W

theorem fits_dual {g : P.G} (h : Fits g) : Fits g.dual := by
  have h0 : Fits P.G.none := ⟨by decide, by decide, by decide, fun j l h => by simp [P.G.none] at h⟩
  have h1 : ∀ z, Fits (g.turned z) := fun z => ⟨by simpa [P.G.turned] using h.1, by simpa [P.G.turned] using h.2.1, h.2.2.1, h.2.2.2⟩
  unfold P.G.dual
  split
  · exact h0
  · split
    · split
      · exact h0
      · exact h1 _
    · exact h1 _
set_option maxRecDepth 100000 in
set_option maxHeartbeats 4000000 in
theorem copies_any (g : P.G) (v : Value) (w : World) (hv : GameV w v g) (hT : Tab w) : Calls Tryd.prog 4 #[v] w fun e w' => e = .returned (.bool true) ∧ Below w.heap.size w w' := by
  have hf := Lib.hid hv.fits
  have hfd := Lib.hid (fits_dual hv.fits)
  have HV := Lib.hid hv
  obtain ⟨a, b, c, rfl, -⟩ := hv
  have T := Lib.hid hT
  have W := Lib.hid (Below.refl w.heap.size w)
  clear hT
  go_enter Tryd.func4, Tryd.ntmps4
  go_wp2_with fail
  have bq : Box (w.alloc (.cells #[a, b, c] 25)) w.heap.size 25 #[a, b, c] := Box.new _ _ _
  have hgq := World.grownBy_alloc w (.cells #[a, b, c] 25) none
  have T := Lib.hid (T.out.on (below_of_grown hgq))
  have W := Lib.hid (W.out.trans ((below_of_grown hgq).mono W.out.size))
  generalize (w.alloc (.cells #[a, b, c] 25)) = w1 at bq T W ⊢
  generalize w.heap.size = qg at bq ⊢
  have BQg := Lib.hid bq
  clear bq hgq
  refine (shown_any _ T.out).mono ?_
  rintro e w2 ⟨rfl, hb⟩
  have BQg := Lib.hid (BQg.out.keep (grown_of_below hb none))
  have W := Lib.hid (W.out.trans (hb.mono W.out.size))
  clear hb T
  go_upto_region 2 with (fail)
  have bb := BQg.out
  have pc0 : w2.cell? ⟨qg, 0, none⟩ = some a := bb.cell 0 _ rfl
  have pc1 : w2.cell? ⟨qg, 1, none⟩ = some b := bb.cell 1 _ rfl
  have pc2 : w2.cell? ⟨qg, 2, none⟩ = some c := bb.cell 2 _ rfl
  clear bb
  go_wp2_with fail
  have SnW := Lib.hid W.out.size
  refine (rcopy_any g _ _ (HV.out.on W.out)).mono ?_
  rintro e w3 ⟨nav, nbv, ncv, nL, rfl, ho, hb⟩
  obtain ⟨na, nka, nb, nkb, nc, nkc, rfl, rfl, rfl⟩ := ho.forms
  have BQg := Lib.hid (BQg.out.keep (grown_of_below hb none))
  have W := Lib.hid (W.out.trans (hb.mono W.out.size))
  have Dn := Lib.hid hb.size
  have On1 := Lib.hid ho
  have On := Lib.hid ho
  have Wn := Lib.hid (Below.refl w3.heap.size w3)
  have GHn := Lib.hid (ho.game hf.out)
  clear ho hb pc0 pc1 pc2
  go_upto_region 3 with (fail)
  have bq : Box (w3.alloc (.cells #[.slice na g.owner.length nka, .slice nb g.prio.length nkb, .slice nc g.moves.length nkc] 25)) w3.heap.size 25 #[.slice na g.owner.length nka, .slice nb g.prio.length nkb, .slice nc g.moves.length nkc] := Box.new _ _ _
  have hgq := World.grownBy_alloc w3 (.cells #[.slice na g.owner.length nka, .slice nb g.prio.length nkb, .slice nc g.moves.length nkc] 25) none
  have BQg := Lib.hid (BQg.out.keep hgq)
  have W := Lib.hid (W.out.trans ((below_of_grown hgq).mono W.out.size))
  have On := Lib.hid (On.out.grown hgq)
  have Wn := Lib.hid (Wn.out.trans ((below_of_grown hgq).mono Wn.out.size))
  generalize (w3.alloc (.cells #[.slice na g.owner.length nka, .slice nb g.prio.length nkb, .slice nc g.moves.length nkc] 25)) = w4 at bq BQg W On Wn ⊢
  generalize w3.heap.size = qn at bq ⊢
  have BQn := Lib.hid bq
  clear bq hgq
  have bb := BQg.out
  have pc0 : w4.cell? ⟨qg, 0, none⟩ = some a := bb.cell 0 _ rfl
  have pc1 : w4.cell? ⟨qg, 1, none⟩ = some b := bb.cell 1 _ rfl
  have pc2 : w4.cell? ⟨qg, 2, none⟩ = some c := bb.cell 2 _ rfl
  clear bb
  go_wp2_with fail
  have SxW := Lib.hid W.out.size
  have SxWn := Lib.hid Wn.out.size
  refine (copy_any g _ _ (HV.out.on W.out)).mono ?_
  rintro e w5 ⟨xav, xbv, xcv, xL, rfl, ho, hb⟩
  obtain ⟨xa, xka, xb, xkb, xc, xkc, rfl, rfl, rfl⟩ := ho.forms
  have BQg := Lib.hid (BQg.out.keep (grown_of_below hb none))
  have W := Lib.hid (W.out.trans (hb.mono W.out.size))
  have BQn := Lib.hid (BQn.out.keep (grown_of_below hb none))
  have On := Lib.hid (On.out.grown (grown_of_below hb none))
  have Wn := Lib.hid (Wn.out.trans (hb.mono Wn.out.size))
  have Dx := Lib.hid hb.size
  have Ox1 := Lib.hid ho
  have Ox := Lib.hid ho
  have Wx := Lib.hid (Below.refl w5.heap.size w5)
  clear ho hb pc0 pc1 pc2
  go_upto_region 4 with (fail)
  have bq : Box (w5.alloc (.cells #[.slice xa g.owner.length xka, .slice xb g.prio.length xkb, .slice xc g.moves.length xkc] 25)) w5.heap.size 25 #[.slice xa g.owner.length xka, .slice xb g.prio.length xkb, .slice xc g.moves.length xkc] := Box.new _ _ _
  have hgq := World.grownBy_alloc w5 (.cells #[.slice xa g.owner.length xka, .slice xb g.prio.length xkb, .slice xc g.moves.length xkc] 25) none
  have BQg := Lib.hid (BQg.out.keep hgq)
  have W := Lib.hid (W.out.trans ((below_of_grown hgq).mono W.out.size))
  have BQn := Lib.hid (BQn.out.keep hgq)
  have On := Lib.hid (On.out.grown hgq)
  have Wn := Lib.hid (Wn.out.trans ((below_of_grown hgq).mono Wn.out.size))
  have Ox := Lib.hid (Ox.out.grown hgq)
  have Wx := Lib.hid (Wx.out.trans ((below_of_grown hgq).mono Wx.out.size))
  generalize (w5.alloc (.cells #[.slice xa g.owner.length xka, .slice xb g.prio.length xkb, .slice xc g.moves.length xkc] 25)) = w6 at bq BQg W BQn On Wn Ox Wx ⊢
  generalize w5.heap.size = qx at bq ⊢
  have BQx := Lib.hid bq
  clear bq hgq
  have bb := BQg.out
  have pc0 : w6.cell? ⟨qg, 0, none⟩ = some a := bb.cell 0 _ rfl
  have pc1 : w6.cell? ⟨qg, 1, none⟩ = some b := bb.cell 1 _ rfl
  have pc2 : w6.cell? ⟨qg, 2, none⟩ = some c := bb.cell 2 _ rfl
  clear bb
  go_wp2_with fail
  have SyW := Lib.hid W.out.size
  have SyWn := Lib.hid Wn.out.size
  have SyWx := Lib.hid Wx.out.size
  refine (dual_any g _ _ (HV.out.on W.out)).mono ?_
  rintro e w7 ⟨yav, ybv, ycv, yL, rfl, ho, hb⟩
  obtain ⟨ya, yka, yb, ykb, yc, ykc, rfl, rfl, rfl⟩ := ho.forms
  have BQg := Lib.hid (BQg.out.keep (grown_of_below hb none))
  have W := Lib.hid (W.out.trans (hb.mono W.out.size))
  have BQn := Lib.hid (BQn.out.keep (grown_of_below hb none))
  have On := Lib.hid (On.out.grown (grown_of_below hb none))
  have Wn := Lib.hid (Wn.out.trans (hb.mono Wn.out.size))
  have BQx := Lib.hid (BQx.out.keep (grown_of_below hb none))
  have Ox := Lib.hid (Ox.out.grown (grown_of_below hb none))
  have Wx := Lib.hid (Wx.out.trans (hb.mono Wx.out.size))
  have Dy := Lib.hid hb.size
  have Oy1 := Lib.hid ho
  have Oy := Lib.hid ho
  have Wy := Lib.hid (Below.refl w7.heap.size w7)
  clear ho hb pc0 pc1 pc2
  go_upto_region 5 with (fail)
  have bq : Box (w7.alloc (.cells #[.slice ya g.dual.owner.length yka, .slice yb g.dual.prio.length ykb, .slice yc g.dual.moves.length ykc] 25)) w7.heap.size 25 #[.slice ya g.dual.owner.length yka, .slice yb g.dual.prio.length ykb, .slice yc g.dual.moves.length ykc] := Box.new _ _ _
  have hgq := World.grownBy_alloc w7 (.cells #[.slice ya g.dual.owner.length yka, .slice yb g.dual.prio.length ykb, .slice yc g.dual.moves.length ykc] 25) none
  have BQg := Lib.hid (BQg.out.keep hgq)
  have W := Lib.hid (W.out.trans ((below_of_grown hgq).mono W.out.size))
  have BQn := Lib.hid (BQn.out.keep hgq)
  have On := Lib.hid (On.out.grown hgq)
  have Wn := Lib.hid (Wn.out.trans ((below_of_grown hgq).mono Wn.out.size))
  have BQx := Lib.hid (BQx.out.keep hgq)
  have Ox := Lib.hid (Ox.out.grown hgq)
  have Wx := Lib.hid (Wx.out.trans ((below_of_grown hgq).mono Wx.out.size))
  have Oy := Lib.hid (Oy.out.grown hgq)
  have Wy := Lib.hid (Wy.out.trans ((below_of_grown hgq).mono Wy.out.size))
  generalize (w7.alloc (.cells #[.slice ya g.dual.owner.length yka, .slice yb g.dual.prio.length ykb, .slice yc g.dual.moves.length ykc] 25)) = w8 at bq BQg W BQn On Wn BQx Ox Wx Oy Wy ⊢
  generalize w7.heap.size = qy at bq ⊢
  have BQy := Lib.hid bq
  clear bq hgq
  have bb := BQg.out
  have pc0 : w8.cell? ⟨qg, 0, none⟩ = some a := bb.cell 0 _ rfl
  have pc1 : w8.cell? ⟨qg, 1, none⟩ = some b := bb.cell 1 _ rfl
  have pc2 : w8.cell? ⟨qg, 2, none⟩ = some c := bb.cell 2 _ rfl
  clear bb
  go_wp2_with fail
  have SzW := Lib.hid W.out.size
  have SzWn := Lib.hid Wn.out.size
  have SzWx := Lib.hid Wx.out.size
  have SzWy := Lib.hid Wy.out.size
  refine (copy_any g _ _ (HV.out.on W.out)).mono ?_
  rintro e w9 ⟨zav, zbv, zcv, zL, rfl, ho, hb⟩
  obtain ⟨za, zka, zb, zkb, zc, zkc, rfl, rfl, rfl⟩ := ho.forms
  have BQg := Lib.hid (BQg.out.keep (grown_of_below hb none))
  have W := Lib.hid (W.out.trans (hb.mono W.out.size))
  have BQn := Lib.hid (BQn.out.keep (grown_of_below hb none))
  have On := Lib.hid (On.out.grown (grown_of_below hb none))
  have Wn := Lib.hid (Wn.out.trans (hb.mono Wn.out.size))
  have BQx := Lib.hid (BQx.out.keep (grown_of_below hb none))
  have Ox := Lib.hid (Ox.out.grown (grown_of_below hb none))
  have Wx := Lib.hid (Wx.out.trans (hb.mono Wx.out.size))
  have BQy := Lib.hid (BQy.out.keep (grown_of_below hb none))
  have Oy := Lib.hid (Oy.out.grown (grown_of_below hb none))
  have Wy := Lib.hid (Wy.out.trans (hb.mono Wy.out.size))
  have Dz := Lib.hid hb.size
  have Oz1 := Lib.hid ho
  have Oz := Lib.hid ho
  have Wz := Lib.hid (Below.refl w9.heap.size w9)
  clear ho hb pc0 pc1 pc2
  go_upto_region 6 with (fail)
  have bq : Box (w9.alloc (.cells #[.slice za g.owner.length zka, .slice zb g.prio.length zkb, .slice zc g.moves.length zkc] 25)) w9.heap.size 25 #[.slice za g.owner.length zka, .slice zb g.prio.length zkb, .slice zc g.moves.length zkc] := Box.new _ _ _
  have hgq := World.grownBy_alloc w9 (.cells #[.slice za g.owner.length zka, .slice zb g.prio.length zkb, .slice zc g.moves.length zkc] 25) none
  have BQg := Lib.hid (BQg.out.keep hgq)
  have W := Lib.hid (W.out.trans ((below_of_grown hgq).mono W.out.size))
  have BQn := Lib.hid (BQn.out.keep hgq)
  have On := Lib.hid (On.out.grown hgq)
  have Wn := Lib.hid (Wn.out.trans ((below_of_grown hgq).mono Wn.out.size))
  have BQx := Lib.hid (BQx.out.keep hgq)
  have Ox := Lib.hid (Ox.out.grown hgq)
  have Wx := Lib.hid (Wx.out.trans ((below_of_grown hgq).mono Wx.out.size))
  have BQy := Lib.hid (BQy.out.keep hgq)
  have Oy := Lib.hid (Oy.out.grown hgq)
  have Wy := Lib.hid (Wy.out.trans ((below_of_grown hgq).mono Wy.out.size))
  have Oz := Lib.hid (Oz.out.grown hgq)
  have Wz := Lib.hid (Wz.out.trans ((below_of_grown hgq).mono Wz.out.size))
  generalize (w9.alloc (.cells #[.slice za g.owner.length zka, .slice zb g.prio.length zkb, .slice zc g.moves.length zkc] 25)) = w10 at bq BQg W BQn On Wn BQx Ox Wx BQy Oy Wy Oz Wz ⊢
  generalize w9.heap.size = qz at bq ⊢
  have BQz := Lib.hid bq
  clear bq hgq
  have bb := BQg.out
  have pc0 : w10.cell? ⟨qg, 0, none⟩ = some a := bb.cell 0 _ rfl
  have pc1 : w10.cell? ⟨qg, 1, none⟩ = some b := bb.cell 1 _ rfl
  have pc2 : w10.cell? ⟨qg, 2, none⟩ = some c := bb.cell 2 _ rfl
  clear bb
  go_wp2_with fail
  have SuW := Lib.hid W.out.size
  have SuWn := Lib.hid Wn.out.size
  have SuWx := Lib.hid Wx.out.size
  have SuWy := Lib.hid Wy.out.size
  have SuWz := Lib.hid Wz.out.size
  refine (dual_any g _ _ (HV.out.on W.out)).mono ?_
  rintro e w11 ⟨uav, ubv, ucv, uL, rfl, ho, hb⟩
  obtain ⟨ua, uka, ub, ukb, uc, ukc, rfl, rfl, rfl⟩ := ho.forms
  have BQg := Lib.hid (BQg.out.keep (grown_of_below hb none))
  have W := Lib.hid (W.out.trans (hb.mono W.out.size))
  have BQn := Lib.hid (BQn.out.keep (grown_of_below hb none))
  have On := Lib.hid (On.out.grown (grown_of_below hb none))
  have Wn := Lib.hid (Wn.out.trans (hb.mono Wn.out.size))
  have BQx := Lib.hid (BQx.out.keep (grown_of_below hb none))
  have Ox := Lib.hid (Ox.out.grown (grown_of_below hb none))
  have Wx := Lib.hid (Wx.out.trans (hb.mono Wx.out.size))
  have BQy := Lib.hid (BQy.out.keep (grown_of_below hb none))
  have Oy := Lib.hid (Oy.out.grown (grown_of_below hb none))
  have Wy := Lib.hid (Wy.out.trans (hb.mono Wy.out.size))
  have BQz := Lib.hid (BQz.out.keep (grown_of_below hb none))
  have Oz := Lib.hid (Oz.out.grown (grown_of_below hb none))
  have Wz := Lib.hid (Wz.out.trans (hb.mono Wz.out.size))
  have Du := Lib.hid hb.size
  have Ou1 := Lib.hid ho
  have Ou := Lib.hid ho
  have Wu := Lib.hid (Below.refl w11.heap.size w11)
  clear ho hb pc0 pc1 pc2
  go_upto_region 7 with (fail)
  have bq : Box (w11.alloc (.cells #[.slice ua g.dual.owner.length uka, .slice ub g.dual.prio.length ukb, .slice uc g.dual.moves.length ukc] 25)) w11.heap.size 25 #[.slice ua g.dual.owner.length uka, .slice ub g.dual.prio.length ukb, .slice uc g.dual.moves.length ukc] := Box.new _ _ _
  have hgq := World.grownBy_alloc w11 (.cells #[.slice ua g.dual.owner.length uka, .slice ub g.dual.prio.length ukb, .slice uc g.dual.moves.length ukc] 25) none
  have BQg := Lib.hid (BQg.out.keep hgq)
  have W := Lib.hid (W.out.trans ((below_of_grown hgq).mono W.out.size))
  have BQn := Lib.hid (BQn.out.keep hgq)
  have On := Lib.hid (On.out.grown hgq)
  have Wn := Lib.hid (Wn.out.trans ((below_of_grown hgq).mono Wn.out.size))
  have BQx := Lib.hid (BQx.out.keep hgq)
  have Ox := Lib.hid (Ox.out.grown hgq)
  have Wx := Lib.hid (Wx.out.trans ((below_of_grown hgq).mono Wx.out.size))
  have BQy := Lib.hid (BQy.out.keep hgq)
  have Oy := Lib.hid (Oy.out.grown hgq)
  have Wy := Lib.hid (Wy.out.trans ((below_of_grown hgq).mono Wy.out.size))
  have BQz := Lib.hid (BQz.out.keep hgq)
  have Oz := Lib.hid (Oz.out.grown hgq)
  have Wz := Lib.hid (Wz.out.trans ((below_of_grown hgq).mono Wz.out.size))
  have Ou := Lib.hid (Ou.out.grown hgq)
  have Wu := Lib.hid (Wu.out.trans ((below_of_grown hgq).mono Wu.out.size))
  generalize (w11.alloc (.cells #[.slice ua g.dual.owner.length uka, .slice ub g.dual.prio.length ukb, .slice uc g.dual.moves.length ukc] 25)) = w12 at bq BQg W BQn On Wn BQx Ox Wx BQy Oy Wy BQz Oz Wz Ou Wu ⊢
  generalize w11.heap.size = qu at bq ⊢
  have BQu := Lib.hid bq
  clear bq hgq
  have bb := BQn.out
  have pc0 : w12.cell? ⟨qn, 0, none⟩ = some (.slice na g.owner.length nka) := bb.cell 0 _ rfl
  have pc1 : w12.cell? ⟨qn, 1, none⟩ = some (.slice nb g.prio.length nkb) := bb.cell 1 _ rfl
  have pc2 : w12.cell? ⟨qn, 2, none⟩ = some (.slice nc g.moves.length nkc) := bb.cell 2 _ rfl
  clear bb
  go_wp2_with fail
  have SsW := Lib.hid W.out.size
  have SsWn := Lib.hid Wn.out.size
  have SsWx := Lib.hid Wx.out.size
  have SsWy := Lib.hid Wy.out.size
  have SsWz := Lib.hid Wz.out.size
  have SsWu := Lib.hid Wu.out.size
  refine (rdual_any g _ _ (GHn.out.on Wn.out)).mono ?_
  rintro e w13 ⟨sav, sbv, scv, sL, rfl, ho, hb⟩
  obtain ⟨sa, ska, sb, skb, sc, skc, rfl, rfl, rfl⟩ := ho.forms
  have BQg := Lib.hid (BQg.out.keep (grown_of_below hb none))
  have W := Lib.hid (W.out.trans (hb.mono W.out.size))
  have BQn := Lib.hid (BQn.out.keep (grown_of_below hb none))
  have On := Lib.hid (On.out.grown (grown_of_below hb none))
  have Wn := Lib.hid (Wn.out.trans (hb.mono Wn.out.size))
  have BQx := Lib.hid (BQx.out.keep (grown_of_below hb none))
  have Ox := Lib.hid (Ox.out.grown (grown_of_below hb none))
  have Wx := Lib.hid (Wx.out.trans (hb.mono Wx.out.size))
  have BQy := Lib.hid (BQy.out.keep (grown_of_below hb none))
  have Oy := Lib.hid (Oy.out.grown (grown_of_below hb none))
  have Wy := Lib.hid (Wy.out.trans (hb.mono Wy.out.size))
  have BQz := Lib.hid (BQz.out.keep (grown_of_below hb none))
  have Oz := Lib.hid (Oz.out.grown (grown_of_below hb none))
  have Wz := Lib.hid (Wz.out.trans (hb.mono Wz.out.size))
  have BQu := Lib.hid (BQu.out.keep (grown_of_below hb none))
  have Ou := Lib.hid (Ou.out.grown (grown_of_below hb none))
  have Wu := Lib.hid (Wu.out.trans (hb.mono Wu.out.size))
  have Ds := Lib.hid hb.size
  have Os1 := Lib.hid ho
  have Os := Lib.hid ho
  have Ws := Lib.hid (Below.refl w13.heap.size w13)
  clear ho hb pc0 pc1 pc2
  go_upto_region 8 with (fail)
  have bq : Box (w13.alloc (.cells #[.slice sa g.dual.owner.length ska, .slice sb g.dual.prio.length skb, .slice sc g.dual.moves.length skc] 25)) w13.heap.size 25 #[.slice sa g.dual.owner.length ska, .slice sb g.dual.prio.length skb, .slice sc g.dual.moves.length skc] := Box.new _ _ _
  have hgq := World.grownBy_alloc w13 (.cells #[.slice sa g.dual.owner.length ska, .slice sb g.dual.prio.length skb, .slice sc g.dual.moves.length skc] 25) none
  have BQg := Lib.hid (BQg.out.keep hgq)
  have W := Lib.hid (W.out.trans ((below_of_grown hgq).mono W.out.size))
  have BQn := Lib.hid (BQn.out.keep hgq)
  have On := Lib.hid (On.out.grown hgq)
  have Wn := Lib.hid (Wn.out.trans ((below_of_grown hgq).mono Wn.out.size))
  have BQx := Lib.hid (BQx.out.keep hgq)
  have Ox := Lib.hid (Ox.out.grown hgq)
  have Wx := Lib.hid (Wx.out.trans ((below_of_grown hgq).mono Wx.out.size))
  have BQy := Lib.hid (BQy.out.keep hgq)
  have Oy := Lib.hid (Oy.out.grown hgq)
  have Wy := Lib.hid (Wy.out.trans ((below_of_grown hgq).mono Wy.out.size))
  have BQz := Lib.hid (BQz.out.keep hgq)
  have Oz := Lib.hid (Oz.out.grown hgq)
  have Wz := Lib.hid (Wz.out.trans ((below_of_grown hgq).mono Wz.out.size))
  have BQu := Lib.hid (BQu.out.keep hgq)
  have Ou := Lib.hid (Ou.out.grown hgq)
  have Wu := Lib.hid (Wu.out.trans ((below_of_grown hgq).mono Wu.out.size))
  have Os := Lib.hid (Os.out.grown hgq)
  have Ws := Lib.hid (Ws.out.trans ((below_of_grown hgq).mono Ws.out.size))
  generalize (w13.alloc (.cells #[.slice sa g.dual.owner.length ska, .slice sb g.dual.prio.length skb, .slice sc g.dual.moves.length skc] 25)) = w14 at bq BQg W BQn On Wn BQx Ox Wx BQy Oy Wy BQz Oz Wz BQu Ou Wu Os Ws ⊢
  generalize w13.heap.size = qs at bq ⊢
  have BQs := Lib.hid bq
  clear bq hgq
  have bb := BQx.out
  have pc0 : w14.cell? ⟨qx, 0, none⟩ = some (.slice xa g.owner.length xka) := bb.cell 0 _ rfl
  have pc1 : w14.cell? ⟨qx, 1, none⟩ = some (.slice xb g.prio.length xkb) := bb.cell 1 _ rfl
  have pc2 : w14.cell? ⟨qx, 2, none⟩ = some (.slice xc g.moves.length xkc) := bb.cell 2 _ rfl
  clear bb
  have bb := BQn.out
  have qc0 : w14.cell? ⟨qn, 0, none⟩ = some (.slice na g.owner.length nka) := bb.cell 0 _ rfl
  have qc1 : w14.cell? ⟨qn, 1, none⟩ = some (.slice nb g.prio.length nkb) := bb.cell 1 _ rfl
  have qc2 : w14.cell? ⟨qn, 2, none⟩ = some (.slice nc g.moves.length nkc) := bb.cell 2 _ rfl
  clear bb
  go_wp2_with fail
  refine (samegame_any g g _ _ _ (Ox.out.game hf.out) (GHn.out.on Wn.out)).mono ?_
  rintro e w15 ⟨rfl, hb⟩
  rw [decide_eq_true rfl]
  have W := Lib.hid (W.out.trans (hb.mono W.out.size))
  have Wn := Lib.hid (Wn.out.trans (hb.mono Wn.out.size))
  have Wx := Lib.hid (Wx.out.trans (hb.mono Wx.out.size))
  have Wy := Lib.hid (Wy.out.trans (hb.mono Wy.out.size))
  have BQg := Lib.hid (BQg.out.keep (grown_of_below hb none))
  have BQn := Lib.hid (BQn.out.keep (grown_of_below hb none))
  have BQx := Lib.hid (BQx.out.keep (grown_of_below hb none))
  have BQy := Lib.hid (BQy.out.keep (grown_of_below hb none))
  have BQz := Lib.hid (BQz.out.keep (grown_of_below hb none))
  have BQu := Lib.hid (BQu.out.keep (grown_of_below hb none))
  have BQs := Lib.hid (BQs.out.keep (grown_of_below hb none))
  have Ox := Lib.hid (Ox.out.grown (grown_of_below hb none))
  have Oy := Lib.hid (Oy.out.grown (grown_of_below hb none))
  have Oz := Lib.hid (Oz.out.grown (grown_of_below hb none))
  have Ou := Lib.hid (Ou.out.grown (grown_of_below hb none))
  have Os := Lib.hid (Os.out.grown (grown_of_below hb none))
  clear hb pc0 pc1 pc2 qc0 qc1 qc2
  have bb := BQy.out
  have pc0 : w15.cell? ⟨qy, 0, none⟩ = some (.slice ya g.dual.owner.length yka) := bb.cell 0 _ rfl
  have pc1 : w15.cell? ⟨qy, 1, none⟩ = some (.slice yb g.dual.prio.length ykb) := bb.cell 1 _ rfl
  have pc2 : w15.cell? ⟨qy, 2, none⟩ = some (.slice yc g.dual.moves.length ykc) := bb.cell 2 _ rfl
  clear bb
  have bb := BQs.out
  have qc0 : w15.cell? ⟨qs, 0, none⟩ = some (.slice sa g.dual.owner.length ska) := bb.cell 0 _ rfl
  have qc1 : w15.cell? ⟨qs, 1, none⟩ = some (.slice sb g.dual.prio.length skb) := bb.cell 1 _ rfl
  have qc2 : w15.cell? ⟨qs, 2, none⟩ = some (.slice sc g.dual.moves.length skc) := bb.cell 2 _ rfl
  clear bb
  go_wp2_with fail
  refine (samegame_any g.dual g.dual _ _ _ (Oy.out.game hfd.out) (Os.out.game hfd.out)).mono ?_
  rintro e w16 ⟨rfl, hb⟩
  rw [decide_eq_true rfl]
  have W := Lib.hid (W.out.trans (hb.mono W.out.size))
  have Wn := Lib.hid (Wn.out.trans (hb.mono Wn.out.size))
  have Wx := Lib.hid (Wx.out.trans (hb.mono Wx.out.size))
  have Wy := Lib.hid (Wy.out.trans (hb.mono Wy.out.size))
  have BQg := Lib.hid (BQg.out.keep (grown_of_below hb none))
  have BQn := Lib.hid (BQn.out.keep (grown_of_below hb none))
  have BQx := Lib.hid (BQx.out.keep (grown_of_below hb none))
  have BQy := Lib.hid (BQy.out.keep (grown_of_below hb none))
  have BQz := Lib.hid (BQz.out.keep (grown_of_below hb none))
  have BQu := Lib.hid (BQu.out.keep (grown_of_below hb none))
  have BQs := Lib.hid (BQs.out.keep (grown_of_below hb none))
  have Ox := Lib.hid (Ox.out.grown (grown_of_below hb none))
  have Oy := Lib.hid (Oy.out.grown (grown_of_below hb none))
  have Oz := Lib.hid (Oz.out.grown (grown_of_below hb none))
  have Ou := Lib.hid (Ou.out.grown (grown_of_below hb none))
  have Os := Lib.hid (Os.out.grown (grown_of_below hb none))
  clear hb pc0 pc1 pc2 qc0 qc1 qc2
  have hlo : w4.heap.size ≤ w16.heap.size := Nat.le_trans Dx.out Wx.out.size
  have HLO := Lib.hid hlo
  have sh := Lib.hid (OwnG.sh (N := w16.heap.size) Ox1.out Ox.out rfl hf.out)
  have Y16 := Lib.hid Wy.out.size
  clear hlo
  have bb := BQx.out
  have pc0 : w16.cell? ⟨qx, 0, none⟩ = some (.slice xa g.owner.length xka) := bb.cell 0 _ rfl
  have pc1 : w16.cell? ⟨qx, 1, none⟩ = some (.slice xb g.prio.length xkb) := bb.cell 1 _ rfl
  have pc2 : w16.cell? ⟨qx, 2, none⟩ = some (.slice xc g.moves.length xkc) := bb.cell 2 _ rfl
  clear bb
  go_wp2_with fail
  refine (fill_any w4.heap.size w5.heap.size w16.heap.size _ _ _ _ _ _ w16 sh.out hf.out.1 hf.out.2.1 hf.out.2.2.1 rfl HLO.out).mono ?_
  rintro e w17 ⟨rfl, hk⟩
  have W := Lib.hid (W.out.trans ((k0_below hk HLO.out).mono SxW.out))
  have Wn := Lib.hid (Wn.out.trans ((k0_below hk HLO.out).mono SxWn.out))
  have BQg := Lib.hid (BQg.out.k0 hk (by decide) (by decide))
  have BQn := Lib.hid (BQn.out.k0 hk (by decide) (by decide))
  have BQx := Lib.hid (BQx.out.k0 hk (by decide) (by decide))
  have BQy := Lib.hid (BQy.out.k0 hk (by decide) (by decide))
  have BQz := Lib.hid (BQz.out.k0 hk (by decide) (by decide))
  have BQu := Lib.hid (BQu.out.k0 hk (by decide) (by decide))
  have BQs := Lib.hid (BQs.out.k0 hk (by decide) (by decide))
  have Oy := Lib.hid (Oy.out.past0 hk SyWx.out rfl)
  have Oz := Lib.hid (Oz.out.past0 hk SzWx.out rfl)
  have Ou := Lib.hid (Ou.out.past0 hk SuWx.out rfl)
  have Os := Lib.hid (Os.out.past0 hk SsWx.out rfl)
  have hks := Lib.hid hk.size
  clear hk pc0 pc1 pc2
  have hlo : w6.heap.size ≤ w17.heap.size := Nat.le_trans Dy.out (Nat.le_trans Y16.out hks.out)
  have HLO := Lib.hid hlo
  have sh := Lib.hid (OwnG.sh (N := w17.heap.size) Oy1.out Oy.out rfl hfd.out)
  clear hlo
  have bb := BQy.out
  have pc0 : w17.cell? ⟨qy, 0, none⟩ = some (.slice ya g.dual.owner.length yka) := bb.cell 0 _ rfl
  have pc1 : w17.cell? ⟨qy, 1, none⟩ = some (.slice yb g.dual.prio.length ykb) := bb.cell 1 _ rfl
  have pc2 : w17.cell? ⟨qy, 2, none⟩ = some (.slice yc g.dual.moves.length ykc) := bb.cell 2 _ rfl
  clear bb
  go_wp2_with fail
  refine (fill_any w6.heap.size w7.heap.size w17.heap.size _ _ _ _ _ _ w17 sh.out hfd.out.1 hfd.out.2.1 hfd.out.2.2.1 rfl HLO.out).mono ?_
  rintro e w18 ⟨rfl, hk⟩
  have W := Lib.hid (W.out.trans ((k0_below hk HLO.out).mono SyW.out))
  have Wn := Lib.hid (Wn.out.trans ((k0_below hk HLO.out).mono SyWn.out))
  have BQg := Lib.hid (BQg.out.k0 hk (by decide) (by decide))
  have BQn := Lib.hid (BQn.out.k0 hk (by decide) (by decide))
  have BQx := Lib.hid (BQx.out.k0 hk (by decide) (by decide))
  have BQy := Lib.hid (BQy.out.k0 hk (by decide) (by decide))
  have BQz := Lib.hid (BQz.out.k0 hk (by decide) (by decide))
  have BQu := Lib.hid (BQu.out.k0 hk (by decide) (by decide))
  have BQs := Lib.hid (BQs.out.k0 hk (by decide) (by decide))
  have Oz := Lib.hid (Oz.out.past0 hk SzWy.out rfl)
  have Ou := Lib.hid (Ou.out.past0 hk SuWy.out rfl)
  have Os := Lib.hid (Os.out.past0 hk SsWy.out rfl)
  have hks := Lib.hid hk.size
  clear hk pc0 pc1 pc2
  have bb := BQg.out
  have pc0 : w18.cell? ⟨qg, 0, none⟩ = some a := bb.cell 0 _ rfl
  have pc1 : w18.cell? ⟨qg, 1, none⟩ = some b := bb.cell 1 _ rfl
  have pc2 : w18.cell? ⟨qg, 2, none⟩ = some c := bb.cell 2 _ rfl
  clear bb
  have bb := BQn.out
  have qc0 : w18.cell? ⟨qn, 0, none⟩ = some (.slice na g.owner.length nka) := bb.cell 0 _ rfl
  have qc1 : w18.cell? ⟨qn, 1, none⟩ = some (.slice nb g.prio.length nkb) := bb.cell 1 _ rfl
  have qc2 : w18.cell? ⟨qn, 2, none⟩ = some (.slice nc g.moves.length nkc) := bb.cell 2 _ rfl
  clear bb
  go_wp2_with fail
  refine (samegame_any g g _ _ _ (HV.out.on W.out) (GHn.out.on Wn.out)).mono ?_
  rintro e w19 ⟨rfl, hb⟩
  rw [decide_eq_true rfl]
  have W := Lib.hid (W.out.trans (hb.mono W.out.size))
  have Wn := Lib.hid (Wn.out.trans (hb.mono Wn.out.size))
  have BQg := Lib.hid (BQg.out.keep (grown_of_below hb none))
  have BQn := Lib.hid (BQn.out.keep (grown_of_below hb none))
  have BQz := Lib.hid (BQz.out.keep (grown_of_below hb none))
  have BQu := Lib.hid (BQu.out.keep (grown_of_below hb none))
  have BQs := Lib.hid (BQs.out.keep (grown_of_below hb none))
  have Oz := Lib.hid (Oz.out.grown (grown_of_below hb none))
  have Ou := Lib.hid (Ou.out.grown (grown_of_below hb none))
  have Os := Lib.hid (Os.out.grown (grown_of_below hb none))
  clear hb pc0 pc1 pc2 qc0 qc1 qc2
  have bb := BQz.out
  have pc0 : w19.cell? ⟨qz, 0, none⟩ = some (.slice za g.owner.length zka) := bb.cell 0 _ rfl
  have pc1 : w19.cell? ⟨qz, 1, none⟩ = some (.slice zb g.prio.length zkb) := bb.cell 1 _ rfl
  have pc2 : w19.cell? ⟨qz, 2, none⟩ = some (.slice zc g.moves.length zkc) := bb.cell 2 _ rfl
  clear bb
  have bb := BQn.out
  have qc0 : w19.cell? ⟨qn, 0, none⟩ = some (.slice na g.owner.length nka) := bb.cell 0 _ rfl
  have qc1 : w19.cell? ⟨qn, 1, none⟩ = some (.slice nb g.prio.length nkb) := bb.cell 1 _ rfl
  have qc2 : w19.cell? ⟨qn, 2, none⟩ = some (.slice nc g.moves.length nkc) := bb.cell 2 _ rfl
  clear bb
  go_wp2_with fail
  refine (samegame_any g g _ _ _ (Oz.out.game hf.out) (GHn.out.on Wn.out)).mono ?_
  rintro e w20 ⟨rfl, hb⟩
  rw [decide_eq_true rfl]
  have W := Lib.hid (W.out.trans (hb.mono W.out.size))
  have Wn := Lib.hid (Wn.out.trans (hb.mono Wn.out.size))
  have BQg := Lib.hid (BQg.out.keep (grown_of_below hb none))
  have BQn := Lib.hid (BQn.out.keep (grown_of_below hb none))
  have BQz := Lib.hid (BQz.out.keep (grown_of_below hb none))
  have BQu := Lib.hid (BQu.out.keep (grown_of_below hb none))
  have BQs := Lib.hid (BQs.out.keep (grown_of_below hb none))
  have Oz := Lib.hid (Oz.out.grown (grown_of_below hb none))
  have Ou := Lib.hid (Ou.out.grown (grown_of_below hb none))
  have Os := Lib.hid (Os.out.grown (grown_of_below hb none))
  clear hb pc0 pc1 pc2 qc0 qc1 qc2
  have bb := BQu.out
  have pc0 : w20.cell? ⟨qu, 0, none⟩ = some (.slice ua g.dual.owner.length uka) := bb.cell 0 _ rfl
  have pc1 : w20.cell? ⟨qu, 1, none⟩ = some (.slice ub g.dual.prio.length ukb) := bb.cell 1 _ rfl
  have pc2 : w20.cell? ⟨qu, 2, none⟩ = some (.slice uc g.dual.moves.length ukc) := bb.cell 2 _ rfl
  clear bb
  have bb := BQs.out
  have qc0 : w20.cell? ⟨qs, 0, none⟩ = some (.slice sa g.dual.owner.length ska) := bb.cell 0 _ rfl
  have qc1 : w20.cell? ⟨qs, 1, none⟩ = some (.slice sb g.dual.prio.length skb) := bb.cell 1 _ rfl
  have qc2 : w20.cell? ⟨qs, 2, none⟩ = some (.slice sc g.dual.moves.length skc) := bb.cell 2 _ rfl
  clear bb
  go_wp2_with fail
  refine (samegame_any g.dual g.dual _ _ _ (Ou.out.game hfd.out) (Os.out.game hfd.out)).mono ?_
  rintro e w21 ⟨rfl, hb⟩
  rw [decide_eq_true rfl]
  have W := Lib.hid (W.out.trans (hb.mono W.out.size))
  have Wn := Lib.hid (Wn.out.trans (hb.mono Wn.out.size))
  have BQg := Lib.hid (BQg.out.keep (grown_of_below hb none))
  have BQn := Lib.hid (BQn.out.keep (grown_of_below hb none))
  have BQz := Lib.hid (BQz.out.keep (grown_of_below hb none))
  have BQu := Lib.hid (BQu.out.keep (grown_of_below hb none))
  have BQs := Lib.hid (BQs.out.keep (grown_of_below hb none))
  have Oz := Lib.hid (Oz.out.grown (grown_of_below hb none))
  have Ou := Lib.hid (Ou.out.grown (grown_of_below hb none))
  have Os := Lib.hid (Os.out.grown (grown_of_below hb none))
  clear hb pc0 pc1 pc2 qc0 qc1 qc2
  go_wp2_with fail
  exact bodyPost_ret (v := .bool true) (by simp [results, Tryd.results4, go_sem]) rfl ⟨rfl, W.out⟩
end W
end Go.Proofs.YtlbikfimfaecnaaDoor
