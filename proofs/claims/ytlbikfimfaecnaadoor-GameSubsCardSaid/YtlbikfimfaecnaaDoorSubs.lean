/- GameSubs: the walk. -/
import Derived.Test.YtlbikfimfaecnaaDoorShown
import Derived.Test.YtlbikfimfaecnaaDoorSubW
import Derived.Test.YtlbikfimfaecnaaDoorFullS
import Derived.Test.YtlbikfimfaecnaaDoorRefFrom
import Derived.Test.YtlbikfimfaecnaaDoorRCopy
import Derived.Deep.Cut
import Derived.Deep.CutRange
import Derived.Laws.StructEq
namespace Go.Proofs.YtlbikfimfaecnaaDoor
open Go.RowKit Go.Sort
namespace W

/-- Numbers that may be written over. -/
def Wide (wr : World) (lo hi : Nat) (xo : Option Addr) (n : Nat) : Prop := n = 0 ∨ ∃ q cs, xo = some ⟨q, 0, none⟩ ∧ lo ≤ q ∧ q < hi ∧ n ≤ cs.size ∧ Box wr q 3 cs
theorem wide_of {w7 w11 w12 : World} {lo n k : Nat} {xo : Option Addr} {ol : List Int} (h1 : OwnI w7 lo (.slice xo n k) ol) (h : OwnI w11 lo (.slice xo n k) ol) (hs : Soft w11 w12) : Wide w12 lo w7.heap.size xo n := by
  have hn : n = ol.length := by
    obtain ⟨ao, cap, e, -⟩ := own_at h
    injection e
  rcases h.2 with ⟨_, h0⟩ | ⟨g, cap, cur, e, hb, hg, hnc, hcm, hcs, _⟩
  · exact .inl (by omega)
  · injection e with e1 e2 e3
    obtain ⟨cs', hsz, hb'⟩ := hs g cur hg
    refine .inr ⟨g, cs', e1, hb, ?_, by omega, hb'⟩
    exact (own_lt h1 g (by rw [e1]; rfl)).2
theorem k0_set {w : World} {lo hi N q : Nat} {cs : Array Value} (hb : Box w q 3 cs) (h1 : lo ≤ q) (h2 : q < hi) (j : Nat) (u : Value) : Rk.Keeps (K0 lo hi N) w (w.setCell ⟨q, j, none⟩ u) :=
  ⟨rfl, rfl, rfl, by simp [World.setCell], fun k o ho hk => by
    have hne : k ≠ q := fun e => by
      subst e
      rcases hk with hk | ⟨hk, _⟩ | hk
      · omega
      · omega
      · unfold Box at hb
        rw [ho] at hb
        injection hb with hb
        exact (hk cs (0, 0)).1 hb
    exact (Below.heap_setCell w ⟨q, j, none⟩ u k hne).trans ho⟩
structure InvS (w w3 w6 w7 w7b w8b : World) (g F : P.G) (s : BitVec 256) (ol : List Int) (qg qn qy qz : Nat) (AV NV YV ZV : Array Value) (xo yo zo : Option Addr) (yko zko : Nat) (yL zL : List Value) (wr : World) : Prop where
  wd_ : Wide wr w6.heap.size w7.heap.size xo ol.length
  bqg_ : Box wr qg 25 AV
  bqn_ : Box wr qn 25 NV
  bqy_ : Box wr qy 25 YV
  bqz_ : Box wr qz 25 ZV
  w_ : Below w.heap.size w wr
  wn_ : Below w3.heap.size w3 wr
  oy_ : OwnG wr w7b.heap.size (YV.getD 0 undef) (YV.getD 1 undef) (YV.getD 2 undef) yL F
  oz_ : OwnG wr w8b.heap.size (ZV.getD 0 undef) (ZV.getD 1 undef) (ZV.getD 2 undef) zL F
  jy_ : OwnI wr w7b.heap.size (.slice yo ol.length yko) ol
  jz_ : OwnI wr w8b.heap.size (.slice zo ol.length zko) ol
  hlo_ : w6.heap.size ≤ wr.heap.size
set_option maxRecDepth 100000 in
set_option maxHeartbeats 8000000 in
theorem subs_any (g : P.G) (s : BitVec 256) (v : Value) (w : World) (hv : GameV w v g) (hT : Tab w) : Calls Tryd.prog 5 #[v, .agg #[.int .u64 (P.wrd s 0), .int .u64 (P.wrd s 1), .int .u64 (P.wrd s 2), .int .u64 (P.wrd s 3)]] w fun e w' => e = .returned (.bool true) ∧ Below w.heap.size w w' := by
  have hf := Lib.hid hv.fits
  have hfw := fits_fw hv.fits s
  have hlw := len_olw g s
  obtain ⟨F, hF⟩ : ∃ F, FW g s = F := ⟨_, rfl⟩
  obtain ⟨ol, hol⟩ : ∃ ol, OLW g s = ol := ⟨_, rfl⟩
  obtain ⟨hs, hhs⟩ : ∃ b, g.has s = b := ⟨_, rfl⟩
  rw [hF] at hfw
  rw [hol] at hlw
  have HF := Lib.hid hF
  have HOLS := Lib.hid hol
  have HHS := Lib.hid hhs
  have hff := Lib.hid hfw
  have HV := Lib.hid hv
  obtain ⟨a, b, c, rfl, -⟩ := hv
  have T := Lib.hid hT
  clear hT hF hol hhs hfw
  go_enter Tryd.func5, Tryd.ntmps5
  go_wp2_with fail
  have b1q : Box ((w.alloc (.cells #[a, b, c] 25)).alloc (.cells #[.int .u64 (P.wrd s 0), .int .u64 (P.wrd s 1), .int .u64 (P.wrd s 2), .int .u64 (P.wrd s 3)] 35)) w.heap.size 25 #[a, b, c] := (Box.new w _ _).alloc _
  have b2q : Box ((w.alloc (.cells #[a, b, c] 25)).alloc (.cells #[.int .u64 (P.wrd s 0), .int .u64 (P.wrd s 1), .int .u64 (P.wrd s 2), .int .u64 (P.wrd s 3)] 35)) (w.heap.size + 1) 35 #[.int .u64 (P.wrd s 0), .int .u64 (P.wrd s 1), .int .u64 (P.wrd s 2), .int .u64 (P.wrd s 3)] := by
    have := Box.new (w.alloc (.cells #[a, b, c] 25)) 35 #[.int .u64 (P.wrd s 0), .int .u64 (P.wrd s 1), .int .u64 (P.wrd s 2), .int .u64 (P.wrd s 3)]
    simpa using this
  have hbq : Below w.heap.size w ((w.alloc (.cells #[a, b, c] 25)).alloc (.cells #[.int .u64 (P.wrd s 0), .int .u64 (P.wrd s 1), .int .u64 (P.wrd s 2), .int .u64 (P.wrd s 3)] 35)) := ((Below.refl _ w).alloc (Nat.le_refl _) _).alloc (by simp) _
  replace T := Lib.hid (T.out.on hbq)
  generalize ((w.alloc (.cells #[a, b, c] 25)).alloc (.cells #[.int .u64 (P.wrd s 0), .int .u64 (P.wrd s 1), .int .u64 (P.wrd s 2), .int .u64 (P.wrd s 3)] 35)) = w1 at b1q b2q hbq T ⊢
  have BQg := Lib.hid b1q
  have BQs := Lib.hid b2q
  have W := Lib.hid hbq
  clear b1q b2q hbq
  generalize w.heap.size + 1 = qs at BQs ⊢
  generalize w.heap.size = qg at BQg ⊢
  refine (shown_any _ T.out).mono ?_
  rintro e w2 ⟨rfl, hb⟩
  replace BQg := Lib.hid (BQg.out.keep (grown_of_below hb none))
  replace BQs := Lib.hid (BQs.out.keep (grown_of_below hb none))
  replace W := Lib.hid (W.out.trans (hb.mono W.out.size))
  replace T := Lib.hid (T.out.on hb)
  clear hb
  have bb := BQg.out
  have pc0 : w2.cell? ⟨qg, 0, none⟩ = some a := bb.cell 0 _ rfl
  have pc1 : w2.cell? ⟨qg, 1, none⟩ = some b := bb.cell 1 _ rfl
  have pc2 : w2.cell? ⟨qg, 2, none⟩ = some c := bb.cell 2 _ rfl
  clear bb
  go_wp2_with fail
  refine (rcopy_any g _ _ (HV.out.on W.out)).mono ?_
  rintro e w3 ⟨nav, nbv, ncv, nL, rfl, ho, hb⟩
  obtain ⟨na, nka, nb, nkb, nc, nkc, rfl, rfl, rfl⟩ := ho.forms
  replace BQg := Lib.hid (BQg.out.keep (grown_of_below hb none))
  replace BQs := Lib.hid (BQs.out.keep (grown_of_below hb none))
  replace W := Lib.hid (W.out.trans (hb.mono W.out.size))
  replace T := Lib.hid (T.out.on hb)
  have GHn := Lib.hid (ho.game hf.out)
  have Wn := Lib.hid (Below.refl w3.heap.size w3)
  clear hb ho pc0 pc1 pc2
  go_upto_region 3 with (fail)
  have bq : Box (w3.alloc (.cells #[.slice na g.owner.length nka, .slice nb g.prio.length nkb, .slice nc g.moves.length nkc] 25)) w3.heap.size 25 #[.slice na g.owner.length nka, .slice nb g.prio.length nkb, .slice nc g.moves.length nkc] := Box.new _ _ _
  have hgq := World.grownBy_alloc w3 (.cells #[.slice na g.owner.length nka, .slice nb g.prio.length nkb, .slice nc g.moves.length nkc] 25) none
  replace BQg := Lib.hid (BQg.out.keep hgq)
  replace BQs := Lib.hid (BQs.out.keep hgq)
  replace W := Lib.hid (W.out.trans ((below_of_grown hgq).mono W.out.size))
  replace T := Lib.hid (T.out.on (below_of_grown hgq))
  replace Wn := Lib.hid (Wn.out.trans ((below_of_grown hgq).mono Wn.out.size))
  generalize (w3.alloc (.cells #[.slice na g.owner.length nka, .slice nb g.prio.length nkb, .slice nc g.moves.length nkc] 25)) = w4 at bq BQg BQs W T Wn ⊢
  generalize w3.heap.size = qn at bq ⊢
  have BQn := Lib.hid bq
  clear bq hgq
  have bb := BQs.out
  have sc0 : w4.cell? ⟨qs, 0, none⟩ = some (.int .u64 (P.wrd s 0)) := bb.cell 0 _ rfl
  have sc1 : w4.cell? ⟨qs, 1, none⟩ = some (.int .u64 (P.wrd s 1)) := bb.cell 1 _ rfl
  have sc2 : w4.cell? ⟨qs, 2, none⟩ = some (.int .u64 (P.wrd s 2)) := bb.cell 2 _ rfl
  have sc3 : w4.cell? ⟨qs, 3, none⟩ = some (.int .u64 (P.wrd s 3)) := bb.cell 3 _ rfl
  clear bb
  go_wp2_with fail
  refine (from_any s _).mono ?_
  rintro e w5 ⟨rfl, hb⟩
  replace BQg := Lib.hid (BQg.out.keep (grown_of_below hb none))
  replace BQs := Lib.hid (BQs.out.keep (grown_of_below hb none))
  replace W := Lib.hid (W.out.trans (hb.mono W.out.size))
  replace T := Lib.hid (T.out.on hb)
  replace Wn := Lib.hid (Wn.out.trans (hb.mono Wn.out.size))
  replace BQn := Lib.hid (BQn.out.keep (grown_of_below hb none))
  clear hb sc0 sc1 sc2 sc3
  have hz0 := fun w => zero_ref w
  go_upto_region 4 with (refine wpList_store_row (o := ⟨none, _, _, _, _, _⟩) rfl 37 (.tmp 7) (.tmp 25) rfl w5.heap.size (P.truths s) rfl rfl 37 (P.truths 0#256) (heap_alloc_new w5 _) (ref_size _) (truths_both _ _) (truths_one _) ?_)
  clear hz0
  have bq : Box ((w5.alloc (.cells (P.truths 0#256) 37)).setRow w5.heap.size (P.truths s)) w5.heap.size 37 (P.truths s) := (Tr.new w5 0#256).row s
  have hgq : w5.grownBy ((w5.alloc (.cells (P.truths 0#256) 37)).setRow w5.heap.size (P.truths s)) none := grown_of_below (below_setRow ((Below.refl _ _).alloc (Nat.le_refl _) _) (Nat.le_refl _) _) none
  replace BQg := Lib.hid (BQg.out.keep hgq)
  replace BQs := Lib.hid (BQs.out.keep hgq)
  replace W := Lib.hid (W.out.trans ((below_of_grown hgq).mono W.out.size))
  replace T := Lib.hid (T.out.on (below_of_grown hgq))
  replace Wn := Lib.hid (Wn.out.trans ((below_of_grown hgq).mono Wn.out.size))
  replace BQn := Lib.hid (BQn.out.keep hgq)
  generalize ((w5.alloc (.cells (P.truths 0#256) 37)).setRow w5.heap.size (P.truths s)) = w6 at bq BQg BQs W T Wn BQn ⊢
  generalize w5.heap.size = qi at bq ⊢
  have BQi := Lib.hid bq
  clear bq hgq
  have bb := BQg.out
  have pc0 : w6.cell? ⟨qg, 0, none⟩ = some a := bb.cell 0 _ rfl
  have pc1 : w6.cell? ⟨qg, 1, none⟩ = some b := bb.cell 1 _ rfl
  have pc2 : w6.cell? ⟨qg, 2, none⟩ = some c := bb.cell 2 _ rfl
  clear bb
  have bb := BQs.out
  have sc0 : w6.cell? ⟨qs, 0, none⟩ = some (.int .u64 (P.wrd s 0)) := bb.cell 0 _ rfl
  have sc1 : w6.cell? ⟨qs, 1, none⟩ = some (.int .u64 (P.wrd s 1)) := bb.cell 1 _ rfl
  have sc2 : w6.cell? ⟨qs, 2, none⟩ = some (.int .u64 (P.wrd s 2)) := bb.cell 2 _ rfl
  have sc3 : w6.cell? ⟨qs, 3, none⟩ = some (.int .u64 (P.wrd s 3)) := bb.cell 3 _ rfl
  clear bb
  have lox := Lib.hid W.out.size
  have lnx := Lib.hid Wn.out.size
  go_wp2_with fail
  refine (subw_any g s _ _ (HV.out.on W.out) T.out).mono ?_
  rintro e w7 ⟨u, rfl, hsub, hb⟩
  rw [HF.out, HOLS.out, HHS.out] at hsub
  obtain ⟨xa, xka, xb, xkb, xc, xkc, xo, xko, xL, rfl, ho, hol⟩ := hsub
  replace BQg := Lib.hid (BQg.out.keep (grown_of_below hb none))
  replace BQs := Lib.hid (BQs.out.keep (grown_of_below hb none))
  replace W := Lib.hid (W.out.trans (hb.mono W.out.size))
  replace T := Lib.hid (T.out.on hb)
  replace Wn := Lib.hid (Wn.out.trans (hb.mono Wn.out.size))
  replace BQn := Lib.hid (BQn.out.keep (grown_of_below hb none))
  replace BQi := Lib.hid (BQi.out.keep (grown_of_below hb none))
  have Dx := Lib.hid hb.size
  have Ox1 := Lib.hid ho
  have Ox := Lib.hid ho
  have Jx1 := Lib.hid hol
  have Jx := Lib.hid hol
  have Wx := Lib.hid (Below.refl w7.heap.size w7)
  clear hb ho hol pc0 pc1 pc2 sc0 sc1 sc2 sc3
  go_upto_region 5 with (fail)
  have bq : Box (w7.alloc (.cells #[.slice xa F.owner.length xka, .slice xb F.prio.length xkb, .slice xc F.moves.length xkc] 25)) w7.heap.size 25 #[.slice xa F.owner.length xka, .slice xb F.prio.length xkb, .slice xc F.moves.length xkc] := Box.new _ _ _
  have hgq := World.grownBy_alloc w7 (.cells #[.slice xa F.owner.length xka, .slice xb F.prio.length xkb, .slice xc F.moves.length xkc] 25) none
  replace BQg := Lib.hid (BQg.out.keep hgq)
  replace BQs := Lib.hid (BQs.out.keep hgq)
  replace W := Lib.hid (W.out.trans ((below_of_grown hgq).mono W.out.size))
  replace T := Lib.hid (T.out.on (below_of_grown hgq))
  replace Wn := Lib.hid (Wn.out.trans ((below_of_grown hgq).mono Wn.out.size))
  replace BQn := Lib.hid (BQn.out.keep hgq)
  replace BQi := Lib.hid (BQi.out.keep hgq)
  replace Ox := Lib.hid (Ox.out.grown hgq)
  replace Wx := Lib.hid (Wx.out.trans ((below_of_grown hgq).mono Wx.out.size))
  have Jx := Lib.hid (own_grown Jx.out hgq)
  generalize (w7.alloc (.cells #[.slice xa F.owner.length xka, .slice xb F.prio.length xkb, .slice xc F.moves.length xkc] 25)) = w7b at bq Jx BQg BQs W T Wn BQn BQi Ox Wx ⊢
  generalize w7.heap.size = qx at bq ⊢
  have BQx := Lib.hid bq
  clear bq hgq
  have bb := BQg.out
  have pc0 : w7b.cell? ⟨qg, 0, none⟩ = some a := bb.cell 0 _ rfl
  have pc1 : w7b.cell? ⟨qg, 1, none⟩ = some b := bb.cell 1 _ rfl
  have pc2 : w7b.cell? ⟨qg, 2, none⟩ = some c := bb.cell 2 _ rfl
  clear bb
  have bb := BQs.out
  have sc0 : w7b.cell? ⟨qs, 0, none⟩ = some (.int .u64 (P.wrd s 0)) := bb.cell 0 _ rfl
  have sc1 : w7b.cell? ⟨qs, 1, none⟩ = some (.int .u64 (P.wrd s 1)) := bb.cell 1 _ rfl
  have sc2 : w7b.cell? ⟨qs, 2, none⟩ = some (.int .u64 (P.wrd s 2)) := bb.cell 2 _ rfl
  have sc3 : w7b.cell? ⟨qs, 3, none⟩ = some (.int .u64 (P.wrd s 3)) := bb.cell 3 _ rfl
  clear bb
  have loy := Lib.hid W.out.size
  have lny := Lib.hid Wn.out.size
  have hxy := Lib.hid Wx.out.size
  go_wp2_with fail
  refine (subw_any g s _ _ (HV.out.on W.out) T.out).mono ?_
  rintro e w8 ⟨u, rfl, hsub, hb⟩
  rw [HF.out, HOLS.out, HHS.out] at hsub
  obtain ⟨ya, yka, yb, ykb, yc, ykc, yo, yko, yL, rfl, ho, hol⟩ := hsub
  replace BQg := Lib.hid (BQg.out.keep (grown_of_below hb none))
  replace BQs := Lib.hid (BQs.out.keep (grown_of_below hb none))
  replace W := Lib.hid (W.out.trans (hb.mono W.out.size))
  replace T := Lib.hid (T.out.on hb)
  replace Wn := Lib.hid (Wn.out.trans (hb.mono Wn.out.size))
  replace BQn := Lib.hid (BQn.out.keep (grown_of_below hb none))
  replace BQi := Lib.hid (BQi.out.keep (grown_of_below hb none))
  replace BQx := Lib.hid (BQx.out.keep (grown_of_below hb none))
  replace Ox := Lib.hid (Ox.out.grown (grown_of_below hb none))
  have Jx := Lib.hid (own_grown Jx.out (grown_of_below hb none))
  replace Wx := Lib.hid (Wx.out.trans (hb.mono Wx.out.size))
  have Dy := Lib.hid hb.size
  have Oy1 := Lib.hid ho
  have Oy := Lib.hid ho
  have Jy1 := Lib.hid hol
  have Jy := Lib.hid hol
  have Wy := Lib.hid (Below.refl w8.heap.size w8)
  clear hb ho hol pc0 pc1 pc2 sc0 sc1 sc2 sc3
  go_upto_region 6 with (fail)
  have bq : Box (w8.alloc (.cells #[.slice ya F.owner.length yka, .slice yb F.prio.length ykb, .slice yc F.moves.length ykc] 25)) w8.heap.size 25 #[.slice ya F.owner.length yka, .slice yb F.prio.length ykb, .slice yc F.moves.length ykc] := Box.new _ _ _
  have hgq := World.grownBy_alloc w8 (.cells #[.slice ya F.owner.length yka, .slice yb F.prio.length ykb, .slice yc F.moves.length ykc] 25) none
  replace BQg := Lib.hid (BQg.out.keep hgq)
  replace BQs := Lib.hid (BQs.out.keep hgq)
  replace W := Lib.hid (W.out.trans ((below_of_grown hgq).mono W.out.size))
  replace T := Lib.hid (T.out.on (below_of_grown hgq))
  replace Wn := Lib.hid (Wn.out.trans ((below_of_grown hgq).mono Wn.out.size))
  replace BQn := Lib.hid (BQn.out.keep hgq)
  replace BQi := Lib.hid (BQi.out.keep hgq)
  replace BQx := Lib.hid (BQx.out.keep hgq)
  replace Ox := Lib.hid (Ox.out.grown hgq)
  replace Wx := Lib.hid (Wx.out.trans ((below_of_grown hgq).mono Wx.out.size))
  replace Oy := Lib.hid (Oy.out.grown hgq)
  replace Wy := Lib.hid (Wy.out.trans ((below_of_grown hgq).mono Wy.out.size))
  have Jx := Lib.hid (own_grown Jx.out hgq)
  have Jy := Lib.hid (own_grown Jy.out hgq)
  generalize (w8.alloc (.cells #[.slice ya F.owner.length yka, .slice yb F.prio.length ykb, .slice yc F.moves.length ykc] 25)) = w8b at bq Jx Jy BQg BQs W T Wn BQn BQi BQx Ox Wx Oy Wy ⊢
  generalize w8.heap.size = qy at bq ⊢
  have BQy := Lib.hid bq
  clear bq hgq
  have hxz := Lib.hid Wx.out.size
  refine Rk.wp_region_lit (fun idx => match idx with | 0 => (fun v _ _ => v = .agg #[.slice na g.owner.length nka, .slice nb g.prio.length nkb, .slice nc g.moves.length nkc]) | 1 => (fun v _ _ => v = .slice (some ⟨qi, 0, none⟩) 256 256) | 2 => (fun v _ w' => SubW F ol hs w8b.heap.size v w') | 3 => (fun v ds w' => v = ds.getD 0 undef ∧ SubW F ol hs w8b.heap.size v w') | 4 => (fun v ds _ => v = tupleAt (ds.getD 0 undef) 0) | 5 => (fun v ds _ => v = tupleAt (ds.getD 0 undef) 1) | 6 => (fun v ds _ => v = tupleAt (ds.getD 0 undef) 2) | 7 => (fun v _ _ => ∃ p, v = .pointer (some ⟨p, 0, none⟩) ∧ w8b.heap.size ≤ p) | 8 => (fun _ ds w' => ∃ p a1 k1 b1 k2 c1 k3, ds.getD 0 undef = .pointer (some ⟨p, 0, none⟩) ∧ ds.getD 1 undef = .agg #[.slice a1 F.owner.length k1, .slice b1 F.prio.length k2, .slice c1 F.moves.length k3] ∧ Box w' p 25 #[.slice a1 F.owner.length k1, .slice b1 F.prio.length k2, .slice c1 F.moves.length k3]) | 9 => (fun v ds _ => v = ds.getD 0 undef) | _ => fun _ _ _ => True) (fun idx => match idx with | 7 => (fun v _ w' => ∃ p, v = .pointer (some ⟨p, 0, none⟩) ∧ Box w' p 25 #[.slice none 0 0, .slice none 0 0, .slice none 0 0]) | _ => fun _ _ _ => True) (KG w8b.heap.size 25) 8 (by kernel_rfl) (by rfl) (by kernel_rfl) (by rfl) ?_ ?_ ?_ ?_
  · refine ⟨?_, ?_, ?_, ?_, ?_, ?_, ?_, ?_, ?_, ?_, trivial⟩
    · intro A w' K vals h hn hT hgk hK0
      have hg : w8b.grownBy w' none := keeps_old hgk
      have hK := fun v u (h1 : w'.grownBy u none) h2 => hK0 v u (Rk.keep_of h1) h2 trivial
      clear hT hgk hK0
      have r0 : A.tmps[6]?.getD undef = .pointer (some ⟨qn, 0, none⟩) := Rg.slot h.1
      have b := BQn.out.keep hg
      have cc0 : w'.cell? ⟨qn, 0, none⟩ = some (.slice na g.owner.length nka) := b.cell 0 _ rfl
      have cc1 : w'.cell? ⟨qn, 1, none⟩ = some (.slice nb g.prio.length nkb) := b.cell 1 _ rfl
      have cc2 : w'.cell? ⟨qn, 2, none⟩ = some (.slice nc g.moves.length nkc) := b.cell 2 _ rfl
      clear h hn hg b
      simp [Oper.wp, execOp, go_sem, r0, cc0, cc1, cc2]
      exact hK _ _ (Rg.grown_refl _ _) rfl
    · intro A w' K vals h hn hT hgk hK0
      have hg : w8b.grownBy w' none := keeps_old hgk
      have hK := fun v u (h1 : w'.grownBy u none) h2 => hK0 v u (Rk.keep_of h1) h2 trivial
      clear hT hgk hK0
      have r0 : A.tmps[7]?.getD undef = .pointer (some ⟨qi, 0, none⟩) := Rg.slot h.1
      clear h hn hg
      simp [Oper.wp, execOp, go_sem, r0]
      exact hK _ _ (Rg.grown_refl _ _) rfl
    · intro A w' K vals h hn hT hgk hK0
      have hg : w8b.grownBy w' none := keeps_old hgk
      have hK := fun v u (h1 : w'.grownBy u none) h2 => hK0 v u (Rk.keep_of h1) h2 trivial
      clear hT hgk hK0
      have r0 : A.tmps[41]?.getD undef = vals 0 := Rg.slot h.2.1
      have r1 : A.tmps[42]?.getD undef = vals 1 := Rg.slot h.2.2.1
      have s0 : vals 0 = .agg #[.slice na g.owner.length nka, .slice nb g.prio.length nkb, .slice nc g.moves.length nkc] := hn.1
      have s1 : vals 1 = .slice (some ⟨qi, 0, none⟩) 256 256 := hn.2.1
      clear h hn
      simp [Oper.wp, go_sem, r0, r1, s0, s1]
      refine (rsubw_any g s (.agg #[.slice na g.owner.length nka, .slice nb g.prio.length nkb, .slice nc g.moves.length nkc]) qi 37 w' (GHn.out.on (Wn.out.trans ((below_of_grown hg).mono Wn.out.size))) (BQi.out.keep hg)).mono ?_
      rintro e w'' ⟨u, rfl, hu, hb⟩
      rw [HF.out, HOLS.out, HHS.out] at hu
      exact hK _ _ (grown_of_below hb _) (hu.low hg.size)
    · intro A w' K vals h hn hT hgk hK0
      have hg : w8b.grownBy w' none := keeps_old hgk
      have hK := fun v u (h1 : w'.grownBy u none) h2 => hK0 v u (Rk.keep_of h1) h2 trivial
      clear hT hgk hK0
      have r0 : A.tmps[43]?.getD undef = vals 2 := Rg.slot h.1
      have n3 : SubW F ol hs w8b.heap.size (vals 2) w' := hn.1
      clear h hn hg
      simp [Oper.wp, execOp, go_sem, r0]
      exact hK _ _ (Rg.grown_refl _ _) ⟨rfl, n3⟩
    · intro A w' K vals h hn hT hgk hK0
      have hg : w8b.grownBy w' none := keeps_old hgk
      have hK := fun v u (h1 : w'.grownBy u none) h2 => hK0 v u (Rk.keep_of h1) h2 trivial
      clear hT hgk hK0
      have r0 : A.tmps[40]?.getD undef = vals 3 := Rg.slot h.1
      obtain ⟨a1, k1, b1, k2, c1, k3, x1, k4, L, hv, -, -⟩ : SubW F ol hs w8b.heap.size (vals 3) w' := hn.1.2
      clear h hn hg
      simp [Oper.wp, execOp, go_sem, r0, hv]
      refine hK _ _ (Rg.grown_refl _ _) ?_
      show _ = tupleAt (vals 3) 0
      rw [hv]
      rfl
    · intro A w' K vals h hn hT hgk hK0
      have hg : w8b.grownBy w' none := keeps_old hgk
      have hK := fun v u (h1 : w'.grownBy u none) h2 => hK0 v u (Rk.keep_of h1) h2 trivial
      clear hT hgk hK0
      have r0 : A.tmps[40]?.getD undef = vals 3 := Rg.slot h.1
      obtain ⟨a1, k1, b1, k2, c1, k3, x1, k4, L, hv, -, -⟩ : SubW F ol hs w8b.heap.size (vals 3) w' := hn.1.2
      clear h hn hg
      simp [Oper.wp, execOp, go_sem, r0, hv]
      refine hK _ _ (Rg.grown_refl _ _) ?_
      show _ = tupleAt (vals 3) 1
      rw [hv]
      rfl
    · intro A w' K vals h hn hT hgk hK0
      have hg : w8b.grownBy w' none := keeps_old hgk
      have hK := fun v u (h1 : w'.grownBy u none) h2 => hK0 v u (Rk.keep_of h1) h2 trivial
      clear hT hgk hK0
      have r0 : A.tmps[40]?.getD undef = vals 3 := Rg.slot h.1
      obtain ⟨a1, k1, b1, k2, c1, k3, x1, k4, L, hv, -, -⟩ : SubW F ol hs w8b.heap.size (vals 3) w' := hn.1.2
      clear h hn hg
      simp [Oper.wp, execOp, go_sem, r0, hv]
      refine hK _ _ (Rg.grown_refl _ _) ?_
      show _ = tupleAt (vals 3) 2
      rw [hv]
      rfl
    · intro A w' K vals h hn hT hgk hK0
      clear h hn hT
      simp [Oper.wp, execOp, go_sem]
      exact hK0 _ _ (Rk.keep_of (World.grownBy_alloc _ _ _)) ⟨_, rfl, hgk.size⟩ ⟨_, rfl, Box.new _ _ _⟩
    · intro A w' K vals h hn hT hgk hK0
      have r0 : A.tmps[14]?.getD undef = vals 7 := Rg.slot h.1
      have r1 : A.tmps[44]?.getD undef = vals 4 := Rg.slot h.2.1
      obtain ⟨p, hp, hbx⟩ : ∃ p, vals 7 = .pointer (some ⟨p, 0, none⟩) ∧ Box w' p 25 #[.slice none 0 0, .slice none 0 0, .slice none 0 0] := (hT rfl).1
      obtain ⟨p', hp', hlo⟩ : ∃ p, vals 7 = .pointer (some ⟨p, 0, none⟩) ∧ w8b.heap.size ≤ p := hn.1
      have s5 : vals 4 = tupleAt (vals 3) 0 := hn.2.1
      obtain ⟨a1, k1, b1, k2, c1, k3, x1, k4, L, s3, ho, hi⟩ : SubW F ol hs w8b.heap.size (vals 3) w' := hn.2.2.2.2.2.2.1.2
      rw [s3] at s5
      have s5 : vals 4 = .agg #[.slice a1 F.owner.length k1, .slice b1 F.prio.length k2, .slice c1 F.moves.length k3] := s5
      obtain rfl : p' = p := by rw [hp'] at hp; injection hp with hp; injection hp with hp; injection hp with hp
      clear h hn hT ho hi s3
      have qc0 : w'.cell? ⟨p', 0, none⟩ = some (.slice none 0 0) := hbx.cell 0 _ rfl
      have qc1 : w'.cell? ⟨p', 1, none⟩ = some (.slice none 0 0) := hbx.cell 1 _ rfl
      have qc2 : w'.cell? ⟨p', 2, none⟩ = some (.slice none 0 0) := hbx.cell 2 _ rfl
      have qf0 : w'.frozen? ⟨p', 0, none⟩ = false := hbx.frozen 0
      have qf1 : w'.frozen? ⟨p', 1, none⟩ = false := hbx.frozen 1
      have qf2 : w'.frozen? ⟨p', 2, none⟩ = false := hbx.frozen 2
      simp [Oper.wp, execOp, go_sem, r0, r1, hp', s5, qc0, qc1, qc2, qf0, qf1, qf2]
      refine hK0 undef _ (((keeps_set hbx hlo _ _).trans (keeps_set (hbx.set _ _) hlo _ _)).trans (keeps_set ((hbx.set _ _).set _ _) hlo _ _)) ⟨p', a1, k1, b1, k2, c1, k3, hp', s5, (((hbx.set 0 (.slice a1 F.owner.length k1)).set 1 (.slice b1 F.prio.length k2)).set 2 (.slice c1 F.moves.length k3))⟩ trivial
    · intro A w' K vals h hn hT hgk hK0
      have hg : w8b.grownBy w' none := keeps_old hgk
      have hK := fun v u (h1 : w'.grownBy u none) h2 => hK0 v u (Rk.keep_of h1) h2 trivial
      clear hT hgk hK0
      have r0 : A.tmps[45]?.getD undef = vals 5 := Rg.slot h.1
      clear h hn hg
      simp [Oper.wp, execOp, go_sem, r0]
      exact hK _ _ (Rg.grown_refl _ _) rfl
  · refine ⟨?_, ?_, ?_, ?_, ?_, ?_, ?_, ?_, ?_, ?_, trivial⟩
    · exact fun _ _ _ _ _ _ h => h
    · exact fun _ _ _ _ _ _ h => h
    · exact fun _ _ _ _ _ h hu => hu.other h (by decide) (by decide)
    · exact fun _ _ _ _ _ h hu => ⟨hu.1, hu.2.other h (by decide) (by decide)⟩
    · exact fun _ _ _ _ _ _ h => h
    · exact fun _ _ _ _ _ _ h => h
    · exact fun _ _ _ _ _ _ h => h
    · exact fun _ _ _ _ _ _ h => h
    · exact fun _ _ _ _ _ h ⟨p, a1, k1, b1, k2, c1, k3, h1, h2, hb⟩ => ⟨p, a1, k1, b1, k2, c1, k3, h1, h2, hb.keep (Rk.grown_of h)⟩
    · exact fun _ _ _ _ _ _ h => h
  · intro k v ds w w' hk h
    match k, h with
    | 7, h => exact ⟨h.choose, h.choose_spec.1, h.choose_spec.2.keep (Rk.grown_of hk)⟩
    | 0, _ | 1, _ | 2, _ | 3, _ | 4, _ | 5, _ | 6, _ | _ + 8, _ => trivial
  · intro vals w9 G hgk hS hG
    have hg := keeps_old hgk
    obtain ⟨za, zka, zb, zkb, zc, zkc, zo, zko, zL, s3, ho, hi⟩ : SubW F ol hs w8b.heap.size (vals 3) w9 := hS.2.2.2.1.2
    have s5 : vals 4 = tupleAt (vals 3) 0 := hS.2.2.2.2.1
    have s6 : vals 5 = tupleAt (vals 3) 1 := hS.2.2.2.2.2.1
    have s7 : vals 6 = tupleAt (vals 3) 2 := hS.2.2.2.2.2.2.1
    obtain ⟨qz, a1', k1', b1', k2', c1', k3', s8, s5', hb5⟩ : ∃ p a1 k1 b1 k2 c1 k3, vals 7 = .pointer (some ⟨p, 0, none⟩) ∧ vals 4 = .agg #[.slice a1 F.owner.length k1, .slice b1 F.prio.length k2, .slice c1 F.moves.length k3] ∧ Box w9 p 25 #[.slice a1 F.owner.length k1, .slice b1 F.prio.length k2, .slice c1 F.moves.length k3] := hS.2.2.2.2.2.2.2.2.1
    have s10 : vals 9 = vals 5 := hS.2.2.2.2.2.2.2.2.2.1
    clear hS
    rw [s3] at s5 s6 s7
    have s5 : vals 4 = .agg #[.slice za F.owner.length zka, .slice zb F.prio.length zkb, .slice zc F.moves.length zkc] := s5
    have s6 : vals 5 = .slice zo ol.length zko := s6
    have s7 : vals 6 = .bool hs := s7
    rw [s5] at s5'
    simp only [Value.agg.injEq, Array.mk.injEq, List.cons.injEq, Value.slice.injEq, and_true, true_and] at s5'
    obtain ⟨⟨rfl, rfl⟩, ⟨rfl, rfl⟩, rfl, rfl⟩ := s5'
    rw [s6] at s10
    replace BQg := Lib.hid (BQg.out.keep (grown_of_below (below_of_grown hg) none))
    replace BQs := Lib.hid (BQs.out.keep (grown_of_below (below_of_grown hg) none))
    replace W := Lib.hid (W.out.trans ((below_of_grown hg).mono W.out.size))
    replace Wn := Lib.hid (Wn.out.trans ((below_of_grown hg).mono Wn.out.size))
    replace BQn := Lib.hid (BQn.out.keep (grown_of_below (below_of_grown hg) none))
    replace BQx := Lib.hid (BQx.out.keep (grown_of_below (below_of_grown hg) none))
    replace Ox := Lib.hid (Ox.out.grown (grown_of_below (below_of_grown hg) none))
    replace BQy := Lib.hid (BQy.out.keep (grown_of_below (below_of_grown hg) none))
    replace Oy := Lib.hid (Oy.out.grown (grown_of_below (below_of_grown hg) none))
    replace Jx := Lib.hid (own_grown Jx.out hg)
    replace Jy := Lib.hid (own_grown Jy.out hg)
    have BQz := Lib.hid hb5
    have Oz := Lib.hid ho
    have Jz := Lib.hid hi
    have loz := Lib.hid hg.size
    have WZ := Lib.hid (Below.refl w9.heap.size w9)
    clear hb5 ho hi hgk hg
    refine hG ?_
    clear hG
    simp [Rg.putAll, Oper.wp, execOp, go_sem, s5, s6, s7, s8, s10]
    clear s3 s5 s6 s7 s8 s10
    have hol17 : Hid (ol.length ≤ 17592186043904) := Lib.hid (by omega)
    have fhs : (hs == hs) = true := by simp
    have bb := BQx.out
    have pc0 : w9.cell? ⟨qx, 0, none⟩ = some (.slice xa F.owner.length xka) := bb.cell 0 _ rfl
    have pc1 : w9.cell? ⟨qx, 1, none⟩ = some (.slice xb F.prio.length xkb) := bb.cell 1 _ rfl
    have pc2 : w9.cell? ⟨qx, 2, none⟩ = some (.slice xc F.moves.length xkc) := bb.cell 2 _ rfl
    clear bb
    have bb := BQz.out
    have rc0 : w9.cell? ⟨qz, 0, none⟩ = some (.slice za F.owner.length zka) := bb.cell 0 _ rfl
    have rc1 : w9.cell? ⟨qz, 1, none⟩ = some (.slice zb F.prio.length zkb) := bb.cell 1 _ rfl
    have rc2 : w9.cell? ⟨qz, 2, none⟩ = some (.slice zc F.moves.length zkc) := bb.cell 2 _ rfl
    clear bb
    go_wp2_with fail
    refine (samegame_any F F _ _ _ (Ox.out.game hff.out) (Oz.out.game hff.out)).mono ?_
    rintro e w10 ⟨rfl, hb⟩
    rw [decide_eq_true rfl]
    replace WZ := Lib.hid (WZ.out.trans (hb.mono WZ.out.size))
    replace BQg := Lib.hid (BQg.out.keep (grown_of_below hb none))
    replace BQn := Lib.hid (BQn.out.keep (grown_of_below hb none))
    replace BQx := Lib.hid (BQx.out.keep (grown_of_below hb none))
    replace BQy := Lib.hid (BQy.out.keep (grown_of_below hb none))
    replace BQz := Lib.hid (BQz.out.keep (grown_of_below hb none))
    replace W := Lib.hid (W.out.trans (hb.mono W.out.size))
    replace Wn := Lib.hid (Wn.out.trans (hb.mono Wn.out.size))
    replace Ox := Lib.hid (Ox.out.grown (grown_of_below hb none))
    replace Oy := Lib.hid (Oy.out.grown (grown_of_below hb none))
    replace Oz := Lib.hid (Oz.out.grown (grown_of_below hb none))
    have Jx := Lib.hid (own_grown Jx.out (grown_of_below hb none))
    have Jy := Lib.hid (own_grown Jy.out (grown_of_below hb none))
    have Jz := Lib.hid (own_grown Jz.out (grown_of_below hb none))
    clear hb pc0 pc1 pc2 rc0 rc1 rc2
    go_wp2_with fail
    refine (sameints_any _ _ ol ol _ (OwnI.ints Jx.out hol17.out) (OwnI.ints Jz.out hol17.out)).mono ?_
    rintro e w11 ⟨rfl, hb⟩
    rw [decide_eq_true rfl]
    replace WZ := Lib.hid (WZ.out.trans (hb.mono WZ.out.size))
    replace BQg := Lib.hid (BQg.out.keep (grown_of_below hb none))
    replace BQn := Lib.hid (BQn.out.keep (grown_of_below hb none))
    replace BQx := Lib.hid (BQx.out.keep (grown_of_below hb none))
    replace BQy := Lib.hid (BQy.out.keep (grown_of_below hb none))
    replace BQz := Lib.hid (BQz.out.keep (grown_of_below hb none))
    replace W := Lib.hid (W.out.trans (hb.mono W.out.size))
    replace Wn := Lib.hid (Wn.out.trans (hb.mono Wn.out.size))
    replace Ox := Lib.hid (Ox.out.grown (grown_of_below hb none))
    replace Oy := Lib.hid (Oy.out.grown (grown_of_below hb none))
    replace Oz := Lib.hid (Oz.out.grown (grown_of_below hb none))
    have Jx := Lib.hid (own_grown Jx.out (grown_of_below hb none))
    have Jy := Lib.hid (own_grown Jy.out (grown_of_below hb none))
    have Jz := Lib.hid (own_grown Jz.out (grown_of_below hb none))
    clear hb
    have hlo : w6.heap.size ≤ w11.heap.size := Nat.le_trans Dx.out (Nat.le_trans (Nat.le_trans hxz.out loz.out) WZ.out.size)
    have HLO := Lib.hid hlo
    have sh := Lib.hid (OwnG.sh (N := w11.heap.size) Ox1.out Ox.out rfl hff.out)
    clear hlo
    have bb := BQx.out
    have pc0 : w11.cell? ⟨qx, 0, none⟩ = some (.slice xa F.owner.length xka) := bb.cell 0 _ rfl
    have pc1 : w11.cell? ⟨qx, 1, none⟩ = some (.slice xb F.prio.length xkb) := bb.cell 1 _ rfl
    have pc2 : w11.cell? ⟨qx, 2, none⟩ = some (.slice xc F.moves.length xkc) := bb.cell 2 _ rfl
    clear bb
    go_wp2_with fail
    refine (fill_soft w6.heap.size w7.heap.size w11.heap.size _ _ _ _ _ _ w11 sh.out hff.out.1 hff.out.2.1 hff.out.2.2.1 rfl HLO.out).mono ?_
    rintro e w12 ⟨rfl, hks⟩
    have WD := Lib.hid (wide_of Jx1.out Jx.out hks.s)
    replace BQg := Lib.hid (BQg.out.k0 hks.k (by decide) (by decide))
    replace BQn := Lib.hid (BQn.out.k0 hks.k (by decide) (by decide))
    replace BQy := Lib.hid (BQy.out.k0 hks.k (by decide) (by decide))
    replace BQz := Lib.hid (BQz.out.k0 hks.k (by decide) (by decide))
    replace W := Lib.hid (W.out.trans ((k0_below hks.k HLO.out).mono lox.out))
    replace Wn := Lib.hid (Wn.out.trans ((k0_below hks.k HLO.out).mono lnx.out))
    replace Oy := Lib.hid (Oy.out.past0 hks.k hxy.out rfl)
    have Jy := Lib.hid (own_past0 Jy.out hks.k hxy.out rfl)
    replace Oz := Lib.hid (Oz.out.past0 hks.k hxz.out rfl)
    have Jz := Lib.hid (own_past0 Jz.out hks.k hxz.out rfl)
    have HLO := Lib.hid (Nat.le_trans HLO.out hks.k.size)
    clear hks sh pc0 pc1 pc2 Jx Ox
    have IV := Lib.hid (InvS.mk WD.out BQg.out BQn.out BQy.out BQz.out W.out Wn.out Oy.out Oz.out Jy.out Jz.out HLO.out : InvS w w3 w6 w7 w7b w8b g F s ol qg qn qy qz #[a, b, c] #[.slice na g.owner.length nka, .slice nb g.prio.length nkb, .slice nc g.moves.length nkc] #[.slice ya F.owner.length yka, .slice yb F.prio.length ykb, .slice yc F.moves.length ykc] #[.slice za F.owner.length zka, .slice zb F.prio.length zkb, .slice zc F.moves.length zkc] xo yo zo yko zko yL zL w12)
    clear WD BQg BQn BQy BQz W Wn Oy Oz Jy Jz HLO
    go_wp2_with fail
    go_loopw [18] (fun i wr => ∃ k : Nat, k ≤ ol.length ∧ i = .int .i64 k ∧ InvS w w3 w6 w7 w7b w8b g F s ol qg qn qy qz #[a, b, c] #[.slice na g.owner.length nka, .slice nb g.prio.length nkb, .slice nc g.moves.length nkc] #[.slice ya F.owner.length yka, .slice yb F.prio.length ykb, .slice yc F.moves.length ykc] #[.slice za F.owner.length zka, .slice zb F.prio.length zkb, .slice zc F.moves.length zkc] xo yo zo yko zko yL zL wr) (fun i _ => ol.length - (intOf i).toNat)
    case atStart => exact ⟨0, Nat.zero_le _, rfl, IV.out⟩
    case round =>
      obtain ⟨k, hk, rfl, hI⟩ := hrel
      have hk0 : (0 : Int) ≤ (k : Int) := Int.natCast_nonneg _
      have BQg := Lib.hid hI.bqg_
      have BQn := Lib.hid hI.bqn_
      have BQy := Lib.hid hI.bqy_
      have BQz := Lib.hid hI.bqz_
      have W := Lib.hid hI.w_
      have Wn := Lib.hid hI.wn_
      have Oy := Lib.hid hI.oy_
      have Oz := Lib.hid hI.oz_
      have Jy := Lib.hid hI.jy_
      have Jz := Lib.hid hI.jz_
      have HLO := Lib.hid hI.hlo_
      have WD := Lib.hid hI.wd_
      clear hI
      by_cases hlt : k < ol.length
      · have fk : decide ((k : Int) < (ol.length : Int)) = true := decide_eq_true (by omega)
        have hki : (k : Int) < (ol.length : Int) := by omega
        obtain ⟨q, cs, hxo, hq1, hq2, hcs, hbx⟩ := WD.out.resolve_left (by omega)
        subst hxo
        obtain ⟨u9, hu⟩ : ∃ u, wr.cell? ⟨q, k, none⟩ = some u := ⟨_, hbx.cell k _ (Array.getElem?_eq_getElem (show k < cs.size by omega))⟩
        have hfz : wr.frozen? ⟨q, k, none⟩ = false := hbx.frozen k
        have HKS := Lib.hid (k0_set (N := wr.heap.size) hbx hq1 hq2 k (.int .i64 9))
        have WD2 := Lib.hid (show Wide (wr.setCell ⟨q, k, none⟩ (.int .i64 9)) w6.heap.size w7.heap.size (some ⟨q, 0, none⟩) ol.length from .inr ⟨q, _, rfl, hq1, hq2, by simpa using hcs, hbx.set k _⟩)
        replace BQg := Lib.hid (BQg.out.k0 HKS.out (by decide) (by decide))
        replace BQn := Lib.hid (BQn.out.k0 HKS.out (by decide) (by decide))
        replace BQy := Lib.hid (BQy.out.k0 HKS.out (by decide) (by decide))
        replace BQz := Lib.hid (BQz.out.k0 HKS.out (by decide) (by decide))
        replace W := Lib.hid (W.out.trans ((k0_below HKS.out HLO.out).mono lox.out))
        replace Wn := Lib.hid (Wn.out.trans ((k0_below HKS.out HLO.out).mono lnx.out))
        replace Oy := Lib.hid (Oy.out.past0 HKS.out hxy.out rfl)
        have Jy := Lib.hid (own_past0 Jy.out HKS.out hxy.out rfl)
        replace Oz := Lib.hid (Oz.out.past0 HKS.out hxz.out rfl)
        have Jz := Lib.hid (own_past0 Jz.out HKS.out hxz.out rfl)
        have HLO := Lib.hid (Nat.le_trans HLO.out HKS.out.size)
        have IV2 := Lib.hid (InvS.mk WD2.out BQg.out BQn.out BQy.out BQz.out W.out Wn.out Oy.out Oz.out Jy.out Jz.out HLO.out : InvS w w3 w6 w7 w7b w8b g F s ol qg qn qy qz #[a, b, c] #[.slice na g.owner.length nka, .slice nb g.prio.length nkb, .slice nc g.moves.length nkc] #[.slice ya F.owner.length yka, .slice yb F.prio.length ykb, .slice yc F.moves.length ykc] #[.slice za F.owner.length zka, .slice zb F.prio.length zkb, .slice zc F.moves.length zkc] (some ⟨q, 0, none⟩) yo zo yko zko yL zL (wr.setCell ⟨q, k, none⟩ (.int .i64 9)))
        clear hbx hcs hq1 hq2 HKS WD2
        go_wp2_with fail
        go_roundw
        case rel => exact ⟨k + 1, by omega, by go_num, IV2.out⟩
        case measure => simp [intOf]; omega
      · have fk : decide ((k : Int) < (ol.length : Int)) = false := decide_eq_false (by omega)
        have bb := BQg.out
        have pc0 : wr.cell? ⟨qg, 0, none⟩ = some a := bb.cell 0 _ rfl
        have pc1 : wr.cell? ⟨qg, 1, none⟩ = some b := bb.cell 1 _ rfl
        have pc2 : wr.cell? ⟨qg, 2, none⟩ = some c := bb.cell 2 _ rfl
        clear bb
        have bb := BQn.out
        have rc0 : wr.cell? ⟨qn, 0, none⟩ = some (.slice na g.owner.length nka) := bb.cell 0 _ rfl
        have rc1 : wr.cell? ⟨qn, 1, none⟩ = some (.slice nb g.prio.length nkb) := bb.cell 1 _ rfl
        have rc2 : wr.cell? ⟨qn, 2, none⟩ = some (.slice nc g.moves.length nkc) := bb.cell 2 _ rfl
        clear bb
        go_wp2_with fail
        refine (samegame_any g g _ _ _ (HV.out.on W.out) (GHn.out.on Wn.out)).mono ?_
        rintro e w13 ⟨rfl, hb⟩
        rw [decide_eq_true rfl]
        replace BQy := Lib.hid (BQy.out.keep (grown_of_below hb none))
        replace BQz := Lib.hid (BQz.out.keep (grown_of_below hb none))
        replace W := Lib.hid (W.out.trans (hb.mono W.out.size))
        replace Oy := Lib.hid (Oy.out.grown (grown_of_below hb none))
        replace Oz := Lib.hid (Oz.out.grown (grown_of_below hb none))
        have Jy := Lib.hid (own_grown Jy.out (grown_of_below hb none))
        have Jz := Lib.hid (own_grown Jz.out (grown_of_below hb none))
        clear hb pc0 pc1 pc2 rc0 rc1 rc2
        have bb := BQy.out
        have pc0 : w13.cell? ⟨qy, 0, none⟩ = some (.slice ya F.owner.length yka) := bb.cell 0 _ rfl
        have pc1 : w13.cell? ⟨qy, 1, none⟩ = some (.slice yb F.prio.length ykb) := bb.cell 1 _ rfl
        have pc2 : w13.cell? ⟨qy, 2, none⟩ = some (.slice yc F.moves.length ykc) := bb.cell 2 _ rfl
        clear bb
        have bb := BQz.out
        have rc0 : w13.cell? ⟨qz, 0, none⟩ = some (.slice za F.owner.length zka) := bb.cell 0 _ rfl
        have rc1 : w13.cell? ⟨qz, 1, none⟩ = some (.slice zb F.prio.length zkb) := bb.cell 1 _ rfl
        have rc2 : w13.cell? ⟨qz, 2, none⟩ = some (.slice zc F.moves.length zkc) := bb.cell 2 _ rfl
        clear bb
        go_wp2_with fail
        refine (samegame_any F F _ _ _ (Oy.out.game hff.out) (Oz.out.game hff.out)).mono ?_
        rintro e w14 ⟨rfl, hb⟩
        rw [decide_eq_true rfl]
        replace W := Lib.hid (W.out.trans (hb.mono W.out.size))
        have Jy := Lib.hid (own_grown Jy.out (grown_of_below hb none))
        have Jz := Lib.hid (own_grown Jz.out (grown_of_below hb none))
        clear hb pc0 pc1 pc2 rc0 rc1 rc2
        go_wp2_with fail
        refine (sameints_any _ _ ol ol _ (OwnI.ints Jy.out hol17.out) (OwnI.ints Jz.out hol17.out)).mono ?_
        rintro e w15 ⟨rfl, hb⟩
        rw [decide_eq_true rfl]
        replace W := Lib.hid (W.out.trans (hb.mono W.out.size))
        clear hb
        go_wp2_with fail
        exact bodyPost_ret (v := .bool true) (by simp [results, Tryd.results5, go_sem]) rfl ⟨rfl, W.out⟩
end W
end Go.Proofs.YtlbikfimfaecnaaDoor
