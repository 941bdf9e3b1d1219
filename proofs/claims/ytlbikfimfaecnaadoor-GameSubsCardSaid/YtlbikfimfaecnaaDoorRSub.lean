/- The part of a game: the document's. -/
import Derived.Test.YtlbikfimfaecnaaDoorRDual
import Derived.Test.YtlbikfimfaecnaaDoorPart
import Derived.Test.YtlbikfimfaecnaaDoorBuild
import Derived.Test.YtlbikfimfaecnaaDoorSub
import Derived.Test.YtlbikfimfaecnaaDoorIs
import Derived.Test.YtlbikfimfaecnaaDoorRSubP
import Derived.Test.YtlbikfimfaecnaaDoorAmong
import Derived.Test.YtlbikfimfaecnaaDoorReads
import Derived.StillTailTactics
namespace Go.Proofs.YtlbikfimfaecnaaDoor
open Go.RowKit
namespace W

set_option maxRecDepth 100000 in
set_option maxHeartbeats 4000000 in
theorem rsub_bad (g : P.G) (s : BitVec 256) (v : Value) (qi : Nat) (w : World) (hv : GameV w v g) (hok : g.ok = false) : Calls Tryd.prog 23 #[v, .slice (some ⟨qi, 0, none⟩) 256 256] w (Subbed w g s) := by
  have HSUB := Lib.hid (show g.has s = false by unfold P.G.has; rw [hok]; rfl)
  have HOK := Lib.hid hok
  clear hok
  have HV := Lib.hid hv
  obtain ⟨a, b, c, rfl, -⟩ := hv
  go_enter Tryd.func23, Tryd.ntmps23
  go_wp2_with fail
  have B0 : Box ((w.alloc (.cells #[a, b, c] 25)).alloc (.cells #[.slice none 0 0, .slice none 0 0, .slice none 0 0] 25)) w.heap.size 25 #[a, b, c] := (Box.new w _ _).alloc _
  have B1 : Box ((w.alloc (.cells #[a, b, c] 25)).alloc (.cells #[.slice none 0 0, .slice none 0 0, .slice none 0 0] 25)) (w.heap.size + 1) 25 #[.slice none 0 0, .slice none 0 0, .slice none 0 0] := by
    have := Box.new (w.alloc (.cells #[a, b, c] 25)) 25 #[.slice none 0 0, .slice none 0 0, .slice none 0 0]
    simpa using this
  have hb0 : Below w.heap.size w ((w.alloc (.cells #[a, b, c] 25)).alloc (.cells #[.slice none 0 0, .slice none 0 0, .slice none 0 0] 25)) := ((Below.refl _ w).alloc (Nat.le_refl _) _).alloc (by simp) _
  have hs0 : ((w.alloc (.cells #[a, b, c] 25)).alloc (.cells #[.slice none 0 0, .slice none 0 0, .slice none 0 0] 25)).heap.size = w.heap.size + 1 + 1 := by simp
  generalize ((w.alloc (.cells #[a, b, c] 25)).alloc (.cells #[.slice none 0 0, .slice none 0 0, .slice none 0 0] 25)) = W at B0 B1 hb0 hs0 ⊢
  have HB0 := Lib.hid B0
  have HB1 := Lib.hid B1
  have HG := Lib.hid hb0
  have HS := Lib.hid hs0
  clear B0 B1 hb0 hs0
  have bb := HB0.out
  have pc0 : W.cell? ⟨w.heap.size, 0, none⟩ = some a := bb.cell 0 _ rfl
  have pc1 : W.cell? ⟨w.heap.size, 1, none⟩ = some b := bb.cell 1 _ rfl
  have pc2 : W.cell? ⟨w.heap.size, 2, none⟩ = some c := bb.cell 2 _ rfl
  clear bb
  go_wp2_with fail
  refine (is_any g _ _ (HV.out.on HG.out)).mono ?_
  rintro e w1 ⟨rfl, hb1⟩
  rw [HOK.out]
  have HB1W := Lib.hid hb1
  clear hb1 pc0 pc1 pc2
  have bb1 := HB1.out.keep (grown_of_below HB1W.out none)
  have qc0 : w1.cell? ⟨(w.heap.size + 1), 0, none⟩ = some (.slice none 0 0) := bb1.cell 0 _ rfl
  have qc1 : w1.cell? ⟨(w.heap.size + 1), 1, none⟩ = some (.slice none 0 0) := bb1.cell 1 _ rfl
  have qc2 : w1.cell? ⟨(w.heap.size + 1), 2, none⟩ = some (.slice none 0 0) := bb1.cell 2 _ rfl
  have qf0 : w1.frozen? ⟨(w.heap.size + 1), 0, none⟩ = false := bb1.frozen 0
  have qf1 : w1.frozen? ⟨(w.heap.size + 1), 1, none⟩ = false := bb1.frozen 1
  have qf2 : w1.frozen? ⟨(w.heap.size + 1), 2, none⟩ = false := bb1.frozen 2
  have HPO : Hid (Below w.heap.size w (((w1.setCell ⟨w.heap.size + 1, 0, none⟩ (.slice none 0 0)).setCell ⟨w.heap.size + 1, 1, none⟩ (.slice none 0 0)).setCell ⟨w.heap.size + 1, 2, none⟩ (.slice none 0 0))) := Lib.hid ((((HG.out.trans (HB1W.out.mono (by have := HS.out; omega))).setCell (p := ⟨w.heap.size + 1, 0, none⟩) (by show w.heap.size ≤ w.heap.size + 1; omega) (.slice none 0 0)).setCell (p := ⟨w.heap.size + 1, 1, none⟩) (by show w.heap.size ≤ w.heap.size + 1; omega) (.slice none 0 0)).setCell (p := ⟨w.heap.size + 1, 2, none⟩) (by show w.heap.size ≤ w.heap.size + 1; omega) (.slice none 0 0))
  clear bb1
  go_wp2_with fail
  refine bodyPost_ret (v := .tuple #[.agg #[.slice none 0 0, .slice none 0 0, .slice none 0 0], .slice none 0 0, .bool false]) (by simp [results, Tryd.results23, go_sem, qc0, qc1, qc2]) rfl ?_
  unfold Subbed
  rw [HSUB.out]
  exact ⟨rfl, HPO.out⟩

/-- The first loop: the positions of the set below k, and what numbers they have. -/
structure RelO (w W3 : World) (nb n : Nat) (s : BitVec 256) (v i : Value) (wr : World) (k : Nat) : Prop where
  le : k ≤ n
  eq : i = .int .i64 k
  old : wr.ownsRow W3.heap.size 3 1 v (P.pre2 s k).length (P.vals (P.pre2 s k))
  now : wr.ownsRow w.heap.size 3 1 (.slice (some ⟨nb, 0, none⟩) n n) n (P.nowTo s n k)
  grown : W3.grownBy wr (some nb)
theorem vals_snoc (l : List Nat) (k : Nat) : P.vals (l ++ [k]) = P.vals l ++ [.int .i64 (k : Int)] := by unfold P.vals; simp
set_option maxRecDepth 100000 in
set_option maxHeartbeats 4000000 in
theorem rsub_ok (g : P.G) (s : BitVec 256) (v : Value) (qi : Nat) (ti : TypeId) (w : World) (hv : GameV w v g) (hin : Box w qi ti (P.truths s)) (hok : g.Right) : Calls Tryd.prog 23 #[v, .slice (some ⟨qi, 0, none⟩) 256 256] w (Subbed w g s) := by
  have HRT := Lib.hid hok
  have HK := Lib.hid ((P.G.ok_iff g).2 hok)
  have HV := Lib.hid hv
  have HIN := Lib.hid hin
  have hmany := hok.many
  obtain ⟨m, hm⟩ : ∃ m, g.owner.length = m := ⟨_, rfl⟩
  have hpos : 0 < m := by rw [← hm]; exact hok.pos
  rw [hm] at hmany
  obtain ⟨ga, gao, ka, gb, gbo, kb, gc, gco, kc, rfl, hga, hgb, hgc⟩ := hv.open_ hm (by rw [hok.prio, hm]) (by rw [hok.moves, hm]) hpos
  have HGA := Lib.hid hga
  have HGB := Lib.hid hgb
  have HGC := Lib.hid hgc
  have HM := Lib.hid hm
  have HOL := Lib.hid (show g.old s = P.pre2 s m by rw [← hm]; exact P.old_pre2 g s (by omega))
  clear hv hin hok hga hgb hgc hm
  go_enter Tryd.func23, Tryd.ntmps23
  go_wp2_with fail
  have B0 : Box ((w.alloc (.cells #[.slice (some ⟨ga, gao, none⟩) m ka, .slice (some ⟨gb, gbo, none⟩) m kb, .slice (some ⟨gc, gco, none⟩) m kc] 25)).alloc (.cells #[.slice none 0 0, .slice none 0 0, .slice none 0 0] 25)) w.heap.size 25 #[.slice (some ⟨ga, gao, none⟩) m ka, .slice (some ⟨gb, gbo, none⟩) m kb, .slice (some ⟨gc, gco, none⟩) m kc] := (Box.new w _ _).alloc _
  have B1 : Box ((w.alloc (.cells #[.slice (some ⟨ga, gao, none⟩) m ka, .slice (some ⟨gb, gbo, none⟩) m kb, .slice (some ⟨gc, gco, none⟩) m kc] 25)).alloc (.cells #[.slice none 0 0, .slice none 0 0, .slice none 0 0] 25)) (w.heap.size + 1) 25 #[.slice none 0 0, .slice none 0 0, .slice none 0 0] := by
    have := Box.new (w.alloc (.cells #[.slice (some ⟨ga, gao, none⟩) m ka, .slice (some ⟨gb, gbo, none⟩) m kb, .slice (some ⟨gc, gco, none⟩) m kc] 25)) 25 #[.slice none 0 0, .slice none 0 0, .slice none 0 0]
    simpa using this
  have hb0 : Below w.heap.size w ((w.alloc (.cells #[.slice (some ⟨ga, gao, none⟩) m ka, .slice (some ⟨gb, gbo, none⟩) m kb, .slice (some ⟨gc, gco, none⟩) m kc] 25)).alloc (.cells #[.slice none 0 0, .slice none 0 0, .slice none 0 0] 25)) := ((Below.refl _ w).alloc (Nat.le_refl _) _).alloc (by simp) _
  have hs0 : ((w.alloc (.cells #[.slice (some ⟨ga, gao, none⟩) m ka, .slice (some ⟨gb, gbo, none⟩) m kb, .slice (some ⟨gc, gco, none⟩) m kc] 25)).alloc (.cells #[.slice none 0 0, .slice none 0 0, .slice none 0 0] 25)).heap.size = w.heap.size + 1 + 1 := by simp
  generalize ((w.alloc (.cells #[.slice (some ⟨ga, gao, none⟩) m ka, .slice (some ⟨gb, gbo, none⟩) m kb, .slice (some ⟨gc, gco, none⟩) m kc] 25)).alloc (.cells #[.slice none 0 0, .slice none 0 0, .slice none 0 0] 25)) = W at B0 B1 hb0 hs0 ⊢
  have HB0 := Lib.hid B0
  have HB1 := Lib.hid B1
  have HG := Lib.hid hb0
  have HS := Lib.hid hs0
  clear B0 B1 hb0 hs0
  have bb := HB0.out
  have pc0 : W.cell? ⟨w.heap.size, 0, none⟩ = some (.slice (some ⟨ga, gao, none⟩) m ka) := bb.cell 0 _ rfl
  have pc1 : W.cell? ⟨w.heap.size, 1, none⟩ = some (.slice (some ⟨gb, gbo, none⟩) m kb) := bb.cell 1 _ rfl
  have pc2 : W.cell? ⟨w.heap.size, 2, none⟩ = some (.slice (some ⟨gc, gco, none⟩) m kc) := bb.cell 2 _ rfl
  clear bb
  go_wp2_with fail
  refine (is_any g _ _ (HV.out.on HG.out)).mono ?_
  rintro e w1 ⟨rfl, hb1⟩
  rw [HK.out]
  replace HB0 := Lib.hid (HB0.out.keep (grown_of_below hb1 none))
  have HB1W := Lib.hid hb1
  clear hb1 pc0 pc1 pc2
  have bb := HB0.out
  have pc0 : w1.cell? ⟨w.heap.size, 0, none⟩ = some (.slice (some ⟨ga, gao, none⟩) m ka) := bb.cell 0 _ rfl
  have pc1 : w1.cell? ⟨w.heap.size, 1, none⟩ = some (.slice (some ⟨gb, gbo, none⟩) m kb) := bb.cell 1 _ rfl
  have pc2 : w1.cell? ⟨w.heap.size, 2, none⟩ = some (.slice (some ⟨gc, gco, none⟩) m kc) := bb.cell 2 _ rfl
  clear bb
  go_wp2_with (refine wpl_make elInt rfl (.tmp 23) (.tmp 23) rfl m rfl rfl ?_ ?_ ?_)
  · omega
  · omega
  intro W3 hown hg hsz
  replace HB0 := Lib.hid (HB0.out.keep hg)
  have HBW3 := Lib.hid (HB1W.out.trans ((below_of_grown hg).mono HB1W.out.size))
  have HSZ3 := Lib.hid (show w1.heap.size < W3.heap.size by omega)
  have hnow : W3.ownsRow w1.heap.size 3 1 (.slice (some ⟨w1.heap.size, 0, none⟩) m m) m (P.nowTo s m 0) := by
    rw [P.nowTo_zero]
    simpa using hown
  have HNB : Hid (W.heap.size ≤ w1.heap.size) := Lib.hid HB1W.out.size
  have HNOW := Lib.hid (own_more hnow (show w.heap.size ≤ w1.heap.size by have := HNB.out; have := HS.out; omega))
  clear hnow hown hg hsz pc0 pc1 pc2
  generalize w1.heap.size = nb at HNOW HSZ3 HNB ⊢
  go_wp2_with fail
  go_loopw [8, 10] (fun v i wr => ∃ k, RelO w W3 nb m s v i wr k) (fun _ i _ => m - (intOf i).toNat)
  case atStart => exact ⟨0, Nat.zero_le _, rfl, World.ownsRow_nil _ _ _ _, HNOW.out, Rg.grown_refl _ _⟩
  case round =>
    obtain ⟨k, hR⟩ := hrel
    have hk := hR.le
    obtain rfl := hR.eq
    obtain ⟨vo, vk, rfl, -⟩ := own_at hR.old
    have hj0 : (0 : Int) ≤ (k : Int) := Int.natCast_nonneg _
    have HR := Lib.hid hR
    clear hR
    have HNE : Hid (w.heap.size ≠ nb ∧ w.heap.size + 1 ≠ nb) := Lib.hid (by have := HNB.out; have := HS.out; omega)
    have HB0R := Lib.hid (HB0.out.grown HR.out.grown (by intro e; injection e with e; exact HNE.out.1 e))
    have HALL : ∀ wz, W3.grownBy wz (some nb) → Below W.heap.size W wz := fun wz h => HBW3.out.trans (below_mono_grown h HBW3.out.size (by intro p hp; injection hp with hp; have := HNB.out; omega))
    have HALL := Lib.hid HALL
    have HALW : Hid (∀ wz, W3.grownBy wz (some nb) → Below w.heap.size w wz) := Lib.hid (fun wz h => HG.out.trans ((HALL.out wz h).mono (by have := HS.out; omega)))
    by_cases hlt : k < m
    · have fj : decide ((k : Int) < (m : Int)) = true := decide_eq_true (by omega)
      have hki : (k : Int) < (m : Int) := by omega
      have cx : ∃ u, wr.cell? ⟨nb, k, none⟩ = some u := by
        rw [HR.out.now.cellAt k (by omega), List.getElem?_eq_getElem (by rw [P.nowTo_len]; exact hlt)]
        exact ⟨_, rfl⟩
      obtain ⟨u, cx⟩ := cx
      have fx : wr.frozen? ⟨nb, k, none⟩ = false := HR.out.now.frozenAt k
      have bb := HB0R.out
      have pc0 : wr.cell? ⟨w.heap.size, 0, none⟩ = some (.slice (some ⟨ga, gao, none⟩) m ka) := bb.cell 0 _ rfl
      have pc1 : wr.cell? ⟨w.heap.size, 1, none⟩ = some (.slice (some ⟨gb, gbo, none⟩) m kb) := bb.cell 1 _ rfl
      have pc2 : wr.cell? ⟨w.heap.size, 2, none⟩ = some (.slice (some ⟨gc, gco, none⟩) m kc) := bb.cell 2 _ rfl
      clear bb
      go_upto_region 10 with (fail)
      have hs := HR.out.now.stored k (.int .i64 (-1))
      have HO1 := Lib.hid (own_past HR.out.old hs.2 (by intro p hp; injection hp with hp; have := HSZ3.out; omega))
      have HN1 := Lib.hid hs.1
      have HG1 := Lib.hid (HR.out.grown.trans hs.2)
      clear hs cx fx pc0 pc1 pc2
      generalize (wr.setCell ⟨nb, k, none⟩ (.int .i64 (-1))) = wx at HO1 HN1 HG1 ⊢
      obtain ⟨bt, hbt⟩ : ∃ b, s.getLsbD k = b := ⟨_, rfl⟩
      have cin : wx.cell? ⟨qi, k, none⟩ = some (.bool bt) := by
        rw [← hbt]
        exact ((HALW.out wx HG1.out).cell (p := ⟨qi, k, none⟩) (show qi < w.heap.size from HIN.out.lt)).trans (HIN.out.cell k _ (P.truths_at s k (by omega)))
      have f256 : decide ((k : Int) < 256) = true := decide_eq_true (by omega)
      have i256 : (k : Int) < 256 := by omega
      have HBT := Lib.hid hbt
      clear hbt
      cases bt with
      | false =>
        have HREL := Lib.hid (show RelO w W3 nb m s (.slice vo (P.pre2 s k).length vk) (.int .i64 ((k + 1 : Nat) : Int)) wx (k + 1) from
          ⟨by omega, rfl, by rw [P.pre2_succ, if_neg (by rw [HBT.out]; decide)]; exact HO1.out, by rw [← P.nowTo_no s m k HBT.out]; exact HN1.out, HG1.out⟩)
        go_wp2_with fail
        go_roundw
        case rel => exact ⟨k + 1, HREL.out⟩
        case measure => simp [intOf]; omega
      | true =>
        have cy : ∃ u, wx.cell? ⟨nb, k, none⟩ = some u := by
          rw [HN1.out.cellAt k (by omega), List.getElem?_eq_getElem (by rw [List.length_set, P.nowTo_len]; exact hlt)]
          exact ⟨_, rfl⟩
        obtain ⟨u, cy⟩ := cy
        have fy : wx.frozen? ⟨nb, k, none⟩ = false := HN1.out.frozenAt k
        have hpl := P.pre2_len s k
        go_upto_region 12 with (fail)
        have hs := HN1.out.stored k (.int .i64 ((P.pre2 s k).length : Int))
        have HO2 := Lib.hid (own_past HO1.out hs.2 (by intro p hp; injection hp with hp; have := HSZ3.out; omega))
        have HN2 := Lib.hid (show (wx.setCell ⟨nb, k, none⟩ (.int .i64 ((P.pre2 s k).length : Int))).ownsRow w.heap.size 3 1 (.slice (some ⟨nb, 0, none⟩) m m) m (P.nowTo s m (k + 1)) by
          rw [← P.nowTo_yes s m k HBT.out (.int .i64 (-1))]
          exact hs.1)
        have HG2 := Lib.hid (HG1.out.trans hs.2)
        clear hs cy fy cin f256 i256
        generalize (wx.setCell ⟨nb, k, none⟩ (.int .i64 ((P.pre2 s k).length : Int))) = wy at HO2 HN2 HG2 ⊢
        go_wp2_with (at_builtin; refine wpl_append elInt rfl (.tmp 50) (.tmp 52) rfl rfl (own_grown HO2.out (World.grownBy_alloc _ _ none)) rfl (row_one _ _ _) ?_ ?_ ?_ ?_ ?_)
        · intro u hu; simp at hu; subst hu; rfl
        · simp; omega
        · simp; omega
        · have := HG2.out.size; simp; omega
        intro v' wz hown hgr hat
        have hal := World.grownBy_alloc wy (.cells #[.int .i64 (k : Int)] 3) none
        have hn2 := own_grown HN2.out hal
        have hg2 := HG2.out.trans (Rg.grown_weak hal (row := some nb))
        have hol : ∀ p, (Value.slice vo (P.pre2 s k).length vk).ownBlock = some p → W3.heap.size ≤ p := fun p hp => (own_lt HO2.out p hp).1
        generalize (wy.alloc (.cells #[.int .i64 (k : Int)] 3)) = wy1 at hgr hn2 hg2
        have HREL := Lib.hid (show RelO w W3 nb m s v' (.int .i64 ((k + 1 : Nat) : Int)) wz (k + 1) from
          ⟨by omega, rfl, by
            rw [P.pre2_succ, if_pos HBT.out, vals_snoc, List.length_append]
            exact hown, own_kept hn2 hgr (by
              cases hb : (Value.slice vo (P.pre2 s k).length vk).ownBlock with
              | none => exact .inr (by simp [Value.ownBlock])
              | some q => exact .inr (by intro e; have h1 : nb = q := (by simpa [Value.ownBlock] using e); have := hol q hb; have := HSZ3.out; omega)), grown_mix hg2 hgr hol⟩)
        clear hown hgr hat hal hn2 hg2 hol
        go_wp2_with fail
        go_roundw
        case rel => exact ⟨k + 1, HREL.out⟩
        case measure => simp [intOf]; omega
    · obtain rfl : k = m := by omega
      have fj : decide ((k : Int) < (k : Int)) = false := decide_eq_false (Int.lt_irrefl _)
      have bb := HB0R.out
      have pc0 : wr.cell? ⟨w.heap.size, 0, none⟩ = some (.slice (some ⟨ga, gao, none⟩) k ka) := bb.cell 0 _ rfl
      have pc1 : wr.cell? ⟨w.heap.size, 1, none⟩ = some (.slice (some ⟨gb, gbo, none⟩) k kb) := bb.cell 1 _ rfl
      have pc2 : wr.cell? ⟨w.heap.size, 2, none⟩ = some (.slice (some ⟨gc, gco, none⟩) k kc) := bb.cell 2 _ rfl
      clear bb
      go_wp2_with fail
      have bs : Box (wr.alloc (.cells #[.slice none 0 0, .slice none 0 0, .slice none 0 0] 25)) wr.heap.size 25 #[.slice none 0 0, .slice none 0 0, .slice none 0 0] := Box.new _ _ _
      have hg5 : W3.grownBy (wr.alloc (.cells #[.slice none 0 0, .slice none 0 0, .slice none 0 0] 25)) (some nb) := HR.out.grown.trans (World.grownBy_alloc _ _ _)
      have hqs : W3.heap.size ≤ wr.heap.size := HR.out.grown.size
      have hl5 : wr.heap.size < (wr.alloc (.cells #[.slice none 0 0, .slice none 0 0, .slice none 0 0] 25)).heap.size := by simp
      have hold := own_grown HR.out.old (World.grownBy_alloc wr (.cells #[.slice none 0 0, .slice none 0 0, .slice none 0 0] 25) none)
      have hnow := own_grown HR.out.now (World.grownBy_alloc wr (.cells #[.slice none 0 0, .slice none 0 0, .slice none 0 0] 25) none)
      clear HR HB0R pc0 pc1 pc2 fj
      generalize (wr.alloc (.cells #[.slice none 0 0, .slice none 0 0, .slice none 0 0] 25)) = w5 at bs hg5 hl5 hold hnow ⊢
      generalize wr.heap.size = qs at bs hqs hl5 ⊢
      obtain ⟨m, rfl⟩ : ∃ m, m = k := ⟨k, rfl⟩
      obtain ⟨ol, hol⟩ : ∃ ol, P.pre2 s m = ol := ⟨_, rfl⟩
      rw [hol] at hold HOL ⊢
      have hol200 : ol.length ≤ 200 := by have := P.pre2_len s m; rw [hol] at this; omega
      have HPRE := Lib.hid hol
      have BS5 := Lib.hid bs
      have HG5 := Lib.hid hg5
      have HQS := Lib.hid hqs
      have HL5 := Lib.hid hl5
      have HOLD := Lib.hid hold
      have HNOW5 := Lib.hid hnow
      clear bs hg5 hqs hl5 hold hnow hol hlt
      by_cases hol0 : ol.length = 0
      · have hnil : ol = [] := List.eq_nil_of_length_eq_zero hol0
        have HSUB := Lib.hid (show g.has s = false by unfold P.G.has; rw [HOL.out, List.eq_nil_of_length_eq_zero hol0]; simp)
        have HB5 := Lib.hid (HALL.out w5 HG5.out)
        clear hol0 HOLD HPRE HOL
        subst hnil
        simp only [List.length_nil]
        go_loopw [12] (fun i wr => i = .int .i64 0 ∧ wr = w5) (fun _ _ => 0)
        case atStart => exact ⟨rfl, rfl⟩
        case round =>
          obtain ⟨rfl, rfl⟩ := hrel
          have bb1 := HB1.out.keep (grown_of_below HB5.out none)
          have qc0 : wr.cell? ⟨(w.heap.size + 1), 0, none⟩ = some (.slice none 0 0) := bb1.cell 0 _ rfl
          have qc1 : wr.cell? ⟨(w.heap.size + 1), 1, none⟩ = some (.slice none 0 0) := bb1.cell 1 _ rfl
          have qc2 : wr.cell? ⟨(w.heap.size + 1), 2, none⟩ = some (.slice none 0 0) := bb1.cell 2 _ rfl
          have qf0 : wr.frozen? ⟨(w.heap.size + 1), 0, none⟩ = false := bb1.frozen 0
          have qf1 : wr.frozen? ⟨(w.heap.size + 1), 1, none⟩ = false := bb1.frozen 1
          have qf2 : wr.frozen? ⟨(w.heap.size + 1), 2, none⟩ = false := bb1.frozen 2
          have HPO : Hid (Below w.heap.size w (((wr.setCell ⟨w.heap.size + 1, 0, none⟩ (.slice none 0 0)).setCell ⟨w.heap.size + 1, 1, none⟩ (.slice none 0 0)).setCell ⟨w.heap.size + 1, 2, none⟩ (.slice none 0 0))) := Lib.hid ((((HG.out.trans (HB5.out.mono (by have := HS.out; omega))).setCell (p := ⟨w.heap.size + 1, 0, none⟩) (by show w.heap.size ≤ w.heap.size + 1; omega) (.slice none 0 0)).setCell (p := ⟨w.heap.size + 1, 1, none⟩) (by show w.heap.size ≤ w.heap.size + 1; omega) (.slice none 0 0)).setCell (p := ⟨w.heap.size + 1, 2, none⟩) (by show w.heap.size ≤ w.heap.size + 1; omega) (.slice none 0 0))
          clear bb1
          go_wp2_with fail
          refine bodyPost_ret (v := .tuple #[.agg #[.slice none 0 0, .slice none 0 0, .slice none 0 0], .slice none 0 0, .bool false]) (by simp [results, Tryd.results23, go_sem, qc0, qc1, qc2]) rfl ?_
          unfold Subbed
          rw [HSUB.out]
          exact ⟨rfl, HPO.out⟩
      · have holp : 0 < ol.length := by omega
        obtain ⟨q9, k9', e9, hq9a, hq9b, -, -⟩ := own_form HOLD.out holp
        obtain ⟨rfl, -⟩ : vo = some ⟨q9, 0, none⟩ ∧ vk = k9' := by injection e9 with h1 h2 h3; exact ⟨h1, h3⟩
        have HQ9 := Lib.hid hq9b
        have HQ9A := Lib.hid hq9a
        clear hol0 e9 hq9a hq9b
        go_loopw [12] (fun i wr => ∃ k A B C L, RelS w5 qs g s ol i wr k A B C L) (fun i _ => ol.length - (intOf i).toNat)
        case atStart => exact ⟨0, _, _, _, _, Nat.zero_le _, rfl, BS5.out, by rw [P.G.partTo_zero]; exact Built.start _ _, Rg.grown_refl _ _, fun j _ h => by omega⟩
        case round =>
          obtain ⟨wo, rfl⟩ : ∃ wo : World, wo = wr := ⟨_, rfl⟩
          obtain ⟨k, A, B, C, L, hR⟩ := hrel
          have hk := hR.le
          obtain rfl := hR.eq
          have hj0 : (0 : Int) ≤ (k : Int) := Int.natCast_nonneg _
          have HR := Lib.hid hR
          clear hR
          have H9R := Lib.hid (own_kept HOLD.out HR.out.grown (.inr (own_box HOLD.out BS5.out (by decide))))
          have HNR := Lib.hid (own_kept HNOW5.out HR.out.grown (.inr (own_box HNOW5.out BS5.out (by decide))))
          have HNQ : Hid (nb ≠ qs ∧ w.heap.size ≠ qs ∧ w.heap.size + 1 ≠ qs ∧ w.heap.size < qs) := Lib.hid (by have := HQS.out; have := HSZ3.out; have := HNB.out; have := HS.out; omega)
          have HB0R := Lib.hid ((HB0.out.grown HG5.out (by intro e; injection e with e; exact HNE.out.1 e)).grown HR.out.grown (by intro e; injection e with e; exact HNQ.out.2.1 e))
          have HBW := Lib.hid ((HALL.out w5 HG5.out).trans (below_mono_grown HR.out.grown (B := W.heap.size) (HALL.out w5 HG5.out).size (by intro p hp; injection hp with hp; have := HQS.out; have := HSZ3.out; have := HNB.out; omega)))
          have HBWW := Lib.hid (HG.out.trans (HBW.out.mono (by have := HS.out; omega)))
          have HL5R : Hid (w5.heap.size ≤ wo.heap.size) := Lib.hid HR.out.grown.size
          by_cases hlt : k < ol.length
          · have fj : decide ((k : Int) < (ol.length : Int)) = true := decide_eq_true (by omega)
            have hki : (k : Int) < (ol.length : Int) := by omega
            have cx : wo.cell? ⟨q9, k, none⟩ = some (.int .i64 ((ol[k] : Nat) : Int)) := by
              rw [H9R.out.cellAt k (by omega)]
              unfold P.vals
              rw [List.getElem?_map, List.getElem?_eq_getElem hlt]
              rfl
            have hmem : ol[k] ∈ g.old s := by rw [HOL.out]; exact List.getElem_mem hlt
            have hatm := (P.old_lt g s _ hmem).1
            rw [HM.out] at hatm
            obtain ⟨at_, hate⟩ : ∃ x, ol[k] = x := ⟨_, rfl⟩
            rw [hate] at cx hatm hmem
            have HATE := Lib.hid hate
            have HMEM := Lib.hid hmem
            have hati : (at_ : Int) < (m : Int) := by omega
            have hati0 : (0 : Int) ≤ (at_ : Int) := by omega
            obtain ⟨xv, cxv, hxv⟩ := HGC.out wo HBWW.out at_ hatm
            have hrt := HRT.out.at at_ (by rw [HM.out]; exact hatm)
            obtain ⟨l, hl⟩ : ∃ l, g.moves.getD at_ [] = l := ⟨_, rfl⟩
            obtain ⟨zo, hzo⟩ : ∃ zo, g.owner.getD at_ 0 = zo := ⟨_, rfl⟩
            obtain ⟨zp, hzp⟩ : ∃ zp, g.prio.getD at_ 0 = zp := ⟨_, rfl⟩
            rw [hl, HM.out] at hrt
            rw [hl] at hxv
            obtain ⟨-, -, -, hlne, hrise⟩ := hrt
            have hlb : l.length ≤ 200 := P.rise_len hrise hmany
            have hl0 : 0 < l.length := List.length_pos_iff.2 hlne
            obtain ⟨bx, ox, xk, rfl, hcx⟩ := hxv.open_ rfl hl0
            have HXV := Lib.hid hcx
            have HCXV := Lib.hid cxv
            have HC9 := Lib.hid cx
            have HRISE := Lib.hid hrise
            have HL := Lib.hid hl
            have HZO := Lib.hid hzo
            have HZP := Lib.hid hzp
            clear hate hmem cxv hl hzo hzp hlne hrise hcx hxv cx
            go_wp2_with fail
            go_loopw [13, 14] (fun v i wr => ∃ j, RelI wo s ol l v i wr j) (fun _ i _ => l.length - (intOf i).toNat)
            case atStart => exact ⟨0, Nat.zero_le _, rfl, OwnI.nil _ _, Below.refl _ _⟩
            case round =>
              obtain ⟨j, hI⟩ := hrel
              have hjl := hI.le
              obtain rfl := hI.eq
              have hj1 : (0 : Int) ≤ (j : Int) := Int.natCast_nonneg _
              have HI := Lib.hid hI
              clear hI
              have b0 := Lib.hid (HB0R.out.keep (grown_of_below HI.out.below none))
              have bb := b0.out
              have pc0 : wr.cell? ⟨w.heap.size, 0, none⟩ = some (.slice (some ⟨ga, gao, none⟩) m ka) := bb.cell 0 _ rfl
              have pc1 : wr.cell? ⟨w.heap.size, 1, none⟩ = some (.slice (some ⟨gb, gbo, none⟩) m kb) := bb.cell 1 _ rfl
              have pc2 : wr.cell? ⟨w.heap.size, 2, none⟩ = some (.slice (some ⟨gc, gco, none⟩) m kc) := bb.cell 2 _ rfl
              clear bb
              have c9 : wr.cell? ⟨q9, k, none⟩ = some (.int .i64 (at_ : Int)) := (grown_of_below HI.out.below none).cell HC9.out (by simp)
              have cv : wr.cell? ⟨gc, gco + at_, none⟩ = some (.slice (some ⟨bx, ox, none⟩) l.length xk) := (grown_of_below HI.out.below none).cell HCXV.out (by simp)
              by_cases hlj : j < l.length
              · have fjl : decide ((j : Int) < (l.length : Int)) = true := decide_eq_true (by omega)
                have hji : (j : Int) < (l.length : Int) := by omega
                go_wp2_with fail
                go_quiet (fail)
                rename_i nq
                clear pc0 pc1 pc2 c9 cv b0
                have hb := below_drewN (Below.refl wr.heap.size wr) nq
                have hi1 := HI.out.below.trans (hb.mono HI.out.below.size)
                have hi2 := own_grown HI.out.own (grown_of_below hb none)
                clear hb
                generalize wr.drewN nq = wq at hi1 hi2 ⊢
                have HB1I := Lib.hid hi1
                have HO1I := Lib.hid hi2
                have b0 := Lib.hid (HB0R.out.keep (grown_of_below hi1 none))
                have bb := b0.out
                have pc0 : wq.cell? ⟨w.heap.size, 0, none⟩ = some (.slice (some ⟨ga, gao, none⟩) m ka) := bb.cell 0 _ rfl
                have pc1 : wq.cell? ⟨w.heap.size, 1, none⟩ = some (.slice (some ⟨gb, gbo, none⟩) m kb) := bb.cell 1 _ rfl
                have pc2 : wq.cell? ⟨w.heap.size, 2, none⟩ = some (.slice (some ⟨gc, gco, none⟩) m kc) := bb.cell 2 _ rfl
                clear bb
                have c9 : wq.cell? ⟨q9, k, none⟩ = some (.int .i64 (at_ : Int)) := (grown_of_below hi1 none).cell HC9.out (by simp)
                have cv : wq.cell? ⟨gc, gco + at_, none⟩ = some (.slice (some ⟨bx, ox, none⟩) l.length xk) := (grown_of_below hi1 none).cell HCXV.out (by simp)
                have hcell := HXV.out wq hi1 j hlj
                have hmb := P.rise_bounds HRISE.out (l.getD j 0) (by rw [List.getD_eq_getElem?_getD, List.getElem?_eq_getElem hlj]; exact List.getElem_mem hlj)
                have htake : l.take (j + 1) = l.take j ++ [l.getD j 0] := by
                  rw [List.take_succ_eq_append_getElem hlj, List.getD_eq_getElem?_getD, List.getElem?_eq_getElem hlj]
                  rfl
                obtain ⟨mz, hmz⟩ : ∃ mz, l.getD j 0 = mz := ⟨_, rfl⟩
                rw [hmz] at hcell hmb htake
                obtain ⟨mn, rfl⟩ := Int.eq_ofNat_of_zero_le (show 0 ≤ mz by omega)
                have hmn : mn < m := by omega
                have hmi : (mn : Int) < (m : Int) := by omega
                have hm0 : (0 : Int) ≤ (mn : Int) := Int.natCast_nonneg _
                have HT1 := Lib.hid htake
                have cnow : wq.cell? ⟨nb, mn, none⟩ = some (.int .i64 (P.nowOf s mn)) := by
                  have h1 := (own_grown HNR.out (grown_of_below hi1 none)).cellAt mn (by omega)
                  rw [P.nowTo_at s m mn hmn] at h1
                  exact h1
                obtain ⟨bt, hbt⟩ : ∃ b, s.getLsbD mn = b := ⟨_, rfl⟩
                have HBT := Lib.hid hbt
                have hhas : P.has s (mn : Int) = bt := by rw [← hbt]; unfold P.has; simp
                have HHAS := Lib.hid hhas
                unfold P.nowOf at cnow
                rw [hbt] at cnow
                clear hi1 hi2 hmb htake hmz hbt hhas b0
                cases bt with
                | false =>
                  rw [if_neg (by decide)] at cnow
                  go_wp2_with fail
                  go_quiet (fail)
                  have hb := below_drewN (Below.refl wq.heap.size wq) nq
                  have HREL := Lib.hid (show RelI wo s ol l (_) (.int .i64 ((j + 1 : Nat) : Int)) (wq.drewN nq) (j + 1) from
                    ⟨by omega, rfl, by rw [HT1.out, P.renum_snoc, if_neg (by rw [HHAS.out]; decide)]; exact own_grown HO1I.out (grown_of_below hb none), HB1I.out.trans (hb.mono HB1I.out.size)⟩)
                  clear hb
                  go_wp2_with fail
                  go_roundw
                  case rel => exact ⟨j + 1, HREL.out⟩
                  case measure => simp [intOf]; omega
                | true =>
                  rw [if_pos rfl] at cnow
                  obtain ⟨ix, hix⟩ : ∃ ix, (P.pre2 s mn).length = ix := ⟨_, rfl⟩
                  rw [hix] at cnow
                  have HIX := Lib.hid (show ol.idxOf mn = ix by rw [← HPRE.out, P.idx_pre2 s mn HBT.out m hmn]; exact hix)
                  have hix0 : (0 : Int) ≤ (ix : Int) := Int.natCast_nonneg _
                  have fix : decide ((0 : Int) ≤ (ix : Int)) = true := decide_eq_true hix0
                  clear hix
                  go_wp2_with fail
                  go_quiet (fail)
                  clear pc0 pc1 pc2 c9 cv cnow hcell
                  have hb := below_drewN (Below.refl wq.heap.size wq) nq
                  have hi1 := HB1I.out.trans (hb.mono HB1I.out.size)
                  have hi2 := own_grown HO1I.out (grown_of_below hb none)
                  clear hb
                  generalize wq.drewN nq = w6 at hi1 hi2 ⊢
                  have HB1I := Lib.hid hi1
                  have HO6 := Lib.hid hi2
                  clear hi1 hi2
                  have hrl : (P.renum ol s (l.take j)).length ≤ 200 := by have := P.renum_length ol s (l.take j); rw [List.length_take] at this; omega
                  go_wp2_with (at_builtin; refine wpl_append elInt rfl (.tmp 90) (.tmp 92) rfl rfl (own_grown HO6.out (World.grownBy_alloc _ _ none)) rfl (row_one _ _ _) ?_ ?_ ?_ ?_ ?_)
                  · intro u hu; simp at hu; subst hu; rfl
                  · simp; omega
                  · simp; omega
                  · have := HB1I.out.size; simp; omega
                  intro v' w7 hown hgr hat
                  have HREL := Lib.hid (show RelI wo s ol l v' (.int .i64 ((j + 1 : Nat) : Int)) w7 (j + 1) from
                    ⟨by omega, rfl, by
                      rw [HT1.out, P.renum_snoc, if_pos HHAS.out, Int.toNat_natCast, HIX.out]
                      unfold OwnI
                      simpa using hown, HB1I.out.trans (((Below.refl wo.heap.size w6).alloc HB1I.out.size _).grown hgr (by have := HB1I.out.size; simp; omega) (fun p hp => (own_lt HO6.out p hp).1))⟩)
                  clear hown hgr hat
                  go_wp2_with fail
                  go_roundw
                  case rel => exact ⟨j + 1, HREL.out⟩
                  case measure => simp [intOf]; omega
              · have fjl : decide ((j : Int) < (l.length : Int)) = false := decide_eq_false (by omega)
                have htake : l.take j = l := List.take_of_length_le (by omega)
                go_wp2_with fail
                go_quiet (fail)
                clear pc0 pc1 pc2 c9 cv b0
                have hb := below_drewN (Below.refl wr.heap.size wr) nq
                have hi1 := HI.out.below.trans (hb.mono HI.out.below.size)
                have hi2 := own_grown HI.out.own (grown_of_below hb none)
                rw [htake] at hi2
                clear hb htake HI
                generalize wr.drewN nq = wq at hi1 hi2 ⊢
                have hi3 : OwnI wq wo.heap.size _ (P.renum ol s l) := hi2
                obtain ⟨lo2, lk2, rfl, -⟩ := own_at hi3
                have HBI := Lib.hid hi1
                have HMID := Lib.hid (Mid.start HR.out.built (grown_of_below HBI.out none) hi3)
                have HBXI := Lib.hid (HR.out.box.keep (grown_of_below HBI.out none))
                have HBWI := Lib.hid (HBW.out.trans (HBI.out.mono HBW.out.size))
                clear hi1 hi2 hi3
                by_cases hr0 : (P.renum ol s l).length = 0
                · have f1 : ((((P.renum ol s l).length : Nat) : Int) == 0) = true := by rw [beq_iff_eq]; omega
                  have HSUB := Lib.hid (P.has_false HMEM.out (by rw [HL.out]; exact P.renum_empty hr0))
                  clear hr0
                  have bb1 := HB1.out.keep (grown_of_below HBWI.out none)
                  have qc0 : wq.cell? ⟨(w.heap.size + 1), 0, none⟩ = some (.slice none 0 0) := bb1.cell 0 _ rfl
                  have qc1 : wq.cell? ⟨(w.heap.size + 1), 1, none⟩ = some (.slice none 0 0) := bb1.cell 1 _ rfl
                  have qc2 : wq.cell? ⟨(w.heap.size + 1), 2, none⟩ = some (.slice none 0 0) := bb1.cell 2 _ rfl
                  have qf0 : wq.frozen? ⟨(w.heap.size + 1), 0, none⟩ = false := bb1.frozen 0
                  have qf1 : wq.frozen? ⟨(w.heap.size + 1), 1, none⟩ = false := bb1.frozen 1
                  have qf2 : wq.frozen? ⟨(w.heap.size + 1), 2, none⟩ = false := bb1.frozen 2
                  have HPO : Hid (Below w.heap.size w (((wq.setCell ⟨w.heap.size + 1, 0, none⟩ (.slice none 0 0)).setCell ⟨w.heap.size + 1, 1, none⟩ (.slice none 0 0)).setCell ⟨w.heap.size + 1, 2, none⟩ (.slice none 0 0))) := Lib.hid ((((HG.out.trans (HBWI.out.mono (by have := HS.out; omega))).setCell (p := ⟨w.heap.size + 1, 0, none⟩) (by show w.heap.size ≤ w.heap.size + 1; omega) (.slice none 0 0)).setCell (p := ⟨w.heap.size + 1, 1, none⟩) (by show w.heap.size ≤ w.heap.size + 1; omega) (.slice none 0 0)).setCell (p := ⟨w.heap.size + 1, 2, none⟩) (by show w.heap.size ≤ w.heap.size + 1; omega) (.slice none 0 0))
                  clear bb1
                  go_wp2_with fail
                  refine bodyPost_ret (v := .tuple #[.agg #[.slice none 0 0, .slice none 0 0, .slice none 0 0], .slice none 0 0, .bool false]) (by simp [results, Tryd.results23, go_sem, qc0, qc1, qc2]) rfl ?_
                  unfold Subbed
                  rw [HSUB.out]
                  exact ⟨rfl, HPO.out⟩
                · have f1 : ((((P.renum ol s l).length : Nat) : Int) == 0) = false := by rw [beq_eq_false_iff_ne]; omega
                  have hlen := P.G.partTo_len g s ol k (by omega)
                  have HLO := Lib.hid hlen.1
                  have HLP := Lib.hid hlen.2.1
                  have HLMV := Lib.hid hlen.2.2
                  have HG5W := Lib.hid (HR.out.grown.trans (grown_of_below HBI.out (some qs)))
                  have HL5W : Hid (w5.heap.size ≤ wq.heap.size) := Lib.hid (Nat.le_trans HL5R.out HBI.out.size)
                  have lga : ga < w.heap.size := block_lt_of_cell (HGA.out w (Below.refl _ _) at_ hatm)
                  have lgb : gb < w.heap.size := block_lt_of_cell (HGB.out w (Below.refl _ _) at_ hatm)
                  have hq9q : q9 ≠ qs := fun e => own_box HOLD.out BS5.out (by decide) (by rw [e]; rfl)
                  have FAR : Hid (w.heap.size < w5.heap.size ∧ q9 < w5.heap.size ∧ ga < w5.heap.size ∧ gb < w5.heap.size ∧ w.heap.size ≠ qs ∧ q9 ≠ qs ∧ ga ≠ qs ∧ gb ≠ qs) := Lib.hid (by have := HNQ.out; have := HQ9.out; have := HL5.out; omega)
                  have hbwi := HBWW.out.trans (HBI.out.mono HBWW.out.size)
                  have CAW := HGA.out wq hbwi at_ hatm
                  have CPW := HGB.out wq hbwi at_ hatm
                  rw [HZO.out] at CAW
                  rw [HZP.out] at CPW
                  replace CAW := Lib.hid CAW
                  replace CPW := Lib.hid CPW
                  have C9 := Lib.hid ((grown_of_below HBI.out none).cell HC9.out (by simp))
                  have b0 := HB0R.out.keep (grown_of_below HBI.out none)
                  have CB0 := Lib.hid (b0.cell 0 _ rfl)
                  have CB1 := Lib.hid (b0.cell 1 _ rfl)
                  have CB2 := Lib.hid (b0.cell 2 _ rfl)
                  have HRNE : Hid ((g.moves.getD at_ []).filter (P.has s) ≠ []) := Lib.hid (by
                    intro e
                    apply hr0
                    rw [← HL.out]
                    unfold P.renum
                    rw [e]
                    rfl)
                  clear hlen hbwi hr0 lga lgb hq9q b0
                  go_wp2_with fail
                  refine Rg.wp_region_lit (fun idx => match idx with | 0 => (fun v _ _ => v = (.pointer (some ⟨qs, 0, none⟩))) | 1 => (fun v _ _ => v = A) | 2 => (fun v _ _ => v = (.pointer (some ⟨w.heap.size, 0, none⟩))) | 3 => (fun v _ _ => v = (.slice (some ⟨ga, gao, none⟩) m ka)) | 4 => (fun v _ _ => v = (.slice (some ⟨q9, 0, none⟩) ol.length vk)) | 5 => (fun v _ _ => v = (.int .i64 (k : Int))) | 6 => (fun v _ _ => v = (.pointer (some ⟨q9, k, none⟩))) | 7 => (fun v _ _ => v = (.int .i64 (at_ : Int))) | 8 => (fun v _ _ => v = (.pointer (some ⟨ga, gao + at_, none⟩))) | 9 => (fun v _ _ => v = (.int .i64 zo)) | 10 => (fun v _ w' => ∃ p, v = .slice (some ⟨p, 0, none⟩) 1 1 ∧ wq.heap.size ≤ p ∧ p < w'.heap.size ∧ w'.cell? ⟨p, 0, none⟩ = some (.int .i64 zo)) | 11 => (fun v _ w' => w'.ownsRow w5.heap.size 3 1 v (k + 1) (((g.partTo s ol k).owner).map (Value.int .i64) ++ [.int .i64 zo]) ∧ (v.ownBlock = (A : Value).ownBlock ∨ ∃ p, v.ownBlock = some p ∧ wq.heap.size ≤ p)) | 12 => (fun v _ _ => v = (.pointer (some ⟨qs, 0, none⟩))) | _ => fun _ _ _ => True) ((A : Value).ownBlock) 11 (by kernel_rfl) (by rfl) (by kernel_rfl) (by rfl) ?_ ?_ ?_
                  · refine ⟨?_, ?_, ?_, ?_, ?_, ?_, ?_, ?_, ?_, ?_, ?_, ?_, ?_, trivial⟩
                    · intro A' w' K vals h hn hg hK
                      have r0 : A'.tmps[11]?.getD undef = (.pointer (some ⟨qs, 0, none⟩)) := Rg.slot (h.1)
                      clear h hn hg
                      simp [Oper.wp, execOp, go_sem, r0]
                      exact hK _ _ (Rg.grown_refl _ _) rfl
                    · intro A' w' K vals h hn hg hK
                      have r0 : A'.tmps[98]?.getD undef = vals 0 := Rg.slot h.1
                      have r1 : vals 0 = (.pointer (some ⟨qs, 0, none⟩)) := hn.1
                      have c : w'.cell? ⟨qs, 0, none⟩ = some A := (HBXI.out.grown hg (fun e => own_box HMID.out.built.own.owner HBXI.out (by decide) e.symm)).cell _ _ rfl
                      clear h hn
                      simp [Oper.wp, execOp, go_sem, r0, r1, c]
                      exact hK _ _ (Rg.grown_refl _ _) rfl
                    · intro A' w' K vals h hn hg hK
                      have r0 : A'.tmps[2]?.getD undef = (.pointer (some ⟨w.heap.size, 0, none⟩)) := Rg.slot (h.1)
                      clear h hn hg
                      simp [Oper.wp, execOp, go_sem, r0]
                      exact hK _ _ (Rg.grown_refl _ _) rfl
                    · intro A' w' K vals h hn hg hK
                      have r0 : A'.tmps[100]?.getD undef = vals 2 := Rg.slot h.1
                      have r1 : vals 2 = (.pointer (some ⟨w.heap.size, 0, none⟩)) := hn.1
                      have c : w'.cell? ⟨w.heap.size, 0, none⟩ = some (.slice (some ⟨ga, gao, none⟩) m ka) := (hg.cell CB0.out (fun e => by have h1 : w5.heap.size ≤ w.heap.size := (own_lt HMID.out.built.own.owner _ e.symm).1; have := FAR.out; omega))
                      clear h hn
                      simp [Oper.wp, execOp, go_sem, r0, r1, c]
                      exact hK _ _ (Rg.grown_refl _ _) rfl
                    · intro A' w' K vals h hn hg hK
                      have r0 : A'.tmps[8]?.getD undef = (.slice (some ⟨q9, 0, none⟩) ol.length vk) := Rg.slot (h.1)
                      clear h hn hg
                      simp [Oper.wp, execOp, go_sem, r0]
                      exact hK _ _ (Rg.grown_refl _ _) rfl
                    · intro A' w' K vals h hn hg hK
                      have r0 : A'.tmps[12]?.getD undef = (.int .i64 (k : Int)) := Rg.slot (h.1)
                      clear h hn hg
                      simp [Oper.wp, execOp, go_sem, r0]
                      exact hK _ _ (Rg.grown_refl _ _) rfl
                    · intro A' w' K vals h hn hg hK
                      have r0 : A'.tmps[102]?.getD undef = vals 4 := Rg.slot h.1
                      have r1 : A'.tmps[103]?.getD undef = vals 5 := Rg.slot h.2.1
                      have r2 : vals 4 = (.slice (some ⟨q9, 0, none⟩) ol.length vk) := hn.1
                      have r3 : vals 5 = (.int .i64 (k : Int)) := hn.2.1
                      clear h hn hg
                      simp [Oper.wp, execOp, go_sem, r0, r1, r2, r3, hlt]
                      exact hK _ _ (Rg.grown_refl _ _) rfl
                    · intro A' w' K vals h hn hg hK
                      have r0 : A'.tmps[104]?.getD undef = vals 6 := Rg.slot h.1
                      have r1 : vals 6 = (.pointer (some ⟨q9, k, none⟩)) := hn.1
                      have c : w'.cell? ⟨q9, k, none⟩ = some (.int .i64 (at_ : Int)) := (hg.cell C9.out (fun e => by have h1 : w5.heap.size ≤ q9 := (own_lt HMID.out.built.own.owner _ e.symm).1; have := FAR.out; omega))
                      clear h hn
                      simp [Oper.wp, execOp, go_sem, r0, r1, c]
                      exact hK _ _ (Rg.grown_refl _ _) rfl
                    · intro A' w' K vals h hn hg hK
                      have r0 : A'.tmps[101]?.getD undef = vals 3 := Rg.slot h.1
                      have r1 : A'.tmps[105]?.getD undef = vals 7 := Rg.slot h.2.1
                      have r2 : vals 3 = (.slice (some ⟨ga, gao, none⟩) m ka) := hn.1
                      have r3 : vals 7 = (.int .i64 (at_ : Int)) := hn.2.1
                      clear h hn hg
                      simp [Oper.wp, execOp, go_sem, r0, r1, r2, r3, hatm]
                      exact hK _ _ (Rg.grown_refl _ _) rfl
                    · intro A' w' K vals h hn hg hK
                      have r0 : A'.tmps[106]?.getD undef = vals 8 := Rg.slot h.1
                      have r1 : vals 8 = (.pointer (some ⟨ga, gao + at_, none⟩)) := hn.1
                      have c : w'.cell? ⟨ga, gao + at_, none⟩ = some (.int .i64 zo) := (hg.cell CAW.out (fun e => by have h1 : w5.heap.size ≤ ga := (own_lt HMID.out.built.own.owner _ e.symm).1; have := FAR.out; omega))
                      clear h hn
                      simp [Oper.wp, execOp, go_sem, r0, r1, c]
                      exact hK _ _ (Rg.grown_refl _ _) rfl
                    · intro A' w' K vals h hn hg hK
                      have r0 : A'.tmps[107]?.getD undef = vals 9 := Rg.slot h.1
                      have s0 : vals 9 = .int .i64 zo := hn.1
                      clear h hn
                      simp [Oper.wp, execOp, go_sem, r0, s0]
                      exact hK _ _ (Rg.grown_weak (World.grownBy_alloc _ _ _)) ⟨w'.heap.size, rfl, hg.size, by simp, by simp⟩
                    · intro A' w' K vals h hn hg hK
                      have r0 : A'.tmps[99]?.getD undef = vals 1 := Rg.slot h.1
                      have r1 : A'.tmps[108]?.getD undef = vals 10 := Rg.slot h.2.1
                      have r2 : vals 1 = A := hn.1
                      obtain ⟨p, e9, hp, hlt9, c9⟩ : ∃ p, vals 10 = .slice (some ⟨p, 0, none⟩) 1 1 ∧ wq.heap.size ≤ p ∧ p < w'.heap.size ∧ w'.cell? ⟨p, 0, none⟩ = some (.int .i64 zo) := hn.2.1
                      clear h hn
                      have hg : wq.grownBy w' none := hg
                      have own : w'.ownsRow w5.heap.size 3 1 A k (((g.partTo s ol k).owner).map (Value.int .i64)) := by
                        have this : w'.ownsRow w5.heap.size 3 1 A (g.partTo s ol k).owner.length ((g.partTo s ol k).owner.map (Value.int .i64)) := own_grown HMID.out.built.own.owner hg
                        rw [HLO.out] at this
                        exact this
                      have hrow9 : Row w' (.slice (some ⟨p, 0, none⟩) 1 1) [.int .i64 zo] := ⟨_, _, rfl, .inr ⟨p, 0, rfl, hlt9, fun j u hu => by
                        match j, hu with
                        | 0, hu => simp at hu; subst hu; exact c9⟩⟩
                      obtain ⟨v', w'', hrun, hown, hgr, hat⟩ := run_append elInt 22 own hrow9 (by intro u hu; simp at hu; subst hu; rfl) (by simp; omega) (by simp; omega) (Nat.le_trans HL5W.out hg.size)
                      refine op_append rfl (by simp [Act.eval, r0, r2]) (by simp [Act.eval, r1, e9]) hrun (hK _ _ hgr ⟨hown, ?_⟩)
                      rcases hat with hat | hat
                      · exact .inl hat
                      · exact .inr ⟨_, hat, hg.size⟩
                    · intro A' w' K vals h hn hg hK
                      have r0 : A'.tmps[11]?.getD undef = (.pointer (some ⟨qs, 0, none⟩)) := Rg.slot (h.1)
                      clear h hn hg
                      simp [Oper.wp, execOp, go_sem, r0]
                      exact hK _ _ (Rg.grown_refl _ _) rfl
                  · refine ⟨?_, ?_, ?_, ?_, ?_, ?_, ?_, ?_, ?_, ?_, ?_, ?_, ?_, trivial⟩
                    · exact fun _ _ _ _ _ _ h => h
                    · exact fun _ _ _ _ _ _ h => h
                    · exact fun _ _ _ _ _ _ h => h
                    · exact fun _ _ _ _ _ _ h => h
                    · exact fun _ _ _ _ _ _ h => h
                    · exact fun _ _ _ _ _ _ h => h
                    · exact fun _ _ _ _ _ _ h => h
                    · exact fun _ _ _ _ _ _ h => h
                    · exact fun _ _ _ _ _ _ h => h
                    · exact fun _ _ _ _ _ _ h => h
                    · exact fun _ _ _ _ _ h ⟨p, hv, hp, hl, hc⟩ => ⟨p, hv, hp, Nat.lt_of_lt_of_le hl h.size, h.cell hc (fun e => by have := (own_lt HMID.out.built.own.owner p e.symm).2; omega)⟩
                    · exact fun _ _ _ _ _ h ho => ⟨own_grown ho.1 h, ho.2⟩
                    · exact fun _ _ _ _ _ _ h => h
                  · intro vals w2 G hg hS hG
                    have s8 : w2.ownsRow w5.heap.size 3 1 (vals 11) (k + 1) (((g.partTo s ol k).owner).map (Value.int .i64) ++ [.int .i64 zo]) ∧ ((vals 11).ownBlock = (A : Value).ownBlock ∨ ∃ p, (vals 11).ownBlock = some p ∧ wq.heap.size ≤ p) := hS.2.2.2.2.2.2.2.2.2.2.2.1
                    have s9 : vals 12 = .pointer (some ⟨qs, 0, none⟩) := hS.2.2.2.2.2.2.2.2.2.2.2.2.1
                    clear hS
                    obtain ⟨n8, n8k, e8, -⟩ := own_at s8.1
                    have hmid := HMID.out.owner (show w2.ownsRow w5.heap.size 3 1 _ ((g.partTo s ol k).owner.length + 1) _ by rw [HLO.out]; exact s8.1) hg s8.2
                    have hbx := HBXI.out.grown hg (fun e => own_box HMID.out.built.own.owner HBXI.out (by decide) e.symm)
                    have hg5 := grown_mix HG5W.out hg (fun p hp => (own_lt HMID.out.built.own.owner p hp).1)
                    have hl5 := Nat.le_trans HL5W.out hg.size
                    have qc : w2.cell? ⟨qs, 0, none⟩ = some A := hbx.cell 0 _ rfl
                    have qf : w2.frozen? ⟨qs, 0, none⟩ = false := hbx.frozen 0
                    replace CB0 := Lib.hid ((grown_set w2 ⟨qs, 0, none⟩ (.slice n8 (k + 1) n8k)).cell (hg.cell CB0.out (fun e => by have h1 : w5.heap.size ≤ w.heap.size := (own_lt HMID.out.built.own.owner _ e.symm).1; have := FAR.out; omega)) (by intro e; injection e with e; have e : w.heap.size = qs := e; have := FAR.out; omega))
                    replace CB1 := Lib.hid ((grown_set w2 ⟨qs, 0, none⟩ (.slice n8 (k + 1) n8k)).cell (hg.cell CB1.out (fun e => by have h1 : w5.heap.size ≤ w.heap.size := (own_lt HMID.out.built.own.owner _ e.symm).1; have := FAR.out; omega)) (by intro e; injection e with e; have e : w.heap.size = qs := e; have := FAR.out; omega))
                    replace CB2 := Lib.hid ((grown_set w2 ⟨qs, 0, none⟩ (.slice n8 (k + 1) n8k)).cell (hg.cell CB2.out (fun e => by have h1 : w5.heap.size ≤ w.heap.size := (own_lt HMID.out.built.own.owner _ e.symm).1; have := FAR.out; omega)) (by intro e; injection e with e; have e : w.heap.size = qs := e; have := FAR.out; omega))
                    replace C9 := Lib.hid ((grown_set w2 ⟨qs, 0, none⟩ (.slice n8 (k + 1) n8k)).cell (hg.cell C9.out (fun e => by have h1 : w5.heap.size ≤ q9 := (own_lt HMID.out.built.own.owner _ e.symm).1; have := FAR.out; omega)) (by intro e; injection e with e; have e : q9 = qs := e; have := FAR.out; omega))
                    replace CAW := Lib.hid ((grown_set w2 ⟨qs, 0, none⟩ (.slice n8 (k + 1) n8k)).cell (hg.cell CAW.out (fun e => by have h1 : w5.heap.size ≤ ga := (own_lt HMID.out.built.own.owner _ e.symm).1; have := FAR.out; omega)) (by intro e; injection e with e; have e : ga = qs := e; have := FAR.out; omega))
                    replace CPW := Lib.hid ((grown_set w2 ⟨qs, 0, none⟩ (.slice n8 (k + 1) n8k)).cell (hg.cell CPW.out (fun e => by have h1 : w5.heap.size ≤ gb := (own_lt HMID.out.built.own.owner _ e.symm).1; have := FAR.out; omega)) (by intro e; injection e with e; have e : gb = qs := e; have := FAR.out; omega))
                    rw [e8] at hmid
                    have HM2 := Lib.hid (hmid.set hbx (by decide) (by decide) 0 (.slice n8 (k + 1) n8k))
                    have HX2 := Lib.hid (hbx.set 0 (.slice n8 (k + 1) n8k))
                    replace HG5W := Lib.hid (hg5.trans (grown_set w2 ⟨qs, 0, none⟩ (.slice n8 (k + 1) n8k)))
                    replace HL5W : Hid (w5.heap.size ≤ (w2.setCell ⟨qs, 0, none⟩ (.slice n8 (k + 1) n8k)).heap.size) := Lib.hid (by simp [World.setCell]; exact hl5)
                    clear hmid hbx hg5 hl5 s8 hg
                    refine hG ?_
                    clear hG
                    simp [List.dropLast, Rg.putAll, Oper.wp, execOp, go_sem, s9, e8, qc, qf]
                    clear qc qf s9 e8
                    generalize (w2.setCell ⟨qs, 0, none⟩ (.slice n8 (k + 1) n8k)) = w8 at HM2 HX2 HG5W HL5W CB0 CB1 CB2 C9 CAW CPW ⊢
                    go_wp2_with fail
                    refine Rg.wp_region_lit (fun idx => match idx with | 0 => (fun v _ _ => v = (.pointer (some ⟨qs, 1, none⟩))) | 1 => (fun v _ _ => v = B) | 2 => (fun v _ _ => v = (.pointer (some ⟨w.heap.size, 1, none⟩))) | 3 => (fun v _ _ => v = (.slice (some ⟨gb, gbo, none⟩) m kb)) | 4 => (fun v _ _ => v = (.slice (some ⟨q9, 0, none⟩) ol.length vk)) | 5 => (fun v _ _ => v = (.int .i64 (k : Int))) | 6 => (fun v _ _ => v = (.pointer (some ⟨q9, k, none⟩))) | 7 => (fun v _ _ => v = (.int .i64 (at_ : Int))) | 8 => (fun v _ _ => v = (.pointer (some ⟨gb, gbo + at_, none⟩))) | 9 => (fun v _ _ => v = (.int .i64 zp)) | 10 => (fun v _ w' => ∃ p, v = .slice (some ⟨p, 0, none⟩) 1 1 ∧ w8.heap.size ≤ p ∧ p < w'.heap.size ∧ w'.cell? ⟨p, 0, none⟩ = some (.int .i64 zp)) | 11 => (fun v _ w' => w'.ownsRow w5.heap.size 3 1 v (k + 1) (((g.partTo s ol k).prio).map (Value.int .i64) ++ [.int .i64 zp]) ∧ (v.ownBlock = (B : Value).ownBlock ∨ ∃ p, v.ownBlock = some p ∧ w8.heap.size ≤ p)) | 12 => (fun v _ _ => v = (.pointer (some ⟨qs, 1, none⟩))) | _ => fun _ _ _ => True) ((B : Value).ownBlock) 11 (by kernel_rfl) (by rfl) (by kernel_rfl) (by rfl) ?_ ?_ ?_
                    · refine ⟨?_, ?_, ?_, ?_, ?_, ?_, ?_, ?_, ?_, ?_, ?_, ?_, ?_, trivial⟩
                      · intro A' w' K vals h hn hg hK
                        have r0 : A'.tmps[11]?.getD undef = (.pointer (some ⟨qs, 0, none⟩)) := Rg.slot (h.1)
                        clear h hn hg
                        simp [Oper.wp, execOp, go_sem, r0]
                        exact hK _ _ (Rg.grown_refl _ _) rfl
                      · intro A' w' K vals h hn hg hK
                        have r0 : A'.tmps[111]?.getD undef = vals 0 := Rg.slot h.1
                        have r1 : vals 0 = (.pointer (some ⟨qs, 1, none⟩)) := hn.1
                        have c : w'.cell? ⟨qs, 1, none⟩ = some B := (HX2.out.grown hg (fun e => own_box HM2.out.built.own.prio HX2.out (by decide) e.symm)).cell _ _ rfl
                        clear h hn
                        simp [Oper.wp, execOp, go_sem, r0, r1, c]
                        exact hK _ _ (Rg.grown_refl _ _) rfl
                      · intro A' w' K vals h hn hg hK
                        have r0 : A'.tmps[2]?.getD undef = (.pointer (some ⟨w.heap.size, 0, none⟩)) := Rg.slot (h.1)
                        clear h hn hg
                        simp [Oper.wp, execOp, go_sem, r0]
                        exact hK _ _ (Rg.grown_refl _ _) rfl
                      · intro A' w' K vals h hn hg hK
                        have r0 : A'.tmps[113]?.getD undef = vals 2 := Rg.slot h.1
                        have r1 : vals 2 = (.pointer (some ⟨w.heap.size, 1, none⟩)) := hn.1
                        have c : w'.cell? ⟨w.heap.size, 1, none⟩ = some (.slice (some ⟨gb, gbo, none⟩) m kb) := (hg.cell CB1.out (fun e => by have h1 : w5.heap.size ≤ w.heap.size := (own_lt HM2.out.built.own.prio _ e.symm).1; have := FAR.out; omega))
                        clear h hn
                        simp [Oper.wp, execOp, go_sem, r0, r1, c]
                        exact hK _ _ (Rg.grown_refl _ _) rfl
                      · intro A' w' K vals h hn hg hK
                        have r0 : A'.tmps[8]?.getD undef = (.slice (some ⟨q9, 0, none⟩) ol.length vk) := Rg.slot (h.1)
                        clear h hn hg
                        simp [Oper.wp, execOp, go_sem, r0]
                        exact hK _ _ (Rg.grown_refl _ _) rfl
                      · intro A' w' K vals h hn hg hK
                        have r0 : A'.tmps[12]?.getD undef = (.int .i64 (k : Int)) := Rg.slot (h.1)
                        clear h hn hg
                        simp [Oper.wp, execOp, go_sem, r0]
                        exact hK _ _ (Rg.grown_refl _ _) rfl
                      · intro A' w' K vals h hn hg hK
                        have r0 : A'.tmps[115]?.getD undef = vals 4 := Rg.slot h.1
                        have r1 : A'.tmps[116]?.getD undef = vals 5 := Rg.slot h.2.1
                        have r2 : vals 4 = (.slice (some ⟨q9, 0, none⟩) ol.length vk) := hn.1
                        have r3 : vals 5 = (.int .i64 (k : Int)) := hn.2.1
                        clear h hn hg
                        simp [Oper.wp, execOp, go_sem, r0, r1, r2, r3, hlt]
                        exact hK _ _ (Rg.grown_refl _ _) rfl
                      · intro A' w' K vals h hn hg hK
                        have r0 : A'.tmps[117]?.getD undef = vals 6 := Rg.slot h.1
                        have r1 : vals 6 = (.pointer (some ⟨q9, k, none⟩)) := hn.1
                        have c : w'.cell? ⟨q9, k, none⟩ = some (.int .i64 (at_ : Int)) := (hg.cell C9.out (fun e => by have h1 : w5.heap.size ≤ q9 := (own_lt HM2.out.built.own.prio _ e.symm).1; have := FAR.out; omega))
                        clear h hn
                        simp [Oper.wp, execOp, go_sem, r0, r1, c]
                        exact hK _ _ (Rg.grown_refl _ _) rfl
                      · intro A' w' K vals h hn hg hK
                        have r0 : A'.tmps[114]?.getD undef = vals 3 := Rg.slot h.1
                        have r1 : A'.tmps[118]?.getD undef = vals 7 := Rg.slot h.2.1
                        have r2 : vals 3 = (.slice (some ⟨gb, gbo, none⟩) m kb) := hn.1
                        have r3 : vals 7 = (.int .i64 (at_ : Int)) := hn.2.1
                        clear h hn hg
                        simp [Oper.wp, execOp, go_sem, r0, r1, r2, r3, hatm]
                        exact hK _ _ (Rg.grown_refl _ _) rfl
                      · intro A' w' K vals h hn hg hK
                        have r0 : A'.tmps[119]?.getD undef = vals 8 := Rg.slot h.1
                        have r1 : vals 8 = (.pointer (some ⟨gb, gbo + at_, none⟩)) := hn.1
                        have c : w'.cell? ⟨gb, gbo + at_, none⟩ = some (.int .i64 zp) := (hg.cell CPW.out (fun e => by have h1 : w5.heap.size ≤ gb := (own_lt HM2.out.built.own.prio _ e.symm).1; have := FAR.out; omega))
                        clear h hn
                        simp [Oper.wp, execOp, go_sem, r0, r1, c]
                        exact hK _ _ (Rg.grown_refl _ _) rfl
                      · intro A' w' K vals h hn hg hK
                        have r0 : A'.tmps[120]?.getD undef = vals 9 := Rg.slot h.1
                        have s0 : vals 9 = .int .i64 zp := hn.1
                        clear h hn
                        simp [Oper.wp, execOp, go_sem, r0, s0]
                        exact hK _ _ (Rg.grown_weak (World.grownBy_alloc _ _ _)) ⟨w'.heap.size, rfl, hg.size, by simp, by simp⟩
                      · intro A' w' K vals h hn hg hK
                        have r0 : A'.tmps[112]?.getD undef = vals 1 := Rg.slot h.1
                        have r1 : A'.tmps[121]?.getD undef = vals 10 := Rg.slot h.2.1
                        have r2 : vals 1 = B := hn.1
                        obtain ⟨p, e9, hp, hlt9, c9⟩ : ∃ p, vals 10 = .slice (some ⟨p, 0, none⟩) 1 1 ∧ w8.heap.size ≤ p ∧ p < w'.heap.size ∧ w'.cell? ⟨p, 0, none⟩ = some (.int .i64 zp) := hn.2.1
                        clear h hn
                        have hg : w8.grownBy w' none := hg
                        have own : w'.ownsRow w5.heap.size 3 1 B k (((g.partTo s ol k).prio).map (Value.int .i64)) := by
                          have this : w'.ownsRow w5.heap.size 3 1 B (g.partTo s ol k).prio.length ((g.partTo s ol k).prio.map (Value.int .i64)) := own_grown HM2.out.built.own.prio hg
                          rw [HLP.out] at this
                          exact this
                        have hrow9 : Row w' (.slice (some ⟨p, 0, none⟩) 1 1) [.int .i64 zp] := ⟨_, _, rfl, .inr ⟨p, 0, rfl, hlt9, fun j u hu => by
                          match j, hu with
                          | 0, hu => simp at hu; subst hu; exact c9⟩⟩
                        obtain ⟨v', w'', hrun, hown, hgr, hat⟩ := run_append elInt 22 own hrow9 (by intro u hu; simp at hu; subst hu; rfl) (by simp; omega) (by simp; omega) (Nat.le_trans HL5W.out hg.size)
                        refine op_append rfl (by simp [Act.eval, r0, r2]) (by simp [Act.eval, r1, e9]) hrun (hK _ _ hgr ⟨hown, ?_⟩)
                        rcases hat with hat | hat
                        · exact .inl hat
                        · exact .inr ⟨_, hat, hg.size⟩
                      · intro A' w' K vals h hn hg hK
                        have r0 : A'.tmps[11]?.getD undef = (.pointer (some ⟨qs, 0, none⟩)) := Rg.slot (h.1)
                        clear h hn hg
                        simp [Oper.wp, execOp, go_sem, r0]
                        exact hK _ _ (Rg.grown_refl _ _) rfl
                    · refine ⟨?_, ?_, ?_, ?_, ?_, ?_, ?_, ?_, ?_, ?_, ?_, ?_, ?_, trivial⟩
                      · exact fun _ _ _ _ _ _ h => h
                      · exact fun _ _ _ _ _ _ h => h
                      · exact fun _ _ _ _ _ _ h => h
                      · exact fun _ _ _ _ _ _ h => h
                      · exact fun _ _ _ _ _ _ h => h
                      · exact fun _ _ _ _ _ _ h => h
                      · exact fun _ _ _ _ _ _ h => h
                      · exact fun _ _ _ _ _ _ h => h
                      · exact fun _ _ _ _ _ _ h => h
                      · exact fun _ _ _ _ _ _ h => h
                      · exact fun _ _ _ _ _ h ⟨p, hv, hp, hl, hc⟩ => ⟨p, hv, hp, Nat.lt_of_lt_of_le hl h.size, h.cell hc (fun e => by have := (own_lt HM2.out.built.own.prio p e.symm).2; omega)⟩
                      · exact fun _ _ _ _ _ h ho => ⟨own_grown ho.1 h, ho.2⟩
                      · exact fun _ _ _ _ _ _ h => h
                    · intro vals w2 G hg hS hG
                      have s8 : w2.ownsRow w5.heap.size 3 1 (vals 11) (k + 1) (((g.partTo s ol k).prio).map (Value.int .i64) ++ [.int .i64 zp]) ∧ ((vals 11).ownBlock = (B : Value).ownBlock ∨ ∃ p, (vals 11).ownBlock = some p ∧ w8.heap.size ≤ p) := hS.2.2.2.2.2.2.2.2.2.2.2.1
                      have s9 : vals 12 = .pointer (some ⟨qs, 1, none⟩) := hS.2.2.2.2.2.2.2.2.2.2.2.2.1
                      clear hS
                      obtain ⟨n8, n8k, e8, -⟩ := own_at s8.1
                      have hmid := HM2.out.prio (show w2.ownsRow w5.heap.size 3 1 _ ((g.partTo s ol k).prio.length + 1) _ by rw [HLP.out]; exact s8.1) hg s8.2
                      have hbx := HX2.out.grown hg (fun e => own_box HM2.out.built.own.prio HX2.out (by decide) e.symm)
                      have hg5 := grown_mix HG5W.out hg (fun p hp => (own_lt HM2.out.built.own.prio p hp).1)
                      have hl5 := Nat.le_trans HL5W.out hg.size
                      have qc : w2.cell? ⟨qs, 1, none⟩ = some B := hbx.cell 1 _ rfl
                      have qf : w2.frozen? ⟨qs, 1, none⟩ = false := hbx.frozen 1
                      replace CB0 := Lib.hid ((grown_set w2 ⟨qs, 1, none⟩ (.slice n8 (k + 1) n8k)).cell (hg.cell CB0.out (fun e => by have h1 : w5.heap.size ≤ w.heap.size := (own_lt HM2.out.built.own.prio _ e.symm).1; have := FAR.out; omega)) (by intro e; injection e with e; have e : w.heap.size = qs := e; have := FAR.out; omega))
                      replace CB1 := Lib.hid ((grown_set w2 ⟨qs, 1, none⟩ (.slice n8 (k + 1) n8k)).cell (hg.cell CB1.out (fun e => by have h1 : w5.heap.size ≤ w.heap.size := (own_lt HM2.out.built.own.prio _ e.symm).1; have := FAR.out; omega)) (by intro e; injection e with e; have e : w.heap.size = qs := e; have := FAR.out; omega))
                      replace CB2 := Lib.hid ((grown_set w2 ⟨qs, 1, none⟩ (.slice n8 (k + 1) n8k)).cell (hg.cell CB2.out (fun e => by have h1 : w5.heap.size ≤ w.heap.size := (own_lt HM2.out.built.own.prio _ e.symm).1; have := FAR.out; omega)) (by intro e; injection e with e; have e : w.heap.size = qs := e; have := FAR.out; omega))
                      replace C9 := Lib.hid ((grown_set w2 ⟨qs, 1, none⟩ (.slice n8 (k + 1) n8k)).cell (hg.cell C9.out (fun e => by have h1 : w5.heap.size ≤ q9 := (own_lt HM2.out.built.own.prio _ e.symm).1; have := FAR.out; omega)) (by intro e; injection e with e; have e : q9 = qs := e; have := FAR.out; omega))
                      replace CAW := Lib.hid ((grown_set w2 ⟨qs, 1, none⟩ (.slice n8 (k + 1) n8k)).cell (hg.cell CAW.out (fun e => by have h1 : w5.heap.size ≤ ga := (own_lt HM2.out.built.own.prio _ e.symm).1; have := FAR.out; omega)) (by intro e; injection e with e; have e : ga = qs := e; have := FAR.out; omega))
                      replace CPW := Lib.hid ((grown_set w2 ⟨qs, 1, none⟩ (.slice n8 (k + 1) n8k)).cell (hg.cell CPW.out (fun e => by have h1 : w5.heap.size ≤ gb := (own_lt HM2.out.built.own.prio _ e.symm).1; have := FAR.out; omega)) (by intro e; injection e with e; have e : gb = qs := e; have := FAR.out; omega))
                      rw [e8] at hmid
                      have HM3 := Lib.hid (hmid.set hbx (by decide) (by decide) 1 (.slice n8 (k + 1) n8k))
                      have HX3 := Lib.hid (hbx.set 1 (.slice n8 (k + 1) n8k))
                      replace HG5W := Lib.hid (hg5.trans (grown_set w2 ⟨qs, 1, none⟩ (.slice n8 (k + 1) n8k)))
                      replace HL5W : Hid (w5.heap.size ≤ (w2.setCell ⟨qs, 1, none⟩ (.slice n8 (k + 1) n8k)).heap.size) := Lib.hid (by simp [World.setCell]; exact hl5)
                      clear hmid hbx hg5 hl5 s8 hg
                      refine hG ?_
                      clear hG
                      simp [List.dropLast, Rg.putAll, Oper.wp, execOp, go_sem, s9, e8, qc, qf]
                      clear qc qf s9 e8
                      generalize (w2.setCell ⟨qs, 1, none⟩ (.slice n8 (k + 1) n8k)) = w9 at HM3 HX3 HG5W HL5W CB0 CB1 CB2 C9 CAW CPW ⊢
                      have hx3 := HX3.out
                      have qc2 : w9.cell? ⟨qs, 2, none⟩ = some C := hx3.cell 2 _ rfl
                      clear hx3
                      go_wp2_with (at_builtin; refine wpl_append elInts rfl (.tmp 125) (.tmp 127) rfl rfl (own_grown HM3.out.built.own.head (World.grownBy_alloc _ _ none)) rfl (row_one _ _ _) ?_ ?_ ?_ ?_ ?_)
                      · first | rfl | (intro u hu; simp at hu; subst hu; rfl)
                      · have h1 := HLMV.out; show ((g.partTo s ol k).moves.length + 1) * 24 ≤ 140737488355328; omega
                      · have h1 : (g.partTo s ol k).moves.length = k := HLMV.out; omega
                      · have := HL5W.out; simp; omega
                      intro v' w10 hown hgr hat
                      have hown2 : w10.ownsRow w5.heap.size 22 1 v' ((g.partTo s ol k).moves.length + 1) (L ++ [.slice lo2 (P.renum ol s l).length lk2]) := hown
                      obtain ⟨co3, ck3, rfl, -⟩ := own_at hown2
                      have hal := World.grownBy_alloc w9 (.cells #[.slice lo2 (P.renum ol s l).length lk2] 22) none
                      have hm3 := HM3.out.grown hal
                      have hx3 := HX3.out.keep hal
                      have hg3 := HG5W.out.trans (Rg.grown_weak hal (row := some qs))
                      generalize w9.alloc (.cells #[.slice lo2 (P.renum ol s l).length lk2] 22) = w9a at hgr hm3 hx3 hg3
                      have hbt := hm3.row HL5R.out hown2 hgr
                      have hx10 := hx3.grown hgr (fun e => own_box hm3.built.own.head hx3 (by decide) e.symm)
                      have hg10 := grown_mix hg3 hgr (fun p hp => (own_lt hm3.built.own.head p hp).1)
                      clear hal hm3 hx3 hg3
                      have qc2 : w10.cell? ⟨qs, 2, none⟩ = some C := hx10.cell 2 _ rfl
                      have qf2 : w10.frozen? ⟨qs, 2, none⟩ = false := hx10.frozen 2
                      rw [HLMV.out] at hbt ⊢
                      have HREL := Lib.hid (show RelS w5 qs g s ol (.int .i64 ((k + 1 : Nat) : Int)) (w10.setCell ⟨qs, 2, none⟩ (.slice co3 (k + 1) ck3)) (k + 1) _ _ (.slice co3 (k + 1) ck3) (L ++ [.slice lo2 (P.renum ol s l).length lk2]) from
                        ⟨by omega, rfl, hx10.set 2 _, by
                          have h := hbt.set hx10 (by decide) (by decide) 2 (.slice co3 (k + 1) ck3)
                          rw [P.G.partTo_succ g s ol k hlt, HATE.out, HZO.out, HZP.out, HL.out]
                          exact h, hg10.trans (grown_set _ _ _), fun j hj hjk => by
                          by_cases e : j = k
                          · subst e; rw [HATE.out]; exact HRNE.out
                          · exact HR.out.full j hj (by omega)⟩)
                      clear hown hown2 hbt hx10 hg10 hgr hat
                      go_wp2_with fail
                      go_roundw
                      case rel => exact ⟨k + 1, _, _, _, _, HREL.out⟩
                      case measure => simp [intOf]; omega
          · have fj : decide ((k : Int) < (ol.length : Int)) = false := decide_eq_false (by omega)
            have f0 : (((ol.length : Nat) : Int) == 0) = false := by rw [beq_eq_false_iff_ne]; omega
            have hkl : k = ol.length := by omega
            have hbt := HR.out.built
            have hbq := HR.out.box
            have hfull := HR.out.full
            rw [hkl] at hbt hfull
            have HSUB := Lib.hid (P.has_true (s := s) HK.out (by rw [HOL.out]; exact holp) (by
              intro i hi
              rw [HOL.out] at hi
              obtain ⟨j, hj, rfl⟩ := List.getElem_of_mem hi
              exact hfull j hj hj))
            have hpart : g.partTo s ol ol.length = g.part s := by unfold P.G.part; rw [HOL.out]
            rw [hpart] at hbt
            obtain ⟨a1, k1, b1, k2, c1, k3, rfl, rfl, rfl⟩ := hbt.own.forms
            have bb1 := HB1.out.keep (grown_of_below HBW.out none)
            obtain ⟨la, hla⟩ : ∃ la, (g.part s).owner.length = la := ⟨_, rfl⟩
            obtain ⟨lb, hlb⟩ : ∃ lb, (g.part s).prio.length = lb := ⟨_, rfl⟩
            obtain ⟨lc, hlc⟩ : ∃ lc, (g.part s).moves.length = lc := ⟨_, rfl⟩
            rw [hla, hlb, hlc] at hbt hbq
            have rc0 : wo.cell? ⟨qs, 0, none⟩ = some (.slice a1 la k1) := hbq.cell 0 _ rfl
            have rc1 : wo.cell? ⟨qs, 1, none⟩ = some (.slice b1 lb k2) := hbq.cell 1 _ rfl
            have rc2 : wo.cell? ⟨qs, 2, none⟩ = some (.slice c1 lc k3) := hbq.cell 2 _ rfl
            have qc0 : wo.cell? ⟨(w.heap.size + 1), 0, none⟩ = some (.slice none 0 0) := bb1.cell 0 _ rfl
            have qc1 : wo.cell? ⟨(w.heap.size + 1), 1, none⟩ = some (.slice none 0 0) := bb1.cell 1 _ rfl
            have qc2 : wo.cell? ⟨(w.heap.size + 1), 2, none⟩ = some (.slice none 0 0) := bb1.cell 2 _ rfl
            have qf0 : wo.frozen? ⟨(w.heap.size + 1), 0, none⟩ = false := bb1.frozen 0
            have qf1 : wo.frozen? ⟨(w.heap.size + 1), 1, none⟩ = false := bb1.frozen 1
            have qf2 : wo.frozen? ⟨(w.heap.size + 1), 2, none⟩ = false := bb1.frozen 2
            have h9s := own_set (own_set (own_set H9R.out bb1 (by decide) 0 (.slice a1 la k1)) (bb1.set 0 _) (by decide) 1 (.slice b1 lb k2)) ((bb1.set 0 _).set 1 _) (by decide) 2 (.slice c1 lc k3)
            have HOW := Lib.hid ((((hbt.own.set bb1 (by decide) (by decide) 0 (.slice a1 la k1)).set (bb1.set 0 _) (by decide) (by decide) 1 (.slice b1 lb k2)).set ((bb1.set 0 _).set 1 _) (by decide) (by decide) 2 (.slice c1 lc k3)).low (show w.heap.size ≤ w5.heap.size by have := HNQ.out; have := HL5.out; omega))
            have HV9 := Lib.hid (own_more h9s (show w.heap.size ≤ W3.heap.size by have := HNB.out; have := HSZ3.out; have := HS.out; omega))
            have HPO := Lib.hid (((HBWW.out.setCell (p := ⟨w.heap.size + 1, 0, none⟩) (by show w.heap.size ≤ w.heap.size + 1; omega) (.slice a1 la k1)).setCell (p := ⟨w.heap.size + 1, 1, none⟩) (by show w.heap.size ≤ w.heap.size + 1; omega) (.slice b1 lb k2)).setCell (p := ⟨w.heap.size + 1, 2, none⟩) (by show w.heap.size ≤ w.heap.size + 1; omega) (.slice c1 lc k3))
            clear hbt hbq hfull hpart bb1 h9s hla hlb hlc hkl
            go_wp2_with fail
            refine bodyPost_ret (v := .tuple #[.agg #[.slice a1 la k1, .slice b1 lb k2, .slice c1 lc k3], .slice (some ⟨q9, 0, none⟩) ol.length vk, .bool true]) (by simp [results, Tryd.results23, go_sem, qc0, qc1, qc2]) rfl ?_
            unfold Subbed
            rw [HSUB.out, if_pos rfl]
            refine ⟨_, _, _, _, _, rfl, HOW.out, ?_, HPO.out⟩
            rw [HOL.out]
            unfold OwnI
            rw [vals_eq, List.length_map]
            exact HV9.out
theorem rsub_any (g : P.G) (s : BitVec 256) (v : Value) (qi : Nat) (ti : TypeId) (w : World) (hv : GameV w v g) (hin : Box w qi ti (P.truths s)) : Calls Tryd.prog 23 #[v, .slice (some ⟨qi, 0, none⟩) 256 256] w (Subbed w g s) := by
  by_cases hok : g.ok = true
  · exact rsub_ok g s v qi ti w hv hin ((P.G.ok_iff g).1 hok)
  · exact rsub_bad g s v qi w hv (by simpa using hok)
end W
end Go.Proofs.YtlbikfimfaecnaaDoor
