/- GameLimits: the walk. -/
import Derived.Test.YtlbikfimfaecnaaDoorLimitsE1
import Derived.Test.YtlbikfimfaecnaaDoorLimitsE2
import Derived.Test.YtlbikfimfaecnaaDoorLimitsE3
import Derived.Test.YtlbikfimfaecnaaDoorLimitsE4
import Derived.Deep.Cut
import Derived.Deep.CutRange
import Derived.StillTailTactics
namespace Go.Proofs.YtlbikfimfaecnaaDoor
open Go.RowKit
namespace W

/-- How many positions are built. -/
def many (z : Int) : Nat := ((if z < 0 then -(z + 1) else z) % 300).toNat
set_option maxRecDepth 100000 in
set_option maxHeartbeats 8000000 in
theorem limits_any (z ow pr mv : Int) (w : World) (hz0 : -9223372036854775808 ≤ z) (hz1 : z ≤ 9223372036854775807) (hT : Tab w) : Calls Tryd.prog 9 #[.int .i64 z, .int .i64 ow, .int .i64 pr, .int .i64 mv] w fun e w' => e = .returned (.bool true) ∧ Below w.heap.size w w' := by
  have T := Lib.hid hT
  have W := Lib.hid (Below.refl w.heap.size w)
  clear hT
  go_enter Tryd.func9, Tryd.ntmps9
  go_wp2_with fail
  refine (shown_any _ T.out).mono ?_
  rintro e w2 ⟨rfl, hb⟩
  replace W := Lib.hid (W.out.trans (hb.mono W.out.size))
  clear hb T
  go_upto_if 28 with fail
  go_cut [0] from 26 to 33 (fun s0 wc => ∃ n : Nat, n < 300 ∧ s0 = .int .i64 (if z < 0 then -(z + 1) else z) ∧ (if z < 0 then -(z + 1) else z).tmod 300 = (n : Int) ∧ wc = w2)
  case first =>
    by_cases hneg : z < 0
    · have hm : ∃ n : Nat, n < 300 ∧ (-(z + 1)).tmod 300 = (n : Int) := by
        have e1 := Int.tmod_eq_emod_of_nonneg (b := 300) (show 0 ≤ -(z + 1) by omega)
        exact ⟨((-(z + 1)) % 300).toNat, by omega, by omega⟩
      obtain ⟨n, h1, h2⟩ := hm
      have hd : decide (z < 0) = true := decide_eq_true hneg
      have H2 := Lib.hid h2
      clear h2
      go_wp2_with fail
      go_meet
      case rel => exact ⟨n, h1, by rw [if_pos hneg], by rw [if_pos hneg]; exact H2.out, rfl⟩
    · have hm : ∃ n : Nat, n < 300 ∧ z.tmod 300 = (n : Int) := by
        have e1 := Int.tmod_eq_emod_of_nonneg (b := 300) (show 0 ≤ z by omega)
        exact ⟨(z % 300).toNat, by omega, by omega⟩
      obtain ⟨n, h1, h2⟩ := hm
      have hd : decide (z < 0) = false := decide_eq_false hneg
      have H2 := Lib.hid h2
      clear h2
      go_wp2_with fail
      go_meet
      case rel => exact ⟨n, h1, by rw [if_neg (by omega)], by rw [if_neg (by omega)]; exact H2.out, rfl⟩
  case rest =>
    obtain ⟨n, hn, rfl, hmod, rfl⟩ := hcut
    generalize (if z < 0 then -(z + 1) else z) = y at hmod ⊢
    go_upto_region 6 with (fail)
    have hq := W.out.size
    have hlt0 : wc.heap.size < (wc.alloc (.cells #[.slice none 0 0, .slice none 0 0, .slice none 0 0] 25)).heap.size := by simp
    have bq : Box (wc.alloc (.cells #[.slice none 0 0, .slice none 0 0, .slice none 0 0] 25)) wc.heap.size 25 #[.slice none 0 0, .slice none 0 0, .slice none 0 0] := Box.new _ _ _
    have hgq := World.grownBy_alloc wc (.cells #[.slice none 0 0, .slice none 0 0, .slice none 0 0] 25) none
    replace W := Lib.hid (W.out.trans ((below_of_grown hgq).mono W.out.size))
    generalize (wc.alloc (.cells #[.slice none 0 0, .slice none 0 0, .slice none 0 0] 25)) = w0 at bq hlt0 W ⊢
    generalize wc.heap.size = qg at bq hq hlt0 ⊢
    have BQg := Lib.hid bq
    clear bq hgq
    have HQ := Lib.hid hq
    have HL0 := Lib.hid hlt0
    have HW0 := Lib.hid W.out.size
    clear hq hlt0 hmod hz0 hz1
    have hz63 : (n : Int) ≤ 300 := by omega
    go_wp2_with fail
    go_loopw [11] (fun i wr => ∃ k A B C L, RelL w w0 qg n i wr k A B C L) (fun i _ => n - (intOf i).toNat)
    case atStart => exact ⟨0, _, _, _, _, Nat.zero_le _, rfl, BQg.out, Built.start _ _, Nat.le_refl _, W.out⟩
    case round =>
      obtain ⟨k, A, B, C, L, hR⟩ := hrel
      have hk := hR.le
      obtain rfl := hR.eq
      have hj0 : (0 : Int) ≤ (k : Int) := Int.natCast_nonneg _
      have hls := P.lim_size n k
      obtain ⟨ao, ka, rfl, -⟩ := own_at hR.built.own.owner
      obtain ⟨bo, kb, rfl, -⟩ := own_at hR.built.own.prio
      obtain ⟨co, kc, rfl, -⟩ := own_at hR.built.own.head
      have HBX := Lib.hid hR.box
      have HBT := Lib.hid hR.built
      have HSZ := Lib.hid hR.size
      have HBW := Lib.hid hR.below
      rw [hls.1, hls.2.1, hls.2.2] at HBX HBT
      have HLS := Lib.hid hls
      clear hR hls
      by_cases hlt : k < n
      · have fk : decide ((k : Int) < (n : Int)) = true := decide_eq_true (by omega)
        have hm2 : ((k : Int) % 2) = ((k % 2 : Nat) : Int) := by omega
        have hm8 : ((k : Int) % 8) = ((k % 8 : Nat) : Int) := by omega
        have HM2 := Lib.hid hm2
        have HM8 := Lib.hid hm8
        clear hm2 hm8
        have bb := HBX.out
        have pc0 : wr.cell? ⟨qg, 0, none⟩ = some (.slice ao k ka) := bb.cell 0 _ rfl
        have pc1 : wr.cell? ⟨qg, 1, none⟩ = some (.slice bo k kb) := bb.cell 1 _ rfl
        have pc2 : wr.cell? ⟨qg, 2, none⟩ = some (.slice co k kc) := bb.cell 2 _ rfl
        have pf0 : wr.frozen? ⟨qg, 0, none⟩ = false := bb.frozen 0
        have pf1 : wr.frozen? ⟨qg, 1, none⟩ = false := bb.frozen 1
        have pf2 : wr.frozen? ⟨qg, 2, none⟩ = false := bb.frozen 2
        clear bb
        go_wp2_with (at_builtin; refine wpl_append elInt rfl (.tmp 41) (.tmp 44) rfl rfl (own_grown HBT.out.own.owner (World.grownBy_alloc _ _ none)) rfl (row_one _ _ _) ?_ ?_ ?_ ?_ ?_)
        · intro u hu; simp at hu; subst hu; rfl
        · have h1 := HLS.out; show ((P.lim n k).owner.length + 1) * 8 ≤ 140737488355328; omega
        · have h1 := HLS.out; first | omega | (simp; omega)
        · have := HSZ.out; simp; omega
        intro v' wb hown hgr hat
        have hown : wb.ownsRow w0.heap.size 3 1 v' ((P.lim n k).owner.length + 1) ((P.lim n k).owner.map (Value.int .i64) ++ [.int .i64 ((k : Int) % 2)]) := hown
        obtain ⟨n0, n0k, rfl, -⟩ := own_at hown
        have hal := World.grownBy_alloc wr (.cells #[.int .i64 ((k : Int) % 2)] 3) none
        have hbt := HBT.out.grown hal
        have hbx := HBX.out.keep hal
        have hsz : w0.heap.size ≤ (wr.alloc (.cells #[.int .i64 ((k : Int) % 2)] 3)).heap.size := by have := HSZ.out; simp; omega
        have hbw := HBW.out.trans ((below_of_grown hal).mono HBW.out.size)
        have hat2 : (Value.slice n0 ((P.lim n k).owner.length + 1) n0k).ownBlock = ((.slice ao k ka) : Value).ownBlock ∨ ∃ p, (Value.slice n0 ((P.lim n k).owner.length + 1) n0k).ownBlock = some p ∧ (wr.alloc (.cells #[.int .i64 ((k : Int) % 2)] 3)).heap.size ≤ p := hat.imp id (fun h => ⟨_, h, by simp⟩)
        generalize (wr.alloc (.cells #[.int .i64 ((k : Int) % 2)] 3)) = wx at hal hgr hbt hbx hsz hbw hat2
        have hb2 := hbt.owner hown hgr hat2
        have hx2 := hbx.grown hgr (fun e => own_box hbt.own.owner hbx (by decide) e.symm)
        have hw2 := hbw.trans (below_mono_grown hgr hbw.size (fun p hp => Nat.le_trans HW0.out (own_lt hbt.own.owner p hp).1))
        have hs2 := Nat.le_trans hsz hgr.size
        replace HBT := Lib.hid (hb2.set hx2 (by decide) (by decide) 0 (.slice n0 ((P.lim n k).owner.length + 1) n0k))
        replace HBX := Lib.hid (hx2.set 0 (.slice n0 ((P.lim n k).owner.length + 1) n0k))
        replace HBW := Lib.hid (hw2.setCell (p := ⟨qg, 0, none⟩) (by show w.heap.size ≤ qg; exact HQ.out) (.slice n0 ((P.lim n k).owner.length + 1) n0k))
        replace HSZ : Hid (w0.heap.size ≤ (wb.setCell ⟨qg, 0, none⟩ (.slice n0 ((P.lim n k).owner.length + 1) n0k)).heap.size) := Lib.hid (by simp [World.setCell]; exact hs2)
        have pc0 : wb.cell? ⟨qg, 0, none⟩ = some (.slice ao k ka) := hx2.cell 0 _ rfl
        have pf0 : wb.frozen? ⟨qg, 0, none⟩ = false := hx2.frozen 0
        clear hown hgr hat hat2 hal hbt hbx hsz hbw hb2 hx2 hw2 hs2
        go_upto_region 10 with (fail)
        generalize (wb.setCell ⟨qg, 0, none⟩ (.slice n0 ((P.lim n k).owner.length + 1) n0k)) = wc1 at HBT HBX HBW HSZ ⊢
        clear pc1 pf1 pc2 pf2 pc0 pf0
        have bb := HBX.out
        have pc0 : wc1.cell? ⟨qg, 0, none⟩ = some (.slice n0 ((P.lim n k).owner.length + 1) n0k) := bb.cell 0 _ rfl
        have pc1 : wc1.cell? ⟨qg, 1, none⟩ = some (.slice bo k kb) := bb.cell 1 _ rfl
        have pc2 : wc1.cell? ⟨qg, 2, none⟩ = some (.slice co k kc) := bb.cell 2 _ rfl
        have pf0 : wc1.frozen? ⟨qg, 0, none⟩ = false := bb.frozen 0
        have pf1 : wc1.frozen? ⟨qg, 1, none⟩ = false := bb.frozen 1
        have pf2 : wc1.frozen? ⟨qg, 2, none⟩ = false := bb.frozen 2
        clear bb
        go_wp2_with (at_builtin; refine wpl_append elInt rfl (.tmp 48) (.tmp 51) rfl rfl (own_grown HBT.out.own.prio (World.grownBy_alloc _ _ none)) rfl (row_one _ _ _) ?_ ?_ ?_ ?_ ?_)
        · intro u hu; simp at hu; subst hu; rfl
        · have h1 := HLS.out; show ((P.lim n k).prio.length + 1) * 8 ≤ 140737488355328; omega
        · have h1 := HLS.out; first | omega | (simp; omega)
        · have := HSZ.out; simp; omega
        intro v' wb1 hown hgr hat
        have hown : wb1.ownsRow w0.heap.size 3 1 v' ((({ P.lim n k with owner := (P.lim n k).owner ++ [(k : Int) % 2] } : P.G)).prio.length + 1) ((({ P.lim n k with owner := (P.lim n k).owner ++ [(k : Int) % 2] } : P.G)).prio.map (Value.int .i64) ++ [.int .i64 ((k : Int) % 8)]) := hown
        obtain ⟨n1, n1k, rfl, -⟩ := own_at hown
        have hal := World.grownBy_alloc wc1 (.cells #[.int .i64 ((k : Int) % 8)] 3) none
        have hbt := HBT.out.grown hal
        have hbx := HBX.out.keep hal
        have hsz : w0.heap.size ≤ (wc1.alloc (.cells #[.int .i64 ((k : Int) % 8)] 3)).heap.size := by have := HSZ.out; simp; omega
        have hbw := HBW.out.trans ((below_of_grown hal).mono HBW.out.size)
        have hat2 : (Value.slice n1 ((({ P.lim n k with owner := (P.lim n k).owner ++ [(k : Int) % 2] } : P.G)).prio.length + 1) n1k).ownBlock = ((.slice bo k kb) : Value).ownBlock ∨ ∃ p, (Value.slice n1 ((({ P.lim n k with owner := (P.lim n k).owner ++ [(k : Int) % 2] } : P.G)).prio.length + 1) n1k).ownBlock = some p ∧ (wc1.alloc (.cells #[.int .i64 ((k : Int) % 8)] 3)).heap.size ≤ p := hat.imp id (fun h => ⟨_, h, by simp⟩)
        generalize (wc1.alloc (.cells #[.int .i64 ((k : Int) % 8)] 3)) = wx at hal hgr hbt hbx hsz hbw hat2
        have hb2 := hbt.prio hown hgr hat2
        have hx2 := hbx.grown hgr (fun e => own_box hbt.own.prio hbx (by decide) e.symm)
        have hw2 := hbw.trans (below_mono_grown hgr hbw.size (fun p hp => Nat.le_trans HW0.out (own_lt hbt.own.prio p hp).1))
        have hs2 := Nat.le_trans hsz hgr.size
        replace HBT := Lib.hid (hb2.set hx2 (by decide) (by decide) 1 (.slice n1 ((({ P.lim n k with owner := (P.lim n k).owner ++ [(k : Int) % 2] } : P.G)).prio.length + 1) n1k))
        replace HBX := Lib.hid (hx2.set 1 (.slice n1 ((({ P.lim n k with owner := (P.lim n k).owner ++ [(k : Int) % 2] } : P.G)).prio.length + 1) n1k))
        replace HBW := Lib.hid (hw2.setCell (p := ⟨qg, 1, none⟩) (by show w.heap.size ≤ qg; exact HQ.out) (.slice n1 ((({ P.lim n k with owner := (P.lim n k).owner ++ [(k : Int) % 2] } : P.G)).prio.length + 1) n1k))
        replace HSZ : Hid (w0.heap.size ≤ (wb1.setCell ⟨qg, 1, none⟩ (.slice n1 ((({ P.lim n k with owner := (P.lim n k).owner ++ [(k : Int) % 2] } : P.G)).prio.length + 1) n1k)).heap.size) := Lib.hid (by simp [World.setCell]; exact hs2)
        have pc1 : wb1.cell? ⟨qg, 1, none⟩ = some (.slice bo k kb) := hx2.cell 1 _ rfl
        have pf1 : wb1.frozen? ⟨qg, 1, none⟩ = false := hx2.frozen 1
        clear hown hgr hat hat2 hal hbt hbx hsz hbw hb2 hx2 hw2 hs2
        go_upto_region 11 with (fail)
        generalize (wb1.setCell ⟨qg, 1, none⟩ (.slice n1 ((({ P.lim n k with owner := (P.lim n k).owner ++ [(k : Int) % 2] } : P.G)).prio.length + 1) n1k)) = wd at HBT HBX HBW HSZ ⊢
        clear pc0 pf0 pc2 pf2 pc1 pf1
        go_wp2_with fail
        have hls := HLS.out
        have HLM := Lib.hid hls.2.2
        rw [hls.1, hls.2.1] at HBT HBX ⊢

        have hmz : (((k : Int) * 7).tmod (n : Int)) = ((k * 7 % n : Nat) : Int) := by
          rw [Int.tmod_eq_emod_of_nonneg (by omega)]
          simp
        obtain ⟨zm, hzm⟩ : ∃ zm : Int, ((k : Int) * 7).tmod (n : Int) = zm := ⟨_, rfl⟩
        have HMZ := Lib.hid (hzm.symm.trans hmz)
        have hwr : IntKind.i64.wrap ((k : Int) * 7) = (k : Int) * 7 := wrap_small (by omega) (by omega)
        have hnz : ¬ (n = 0) := by omega
        have HROW : Hid (∀ p, (Value.slice co k kc).ownBlock = some p → p < wd.heap.size) := Lib.hid (fun p hp => (own_lt HBT.out.own.head p hp).2)
        clear hmz hls
        refine Rg.wp_region_lit (fun idx => match idx with | 0 => (fun v _ _ => v = (.pointer (some ⟨qg, 2, none⟩))) | 1 => (fun v _ _ => v = (.slice co k kc)) | 2 => (fun v _ _ => v = (.int .i64 (k : Int))) | 3 => (fun v _ _ => v = (.int .i64 ((k : Int) * 7))) | 4 => (fun v _ _ => v = (.int .i64 (n : Int))) | 5 => (fun v _ _ => v = (.int .i64 zm)) | 6 => (fun v _ w' => ∃ p, v = .slice (some ⟨p, 0, none⟩) 1 1 ∧ OwnI w' wd.heap.size v [zm]) | 7 => (fun v ds w' => ∃ p x, v = .slice (some ⟨p, 0, none⟩) 1 1 ∧ wd.heap.size ≤ p ∧ p < w'.heap.size ∧ w'.cell? ⟨p, 0, none⟩ = some x ∧ (∃ q, x = .slice (some ⟨q, 0, none⟩) 1 1) ∧ OwnI w' wd.heap.size x [zm]) | 8 => (fun v ds w' => ∃ x, w'.ownsRow w0.heap.size 22 1 v (k + 1) (L ++ [x]) ∧ OwnI w' wd.heap.size x [zm]) | 9 => (fun v _ _ => v = (.pointer (some ⟨qg, 2, none⟩))) | _ => fun _ _ _ => True) ((.slice co k kc : Value).ownBlock) 8 (by kernel_rfl) (by rfl) (by kernel_rfl) (by rfl) ?_ ?_ ?_
        · refine ⟨?_, ?_, ?_, ?_, ?_, ?_, ?_, ?_, ?_, ?_, trivial⟩
          · intro A w' K vals h hn hg hK
            have r0 : A.tmps[10]?.getD undef = (.pointer (some ⟨qg, 0, none⟩)) := Rg.slot (h.1)
            clear h hn hg
            simp [Oper.wp, execOp, go_sem, r0]
            exact hK _ _ (Rg.grown_refl _ _) rfl
          · intro A w' K vals h hn hg hK
            have r0 : A.tmps[54]?.getD undef = vals 0 := Rg.slot h.1
            have r1 : vals 0 = (.pointer (some ⟨qg, 2, none⟩)) := hn.1
            have c : w'.cell? ⟨qg, 2, none⟩ = some (.slice co k kc) := (HBX.out.grown hg (fun e => own_box HBT.out.own.head HBX.out (by decide) e.symm)).cell _ _ rfl
            clear h hn
            simp [Oper.wp, execOp, go_sem, r0, r1, c]
            exact hK _ _ (Rg.grown_refl _ _) rfl
          · intro A w' K vals h hn hg hK
            have r0 : A.tmps[11]?.getD undef = (.int .i64 (k : Int)) := Rg.slot (h.1)
            clear h hn hg
            simp [Oper.wp, execOp, go_sem, r0]
            exact hK _ _ (Rg.grown_refl _ _) rfl
          · intro A w' K vals h hn hg hK
            have r0 : A.tmps[56]?.getD undef = vals 2 := Rg.slot h.1
            have r1 : vals 2 = .int .i64 (k : Int) := hn.1
            clear h hn hg
            simp [Oper.wp, execOp, go_sem, r0, r1, hwr]
            exact hK _ _ (Rg.grown_refl _ _) rfl
          · intro A w' K vals h hn hg hK
            have r0 : A.tmps[0]?.getD undef = (.int .i64 (n : Int)) := Rg.slot (h.1)
            clear h hn hg
            simp [Oper.wp, execOp, go_sem, r0]
            exact hK _ _ (Rg.grown_refl _ _) rfl
          · intro A w' K vals h hn hg hK
            have r0 : A.tmps[57]?.getD undef = vals 3 := Rg.slot h.1
            have r1 : A.tmps[58]?.getD undef = vals 4 := Rg.slot h.2.1
            have r2 : vals 3 = .int .i64 ((k : Int) * 7) := hn.1
            have r3 : vals 4 = .int .i64 (n : Int) := hn.2.1
            clear h hn hg
            simp [Oper.wp, execOp, go_sem, r0, r1, r2, r3, hnz, hzm]
            exact hK _ _ (Rg.grown_refl _ _) rfl
          · intro A w' K vals h hn hg hK
            have r0 : A.tmps[59]?.getD undef = vals 5 := Rg.slot h.1
            have r1 : vals 5 = .int .i64 zm := hn.1
            clear h hn
            simp [Oper.wp, execOp, go_sem, r0, r1]
            refine hK _ _ (Rg.grown_weak (World.grownBy_alloc _ _ _)) ⟨w'.heap.size, rfl, ?_⟩
            exact own_one w' wd.heap.size zm hg.size
          · intro A w' K vals h hn hg hK
            have r0 : A.tmps[60]?.getD undef = vals 6 := Rg.slot h.1
            obtain ⟨p, e6, o6⟩ : ∃ p, vals 6 = .slice (some ⟨p, 0, none⟩) 1 1 ∧ OwnI w' wd.heap.size (vals 6) [zm] := hn.1
            clear h hn
            rw [e6] at o6
            simp [Oper.wp, execOp, go_sem, r0, e6]
            exact hK _ _ (Rg.grown_weak (World.grownBy_alloc _ _ _)) ⟨w'.heap.size, _, rfl, hg.size, by simp, by simp, ⟨p, rfl⟩, own_grown o6 (World.grownBy_alloc _ _ none)⟩
          · intro A' w' K vals h hn hg hK
            have r0 : A'.tmps[55]?.getD undef = vals 1 := Rg.slot h.1
            have r1 : A'.tmps[61]?.getD undef = vals 7 := Rg.slot h.2.1
            have r2 : vals 1 = (.slice co k kc) := hn.1
            obtain ⟨p, x, e9, hp, hlt9, c9, ⟨q, hxq⟩, hx⟩ : ∃ p x, vals 7 = .slice (some ⟨p, 0, none⟩) 1 1 ∧ wd.heap.size ≤ p ∧ p < w'.heap.size ∧ w'.cell? ⟨p, 0, none⟩ = some x ∧ (∃ q, x = .slice (some ⟨q, 0, none⟩) 1 1) ∧ OwnI w' wd.heap.size x [zm] := hn.2.1
            clear h hn
            have hg : wd.grownBy w' none := hg
            have own : w'.ownsRow w0.heap.size 22 1 (.slice co k kc) k L := by
              have := own_grown HBT.out.own.head hg
              rw [HLM.out] at this
              exact this
            have hrow9 : Row w' (.slice (some ⟨p, 0, none⟩) 1 1) [x] := ⟨_, _, rfl, .inr ⟨p, 0, rfl, hlt9, fun j u hu => by
              match j, hu with
              | 0, hu => simp at hu; subst hu; exact c9⟩⟩
            obtain ⟨v', w'', hrun, hown, hgr, hat⟩ := run_append elInts 23 own hrow9 (by intro u hu; simp at hu; subst hu; rw [hxq]; rfl) (by simp; omega) (by simp; omega) (Nat.le_trans HSZ.out hg.size)
            refine op_append rfl (by simp [Act.eval, r0, r2]) (by simp [Act.eval, r1, e9]) hrun (hK _ _ hgr ⟨x, hown, ?_⟩)
            exact own_past hx hgr HROW.out
          · intro A w' K vals h hn hg hK
            have r0 : A.tmps[10]?.getD undef = (.pointer (some ⟨qg, 0, none⟩)) := Rg.slot (h.1)
            clear h hn hg
            simp [Oper.wp, execOp, go_sem, r0]
            exact hK _ _ (Rg.grown_refl _ _) rfl
        · refine ⟨?_, ?_, ?_, ?_, ?_, ?_, ?_, ?_, ?_, ?_, trivial⟩
          · exact fun _ _ _ _ _ _ h => h
          · exact fun _ _ _ _ _ _ h => h
          · exact fun _ _ _ _ _ _ h => h
          · exact fun _ _ _ _ _ _ h => h
          · exact fun _ _ _ _ _ _ h => h
          · exact fun _ _ _ _ _ _ h => h
          · exact fun _ _ _ _ _ h ⟨p, hv, ho⟩ => ⟨p, hv, own_past ho h HROW.out⟩
          · exact fun _ _ _ _ _ h ⟨p, x, hv, hp, hl, hc, hx, ho⟩ => ⟨p, x, hv, hp, Nat.lt_of_lt_of_le hl h.size, h.cell hc (fun e => by have := HROW.out p e.symm; omega), hx, own_past ho h HROW.out⟩
          · exact fun _ _ _ _ _ h ⟨x, ho, hx⟩ => ⟨x, own_grown ho h, own_grown hx h⟩
          · exact fun _ _ _ _ _ _ h => h
        · intro vals w2 G hg hS hG
          obtain ⟨x, s8, sx⟩ : ∃ x, w2.ownsRow w0.heap.size 22 1 (vals 8) (k + 1) (L ++ [x]) ∧ OwnI w2 wd.heap.size x [zm] := hS.2.2.2.2.2.2.2.2.1
          have s9 : vals 9 = .pointer (some ⟨qg, 2, none⟩) := hS.2.2.2.2.2.2.2.2.2.1
          clear hS
          obtain ⟨n2, n2k, e8, -⟩ := own_at s8
          rw [e8] at s8
          have hbt := HBT.out.push hg HSZ.out sx (by rw [HLM.out]; exact s8)
          have hx2 := HBX.out.grown hg (fun e => own_box HBT.out.own.head HBX.out (by decide) e.symm)
          have hw2 := HBW.out.trans (below_mono_grown hg HBW.out.size (fun p hp => Nat.le_trans HW0.out (own_lt HBT.out.own.head p hp).1))
          have hs2 := Nat.le_trans HSZ.out hg.size
          have qc : w2.cell? ⟨qg, 2, none⟩ = some (.slice co k kc) := hx2.cell 2 _ rfl
          have qf : w2.frozen? ⟨qg, 2, none⟩ = false := hx2.frozen 2
          have HREL := Lib.hid (show RelL w w0 qg n (.int .i64 ((k + 1 : Nat) : Int)) (w2.setCell ⟨qg, 2, none⟩ (.slice n2 (k + 1) n2k)) (k + 1) (.slice n0 (k + 1) n0k) (.slice n1 (k + 1) n1k) (.slice n2 (k + 1) n2k) (L ++ [x]) from
            ⟨by omega, rfl, hx2.set 2 _, by
              have h := hbt.set hx2 (by decide) (by decide) 2 (.slice n2 (k + 1) n2k)
              rw [P.lim_succ, ← HM2.out, ← HM8.out, ← HMZ.out]
              exact h, by simp [World.setCell]; exact hs2, hw2.setCell (p := ⟨qg, 2, none⟩) (by show w.heap.size ≤ qg; exact HQ.out) _⟩)
          clear hbt hx2 hw2 hs2 s8 sx hg
          refine hG ?_
          clear hG
          simp [List.dropLast, Rg.putAll, Oper.wp, execOp, go_sem, s9, e8, qc, qf]
          clear qc qf s9 e8
          go_wp2_with fail
          go_roundw
          case rel => exact ⟨k + 1, _, _, _, _, HREL.out⟩
          case measure => simp [intOf]; omega

      · obtain rfl : k = n := by omega
        have fk : decide ((k : Int) < (k : Int)) = false := decide_eq_false (Int.lt_irrefl _)
        have GV := Lib.hid (HBT.out.own.game (fits_lim k k (by omega)))
        have BQg := HBX
        have W := HBW
        have HLM := Lib.hid HLS.out
        clear HBX HBT HBW HSZ HLS
        have bb := BQg.out
        have pc0 : wr.cell? ⟨qg, 0, none⟩ = some (.slice ao k ka) := bb.cell 0 _ rfl
        have pc1 : wr.cell? ⟨qg, 1, none⟩ = some (.slice bo k kb) := bb.cell 1 _ rfl
        have pc2 : wr.cell? ⟨qg, 2, none⟩ = some (.slice co k kc) := bb.cell 2 _ rfl
        clear bb
        go_wp2_with fail
        refine (right_any (P.lim k k) _ _ GV.out).mono ?_
        rintro e w3 ⟨rfl, hb⟩
        replace BQg := Lib.hid (BQg.out.keep (grown_of_below hb none))
        replace W := Lib.hid (W.out.trans (hb.mono W.out.size))
        replace GV := Lib.hid (GV.out.on hb)
        have Wg := Lib.hid (Below.refl w3.heap.size w3)
        clear hb pc0 pc1 pc2 fk
        by_cases hr : k < 1 ∨ 200 < k
        · rw [P.lim_many k hr]
          rcases (show k < 1 ∨ (¬ k < 1 ∧ 200 < k) by omega) with h1 | ⟨h1, h2⟩
          · have f1 : decide ((k : Int) < 1) = true := decide_eq_true (by omega)
            go_wp2_with fail
            exact bodyPost_ret (v := .bool true) (by simp [results, Tryd.results9, go_sem]) rfl ⟨rfl, W.out⟩
          · have f1 : decide ((k : Int) < 1) = false := decide_eq_false (by omega)
            have f2 : decide ((200 : Int) < (k : Int)) = true := decide_eq_true (by omega)
            go_wp2_with fail
            exact bodyPost_ret (v := .bool true) (by simp [results, Tryd.results9, go_sem]) rfl ⟨rfl, W.out⟩
        · have hk2 : k ≤ 200 := by omega
          obtain ⟨m, rfl⟩ : ∃ m, k = m + 1 := ⟨k - 1, by omega⟩
          have hm0 : (0 : Int) ≤ (m : Int) := Int.natCast_nonneg _
          rw [P.lim_fine (m + 1) (by omega) hk2]
          have GV3 := GV
          have HGL := Lib.hid BQg.out.lt
          have W3S := Lib.hid W.out.size
          have f1 : decide (((m + 1 : Nat) : Int) < 1) = false := decide_eq_false (by omega)
          have f2 : decide ((200 : Int) < ((m + 1 : Nat) : Int)) = false := decide_eq_false (by omega)
          clear hr hlt
          have bb := BQg.out
          have pc0 : w3.cell? ⟨qg, 0, none⟩ = some (.slice ao (m + 1) ka) := bb.cell 0 _ rfl
          have pc1 : w3.cell? ⟨qg, 1, none⟩ = some (.slice bo (m + 1) kb) := bb.cell 1 _ rfl
          have pc2 : w3.cell? ⟨qg, 2, none⟩ = some (.slice co (m + 1) kc) := bb.cell 2 _ rfl
          clear bb
          go_wp2_with fail
          refine (copy_any (P.lim (m + 1) (m + 1)) _ _ GV.out).mono ?_
          rintro e w4 ⟨av, bv, cv, hL, rfl, ho, hb⟩
          have hls := HLM.out
          obtain ⟨ha, hak, rfl, ha1, ha2, -, -⟩ := own_form ho.owner (by rw [hls.1]; omega)
          obtain ⟨hb_, hbk, rfl, hb1, hb2, -, -⟩ := own_form ho.prio (by rw [hls.2.1]; omega)
          obtain ⟨hc, hck, rfl, hc1, hc2, -, -⟩ := own_form ho.head (by rw [hls.2.2]; omega)
          rw [hls.1, hls.2.1, hls.2.2] at ho
          rw [hls.1, hls.2.1, hls.2.2]
          replace BQg := Lib.hid (BQg.out.keep (grown_of_below hb none))
          replace W := Lib.hid (W.out.trans (hb.mono W.out.size))
          replace GV := Lib.hid (GV.out.on hb)
          replace Wg := Lib.hid (Wg.out.trans (hb.mono Wg.out.size))
          have OH := Lib.hid ho
          have HA1 := Lib.hid ha1
          have HA2B := Lib.hid ha2
          have HB1 := Lib.hid hb1
          have HC1 := Lib.hid hc1
          have HQG3 := Lib.hid HGL.out
          have LG := Lib.hid (Nat.lt_of_lt_of_le HGL.out (Nat.le_refl _))
          have LW := Lib.hid (W3S.out)
          clear ho hb ha1 hb1 hc1 hls pc0 pc1 pc2
          go_upto_region 16 with (fail)
          have bq : Box (w4.alloc (.cells #[.slice (some ⟨ha, 0, none⟩) (m + 1) hak, .slice (some ⟨hb_, 0, none⟩) (m + 1) hbk, .slice (some ⟨hc, 0, none⟩) (m + 1) hck] 25)) w4.heap.size 25 #[.slice (some ⟨ha, 0, none⟩) (m + 1) hak, .slice (some ⟨hb_, 0, none⟩) (m + 1) hbk, .slice (some ⟨hc, 0, none⟩) (m + 1) hck] := Box.new _ _ _
          have hgq := World.grownBy_alloc w4 (.cells #[.slice (some ⟨ha, 0, none⟩) (m + 1) hak, .slice (some ⟨hb_, 0, none⟩) (m + 1) hbk, .slice (some ⟨hc, 0, none⟩) (m + 1) hck] 25) none
          replace BQg := Lib.hid (BQg.out.keep hgq)
          replace W := Lib.hid (W.out.trans ((below_of_grown hgq).mono W.out.size))
          replace GV := Lib.hid (GV.out.on (below_of_grown hgq))
          replace Wg := Lib.hid (Wg.out.trans ((below_of_grown hgq).mono Wg.out.size))
          replace OH := Lib.hid (OH.out.grown hgq)
          generalize (w4.alloc (.cells #[.slice (some ⟨ha, 0, none⟩) (m + 1) hak, .slice (some ⟨hb_, 0, none⟩) (m + 1) hbk, .slice (some ⟨hc, 0, none⟩) (m + 1) hck] 25)) = w5 at bq BQg W GV Wg OH ⊢
          generalize w4.heap.size = qh at bq ha2 hb2 hc2 ⊢
          have BQh := Lib.hid bq
          clear bq hgq
          have HQH3 : Hid (w3.heap.size ≤ qh) := Lib.hid (by have := HA1.out; omega)
          have HA2 := Lib.hid ha2
          have HB2 := Lib.hid hb2
          have HC2 := Lib.hid hc2
          clear ha2 hb2 hc2
          have bb := BQh.out
          have pc0 : w5.cell? ⟨qh, 0, none⟩ = some (.slice (some ⟨ha, 0, none⟩) (m + 1) hak) := bb.cell 0 _ rfl
          have pc1 : w5.cell? ⟨qh, 1, none⟩ = some (.slice (some ⟨hb_, 0, none⟩) (m + 1) hbk) := bb.cell 1 _ rfl
          have pc2 : w5.cell? ⟨qh, 2, none⟩ = some (.slice (some ⟨hc, 0, none⟩) (m + 1) hck) := bb.cell 2 _ rfl
          clear bb
          obtain ⟨hu1, hf1⟩ := OwnI.at_ OH.out.owner m (by rw [HLM.out.1]; omega)
          have im : (m : Int) < (m : Int) + 1 := by omega
          go_upto_region 19 with (fail)
          have oh := OH.out.setOwner (by omega) m ow
          have hsz : w3.heap.size ≤ ha := HA1.out
          replace BQg := Lib.hid (BQg.out.far (p := ⟨ha, m, none⟩) (by show qg ≠ ha; have := LG.out; omega) (.int .i64 ow))
          replace BQh := Lib.hid (BQh.out.far (p := ⟨ha, m, none⟩) (by show qh ≠ ha; have := HA2.out; omega) (.int .i64 ow))
          replace W := Lib.hid (W.out.setCell (p := ⟨ha, m, none⟩) (by show w.heap.size ≤ ha; have := LW.out; omega) (.int .i64 ow))
          replace Wg := Lib.hid (Wg.out.setCell (p := ⟨ha, m, none⟩) (by show w3.heap.size ≤ ha; exact hsz) (.int .i64 ow))
          have OH := Lib.hid (oh.game (fits_owner (fits_lim (m + 1) (m + 1) (by omega)) m ow))
          have HS5 : Hid (w5.heap.size ≤ (w5.setCell ⟨ha, m, none⟩ (.int .i64 ow)).heap.size) := Lib.hid (by simp [World.setCell])
          generalize (w5.setCell ⟨ha, m, none⟩ (.int .i64 ow)) = w6 at BQg BQh W Wg OH HS5 ⊢
          clear oh hsz hu1 hf1 pc0 pc1 pc2 im
          obtain ⟨a1, e1, hr1, hq1⟩ := lim_o m hk2 ow
          obtain ⟨q1, hqe1⟩ : ∃ q, decide (ow = 0 ∨ ow = 1) = q := ⟨_, rfl⟩
          rw [hqe1] at hq1
          have HR1 := Lib.hid hr1
          have HQ1 := Lib.hid hq1
          clear hr1 hq1
          have bb := BQh.out
          have pc0 : w6.cell? ⟨qh, 0, none⟩ = some (.slice (some ⟨ha, 0, none⟩) (m + 1) hak) := bb.cell 0 _ rfl
          have pc1 : w6.cell? ⟨qh, 1, none⟩ = some (.slice (some ⟨hb_, 0, none⟩) (m + 1) hbk) := bb.cell 1 _ rfl
          have pc2 : w6.cell? ⟨qh, 2, none⟩ = some (.slice (some ⟨hc, 0, none⟩) (m + 1) hck) := bb.cell 2 _ rfl
          clear bb
          go_wp2_with fail
          refine (right_any _ _ _ OH.out).mono ?_
          rintro e w7 ⟨rfl, hb⟩
          rw [HR1.out]
          replace BQg := Lib.hid (BQg.out.keep (grown_of_below hb none))
          replace BQh := Lib.hid (BQh.out.keep (grown_of_below hb none))
          replace W := Lib.hid (W.out.trans (hb.mono W.out.size))
          replace Wg := Lib.hid (Wg.out.trans (hb.mono Wg.out.size))
          clear hb pc0 pc1 pc2
          go_upto_region 20 with (fail)
          go_cut [17] from 128 to 133 (fun t wx => t = .bool q1 ∧ wx = w7)
          case first =>
            by_cases h0 : ow = 0
            · have f0 : (ow == 0) = true := by rw [beq_iff_eq]; exact h0
              have hqt : q1 = true := by rw [← hqe1]; exact decide_eq_true (.inl h0)
              have HQT := Lib.hid hqt
              clear h0 hqe1 hqt
              go_wp2_with fail
              go_meet
              exact ⟨by rw [HQT.out], rfl⟩
            · have f0 : (ow == 0) = false := by rw [beq_eq_false_iff_ne]; exact h0
              by_cases h1 : ow = 1
              · have f1 : (ow == 1) = true := by rw [beq_iff_eq]; exact h1
                have hqt : q1 = true := by rw [← hqe1]; exact decide_eq_true (.inr h1)
                have HQT := Lib.hid hqt
                clear h0 h1 hqe1 hqt
                go_wp2_with fail
                go_meet
                exact ⟨by rw [HQT.out], rfl⟩
              · have f1 : (ow == 1) = false := by rw [beq_eq_false_iff_ne]; exact h1
                have hqt : q1 = false := by rw [← hqe1]; exact decide_eq_false (by omega)
                have HQT := Lib.hid hqt
                clear h0 h1 hqe1 hqt
                go_wp2_with fail
                go_meet
                exact ⟨by rw [HQT.out], rfl⟩
          case rest =>
            obtain ⟨rfl, rfl⟩ := hcut
            have bb := BQg.out
            have pc0 : wc.cell? ⟨qg, 0, none⟩ = some (.slice ao (m + 1) ka) := bb.cell 0 _ rfl
            have pc1 : wc.cell? ⟨qg, 1, none⟩ = some (.slice bo (m + 1) kb) := bb.cell 1 _ rfl
            have pc2 : wc.cell? ⟨qg, 2, none⟩ = some (.slice co (m + 1) kc) := bb.cell 2 _ rfl
            clear bb
            have lqh := BQh.out.lt
            have lcur := Wg.out.size
            go_wp2_with fail
            refine (copy_any (P.lim (m + 1) (m + 1)) _ _ (GV3.out.on Wg.out)).mono ?_
            rintro e wd1 ⟨av, bv, cv, iL, rfl, ho, hb⟩
            have hls := HLM.out
            obtain ⟨ia, iak, rfl, ha1, ha2, -, -⟩ := own_form ho.owner (by rw [hls.1]; omega)
            obtain ⟨ib, ibk, rfl, hb1, hb2, -, -⟩ := own_form ho.prio (by rw [hls.2.1]; omega)
            obtain ⟨ic, ick, rfl, hc1, hc2, -, -⟩ := own_form ho.head (by rw [hls.2.2]; omega)
            rw [hls.1, hls.2.1, hls.2.2] at ho
            rw [hls.1, hls.2.1, hls.2.2]
            replace BQg := Lib.hid (BQg.out.keep (grown_of_below hb none))
            replace BQh := Lib.hid (BQh.out.keep (grown_of_below hb none))
            replace W := Lib.hid (W.out.trans (hb.mono W.out.size))
            replace Wg := Lib.hid (Wg.out.trans (hb.mono Wg.out.size))
            have XA := Lib.hid (show qh < ia ∧ qh < ib ∧ qh < ic ∧ w3.heap.size ≤ ia ∧ w3.heap.size ≤ ib ∧ w3.heap.size ≤ ic ∧ ia < wd1.heap.size ∧ ib < wd1.heap.size ∧ ic < wd1.heap.size ∧ wc.heap.size < wd1.heap.size by omega)
            clear hb ha1 hb1 hc1 ha2 hb2 hc2 lqh lcur hls pc0 pc1 pc2
            have bx := BQh.out
            have qc0 : wd1.cell? ⟨qh, 0, none⟩ = some (.slice (some ⟨ha, 0, none⟩) (m + 1) hak) := bx.cell 0 _ rfl
            have qc1 : wd1.cell? ⟨qh, 1, none⟩ = some (.slice (some ⟨hb_, 0, none⟩) (m + 1) hbk) := bx.cell 1 _ rfl
            have qc2 : wd1.cell? ⟨qh, 2, none⟩ = some (.slice (some ⟨hc, 0, none⟩) (m + 1) hck) := bx.cell 2 _ rfl
            have qf0 : wd1.frozen? ⟨qh, 0, none⟩ = false := bx.frozen 0
            have qf1 : wd1.frozen? ⟨qh, 1, none⟩ = false := bx.frozen 1
            have qf2 : wd1.frozen? ⟨qh, 2, none⟩ = false := bx.frozen 2
            go_upto_region 22 with (fail)
            have Oi := Lib.hid (((ho.set bx (by decide) (by decide) 0 (.slice (some ⟨ia, 0, none⟩) (m + 1) iak)).set (bx.set 0 (.slice (some ⟨ia, 0, none⟩) (m + 1) iak)) (by decide) (by decide) 1 (.slice (some ⟨ib, 0, none⟩) (m + 1) ibk)).set ((bx.set 0 (.slice (some ⟨ia, 0, none⟩) (m + 1) iak)).set 1 (.slice (some ⟨ib, 0, none⟩) (m + 1) ibk)) (by decide) (by decide) 2 (.slice (some ⟨ic, 0, none⟩) (m + 1) ick))
            replace BQh := Lib.hid (((bx.set 0 (.slice (some ⟨ia, 0, none⟩) (m + 1) iak)).set 1 (.slice (some ⟨ib, 0, none⟩) (m + 1) ibk)).set 2 (.slice (some ⟨ic, 0, none⟩) (m + 1) ick))
            have hq1 : qg ≠ qh := by have := HQG3.out; have := HQH3.out; omega
            replace BQg := Lib.hid (((BQg.out.far (p := ⟨qh, 0, none⟩) hq1 (.slice (some ⟨ia, 0, none⟩) (m + 1) iak)).far (p := ⟨qh, 1, none⟩) hq1 (.slice (some ⟨ib, 0, none⟩) (m + 1) ibk)).far (p := ⟨qh, 2, none⟩) hq1 (.slice (some ⟨ic, 0, none⟩) (m + 1) ick))
            replace W := Lib.hid (((W.out.setCell (p := ⟨qh, 0, none⟩) (by show w.heap.size ≤ qh; have := LW.out; have := HQH3.out; omega) (.slice (some ⟨ia, 0, none⟩) (m + 1) iak)).setCell (p := ⟨qh, 1, none⟩) (by show w.heap.size ≤ qh; have := LW.out; have := HQH3.out; omega) (.slice (some ⟨ib, 0, none⟩) (m + 1) ibk)).setCell (p := ⟨qh, 2, none⟩) (by show w.heap.size ≤ qh; have := LW.out; have := HQH3.out; omega) (.slice (some ⟨ic, 0, none⟩) (m + 1) ick))
            replace Wg := Lib.hid (((Wg.out.setCell (p := ⟨qh, 0, none⟩) HQH3.out (.slice (some ⟨ia, 0, none⟩) (m + 1) iak)).setCell (p := ⟨qh, 1, none⟩) HQH3.out (.slice (some ⟨ib, 0, none⟩) (m + 1) ibk)).setCell (p := ⟨qh, 2, none⟩) HQH3.out (.slice (some ⟨ic, 0, none⟩) (m + 1) ick))
            have SZi : Hid (wc.heap.size ≤ (((wd1.setCell ⟨qh, 0, none⟩ (.slice (some ⟨ia, 0, none⟩) (m + 1) iak)).setCell ⟨qh, 1, none⟩ (.slice (some ⟨ib, 0, none⟩) (m + 1) ibk)).setCell ⟨qh, 2, none⟩ (.slice (some ⟨ic, 0, none⟩) (m + 1) ick)).heap.size) := Lib.hid (by simp [World.setCell]; exact Nat.le_of_lt XA.out.2.2.2.2.2.2.2.2.2)
            clear bx ho qc0 qc1 qc2 qf0 qf1 qf2 hq1
            generalize (((wd1.setCell ⟨qh, 0, none⟩ (.slice (some ⟨ia, 0, none⟩) (m + 1) iak)).setCell ⟨qh, 1, none⟩ (.slice (some ⟨ib, 0, none⟩) (m + 1) ibk)).setCell ⟨qh, 2, none⟩ (.slice (some ⟨ic, 0, none⟩) (m + 1) ick)) = wd2 at BQg BQh W Wg Oi SZi ⊢
            have hi := Oi.out.prio
            obtain ⟨hu1, hf1⟩ := OwnI.at_ hi ((m + 1) / 2) (by rw [HLM.out.2.1]; omega)
            have hq2 : ((m : Int) + 1) / 2 = (((m + 1) / 2 : Nat) : Int) := by omega
            obtain ⟨q2, hq2e⟩ : ∃ q2, (m + 1) / 2 = q2 := ⟨_, rfl⟩
            rw [hq2e] at hu1 hf1 hq2
            have hq20 : (0 : Int) ≤ (q2 : Int) := Int.natCast_nonneg _
            have hq21 : (q2 : Int) < (m : Int) + 1 := by omega
            have HQ2E := Lib.hid hq2e
            clear hi hq2e
            have bb := BQh.out
            have pc0 : wd2.cell? ⟨qh, 0, none⟩ = some (.slice (some ⟨ia, 0, none⟩) (m + 1) iak) := bb.cell 0 _ rfl
            have pc1 : wd2.cell? ⟨qh, 1, none⟩ = some (.slice (some ⟨ib, 0, none⟩) (m + 1) ibk) := bb.cell 1 _ rfl
            have pc2 : wd2.cell? ⟨qh, 2, none⟩ = some (.slice (some ⟨ic, 0, none⟩) (m + 1) ick) := bb.cell 2 _ rfl
            clear bb
            go_upto_region 23 with (fail)
            have oh := Oi.out.setPrio (by omega) q2 pr
            replace BQg := Lib.hid (BQg.out.far (p := ⟨ib, q2, none⟩) (by show qg ≠ ib; have := HQG3.out; have := XA.out; omega) (.int .i64 pr))
            replace BQh := Lib.hid (BQh.out.far (p := ⟨ib, q2, none⟩) (by show qh ≠ ib; have := XA.out; omega) (.int .i64 pr))
            replace W := Lib.hid (W.out.setCell (p := ⟨ib, q2, none⟩) (by show w.heap.size ≤ ib; have := LW.out; have := XA.out; omega) (.int .i64 pr))
            replace Wg := Lib.hid (Wg.out.setCell (p := ⟨ib, q2, none⟩) (by show w3.heap.size ≤ ib; have := XA.out; omega) (.int .i64 pr))
            have OI := Lib.hid (oh.game (fits_prio (fits_lim (m + 1) (m + 1) (by omega)) q2 pr))
            generalize (wd2.setCell ⟨ib, q2, none⟩ (.int .i64 pr)) = wd3 at BQg BQh W Wg OI ⊢
            clear oh hu1 hf1 hq2 hq20 hq21 pc0 pc1 pc2
            obtain ⟨a2, e2, hr2, hs2⟩ := lim_p m hk2 pr
            rw [HQ2E.out] at hr2 hs2
            obtain ⟨t2, hte2⟩ : ∃ q, decide (0 ≤ pr ∧ pr ≤ 7) = q := ⟨_, rfl⟩
            rw [hte2] at hs2
            have HR2 := Lib.hid hr2
            have HQ2 := Lib.hid hs2
            clear hr2 hs2
            have bb := BQh.out
            have pc0 : wd3.cell? ⟨qh, 0, none⟩ = some (.slice (some ⟨ia, 0, none⟩) (m + 1) iak) := bb.cell 0 _ rfl
            have pc1 : wd3.cell? ⟨qh, 1, none⟩ = some (.slice (some ⟨ib, 0, none⟩) (m + 1) ibk) := bb.cell 1 _ rfl
            have pc2 : wd3.cell? ⟨qh, 2, none⟩ = some (.slice (some ⟨ic, 0, none⟩) (m + 1) ick) := bb.cell 2 _ rfl
            clear bb
            go_wp2_with fail
            refine (right_any _ _ _ OI.out).mono ?_
            rintro e wd4 ⟨rfl, hb⟩
            rw [HR2.out]
            replace BQg := Lib.hid (BQg.out.keep (grown_of_below hb none))
            replace BQh := Lib.hid (BQh.out.keep (grown_of_below hb none))
            replace W := Lib.hid (W.out.trans (hb.mono W.out.size))
            replace Wg := Lib.hid (Wg.out.trans (hb.mono Wg.out.size))
            clear hb pc0 pc1 pc2
            go_upto_region 24 with (fail)
            go_cut [20] from 147 to 152 (fun t wx => t = .bool t2 ∧ wx = wd4)
            case first =>
              by_cases h0 : 0 ≤ pr
              · have f0 : decide (0 ≤ pr) = true := decide_eq_true h0
                by_cases h1 : pr ≤ 7
                · have f1 : decide (pr ≤ 7) = true := decide_eq_true h1
                  have HQT := Lib.hid (show t2 = true by rw [← hte2]; exact decide_eq_true ⟨h0, h1⟩)
                  clear h0 h1 hte2
                  go_wp2_with fail
                  go_meet
                  exact ⟨by rw [HQT.out], rfl⟩
                · have f1 : decide (pr ≤ 7) = false := decide_eq_false h1
                  have HQT := Lib.hid (show t2 = false by rw [← hte2]; exact decide_eq_false (by omega))
                  clear h0 h1 hte2
                  go_wp2_with fail
                  go_meet
                  exact ⟨by rw [HQT.out], rfl⟩
              · have f0 : decide (0 ≤ pr) = false := decide_eq_false h0
                have HQT := Lib.hid (show t2 = false by rw [← hte2]; exact decide_eq_false (by omega))
                clear h0 hte2
                go_wp2_with fail
                go_meet
                exact ⟨by rw [HQT.out], rfl⟩
            case rest =>
              obtain ⟨rfl, rfl⟩ := hcut
              have XI := XA
              have bb := BQg.out
              have pc0 : wc.cell? ⟨qg, 0, none⟩ = some (.slice ao (m + 1) ka) := bb.cell 0 _ rfl
              have pc1 : wc.cell? ⟨qg, 1, none⟩ = some (.slice bo (m + 1) kb) := bb.cell 1 _ rfl
              have pc2 : wc.cell? ⟨qg, 2, none⟩ = some (.slice co (m + 1) kc) := bb.cell 2 _ rfl
              clear bb
              have lqh := BQh.out.lt
              have lcur := Wg.out.size
              go_wp2_with fail
              refine (copy_any (P.lim (m + 1) (m + 1)) _ _ (GV3.out.on Wg.out)).mono ?_
              rintro e we1 ⟨av, bv, cv, jL, rfl, ho, hb⟩
              have hls := HLM.out
              obtain ⟨ja, jak, rfl, ha1, ha2, -, -⟩ := own_form ho.owner (by rw [hls.1]; omega)
              obtain ⟨jb, jbk, rfl, hb1, hb2, -, -⟩ := own_form ho.prio (by rw [hls.2.1]; omega)
              obtain ⟨jc, jck, rfl, hc1, hc2, -, -⟩ := own_form ho.head (by rw [hls.2.2]; omega)
              rw [hls.1, hls.2.1, hls.2.2] at ho
              rw [hls.1, hls.2.1, hls.2.2]
              replace BQg := Lib.hid (BQg.out.keep (grown_of_below hb none))
              replace BQh := Lib.hid (BQh.out.keep (grown_of_below hb none))
              replace W := Lib.hid (W.out.trans (hb.mono W.out.size))
              replace Wg := Lib.hid (Wg.out.trans (hb.mono Wg.out.size))
              have XA := Lib.hid (show qh < ja ∧ qh < jb ∧ qh < jc ∧ w3.heap.size ≤ ja ∧ w3.heap.size ≤ jb ∧ w3.heap.size ≤ jc ∧ ja < we1.heap.size ∧ jb < we1.heap.size ∧ jc < we1.heap.size ∧ wc.heap.size < we1.heap.size by omega)
              clear hb ha1 hb1 hc1 ha2 hb2 hc2 lqh lcur hls pc0 pc1 pc2
              have bx := BQh.out
              have qc0 : we1.cell? ⟨qh, 0, none⟩ = some (.slice (some ⟨ia, 0, none⟩) (m + 1) iak) := bx.cell 0 _ rfl
              have qc1 : we1.cell? ⟨qh, 1, none⟩ = some (.slice (some ⟨ib, 0, none⟩) (m + 1) ibk) := bx.cell 1 _ rfl
              have qc2 : we1.cell? ⟨qh, 2, none⟩ = some (.slice (some ⟨ic, 0, none⟩) (m + 1) ick) := bx.cell 2 _ rfl
              have qf0 : we1.frozen? ⟨qh, 0, none⟩ = false := bx.frozen 0
              have qf1 : we1.frozen? ⟨qh, 1, none⟩ = false := bx.frozen 1
              have qf2 : we1.frozen? ⟨qh, 2, none⟩ = false := bx.frozen 2
              go_upto_region 26 with (fail)
              have Oj := Lib.hid (((ho.set bx (by decide) (by decide) 0 (.slice (some ⟨ja, 0, none⟩) (m + 1) jak)).set (bx.set 0 (.slice (some ⟨ja, 0, none⟩) (m + 1) jak)) (by decide) (by decide) 1 (.slice (some ⟨jb, 0, none⟩) (m + 1) jbk)).set ((bx.set 0 (.slice (some ⟨ja, 0, none⟩) (m + 1) jak)).set 1 (.slice (some ⟨jb, 0, none⟩) (m + 1) jbk)) (by decide) (by decide) 2 (.slice (some ⟨jc, 0, none⟩) (m + 1) jck))
              replace BQh := Lib.hid (((bx.set 0 (.slice (some ⟨ja, 0, none⟩) (m + 1) jak)).set 1 (.slice (some ⟨jb, 0, none⟩) (m + 1) jbk)).set 2 (.slice (some ⟨jc, 0, none⟩) (m + 1) jck))
              have hq1 : qg ≠ qh := by have := HQG3.out; have := HQH3.out; omega
              replace BQg := Lib.hid (((BQg.out.far (p := ⟨qh, 0, none⟩) hq1 (.slice (some ⟨ja, 0, none⟩) (m + 1) jak)).far (p := ⟨qh, 1, none⟩) hq1 (.slice (some ⟨jb, 0, none⟩) (m + 1) jbk)).far (p := ⟨qh, 2, none⟩) hq1 (.slice (some ⟨jc, 0, none⟩) (m + 1) jck))
              replace W := Lib.hid (((W.out.setCell (p := ⟨qh, 0, none⟩) (by show w.heap.size ≤ qh; have := LW.out; have := HQH3.out; omega) (.slice (some ⟨ja, 0, none⟩) (m + 1) jak)).setCell (p := ⟨qh, 1, none⟩) (by show w.heap.size ≤ qh; have := LW.out; have := HQH3.out; omega) (.slice (some ⟨jb, 0, none⟩) (m + 1) jbk)).setCell (p := ⟨qh, 2, none⟩) (by show w.heap.size ≤ qh; have := LW.out; have := HQH3.out; omega) (.slice (some ⟨jc, 0, none⟩) (m + 1) jck))
              replace Wg := Lib.hid (((Wg.out.setCell (p := ⟨qh, 0, none⟩) HQH3.out (.slice (some ⟨ja, 0, none⟩) (m + 1) jak)).setCell (p := ⟨qh, 1, none⟩) HQH3.out (.slice (some ⟨jb, 0, none⟩) (m + 1) jbk)).setCell (p := ⟨qh, 2, none⟩) HQH3.out (.slice (some ⟨jc, 0, none⟩) (m + 1) jck))
              have SZj : Hid (wc.heap.size ≤ (((we1.setCell ⟨qh, 0, none⟩ (.slice (some ⟨ja, 0, none⟩) (m + 1) jak)).setCell ⟨qh, 1, none⟩ (.slice (some ⟨jb, 0, none⟩) (m + 1) jbk)).setCell ⟨qh, 2, none⟩ (.slice (some ⟨jc, 0, none⟩) (m + 1) jck)).heap.size) := Lib.hid (by simp [World.setCell]; exact Nat.le_of_lt XA.out.2.2.2.2.2.2.2.2.2)
              clear bx ho qc0 qc1 qc2 qf0 qf1 qf2 hq1
              generalize (((we1.setCell ⟨qh, 0, none⟩ (.slice (some ⟨ja, 0, none⟩) (m + 1) jak)).setCell ⟨qh, 1, none⟩ (.slice (some ⟨jb, 0, none⟩) (m + 1) jbk)).setCell ⟨qh, 2, none⟩ (.slice (some ⟨jc, 0, none⟩) (m + 1) jck)) = we2 at BQg BQh W Wg Oj SZj ⊢
              have BQh0 := BQh
              have lqh := Lib.hid BQh.out.lt
              have lqg := Lib.hid BQg.out.lt
              have lwg := Lib.hid Wg.out.size
              have hal := World.grownBy_alloc we2 (.cells #[.int .i64 mv] 3) none
              have oj := Oj.out.grown hal
              have ox := own_one we2 we2.heap.size mv (Nat.le_refl _)
              have hfar : ∀ (i : Nat) (u : Value), (((.slice (some ⟨ja, 0, none⟩) (m + 1) jak) : Value) :: ((.slice (some ⟨jb, 0, none⟩) (m + 1) jbk) : Value) :: jL)[i]? = some u → ∀ p, hold (.slice (some ⟨we2.heap.size, 0, none⟩) 1 1) = some p → hold u ≠ some p := fun i u hu p hp hq => by
                have h1 := Oj.out.low_ i u p hu (hold_own hq)
                have h2 : p = we2.heap.size := by simp [hold] at hp; exact hp.symm
                omega
              have ofar := oj.setRow 0 ox SZj.out hfar
              obtain ⟨u9, hu1, hf1⟩ : ∃ u, (we2.alloc (.cells #[.int .i64 mv] 3)).cell? ⟨jc, 0, none⟩ = some u ∧ (we2.alloc (.cells #[.int .i64 mv] 3)).frozen? ⟨jc, 0, none⟩ = false := by
                obtain ⟨g', k', e, -, -, hc, hf⟩ := own_form oj.head (by rw [HLM.out.2.2]; omega)
                injection e with e1 e2 e3
                injection e1 with e1
                injection e1 with e1
                subst e1
                have hlen : 0 < jL.length := by
                  have h1 : jL.length = (P.lim (m + 1) (m + 1)).moves.length * 1 := Oj.out.head.1
                  rw [HLM.out.2.2] at h1
                  omega
                exact ⟨_, hc 0 _ (List.getElem?_eq_getElem hlen), hf 0⟩
              replace BQg := Lib.hid (BQg.out.keep hal)
              replace BQh := Lib.hid (BQh.out.keep hal)
              replace W := Lib.hid (W.out.trans ((below_of_grown hal).mono W.out.size))
              replace Wg := Lib.hid (Wg.out.trans ((below_of_grown hal).mono Wg.out.size))
              have bb := (Lib.hid BQh0.out).out
              have pc0 : we2.cell? ⟨qh, 0, none⟩ = some (.slice (some ⟨ja, 0, none⟩) (m + 1) jak) := bb.cell 0 _ rfl
              have pc1 : we2.cell? ⟨qh, 1, none⟩ = some (.slice (some ⟨jb, 0, none⟩) (m + 1) jbk) := bb.cell 1 _ rfl
              have pc2 : we2.cell? ⟨qh, 2, none⟩ = some (.slice (some ⟨jc, 0, none⟩) (m + 1) jck) := bb.cell 2 _ rfl
              have im : (0 : Int) < (m : Int) + 1 := by omega
              have OX := Lib.hid ofar
              clear bb oj ox hfar ofar hal
              go_upto_region 27 with (fail)
              have SZ5 : Hid (wc.heap.size ≤ (we2.alloc (.cells #[.int .i64 mv] 3)).heap.size) := Lib.hid (by have := SZj.out; simp; omega)
              generalize (we2.alloc (.cells #[.int .i64 mv] 3)) = we3 at hu1 hf1 BQg BQh W Wg OX SZ5 ⊢
              generalize we2.heap.size = jx at OX ⊢
              replace BQg := Lib.hid (BQg.out.far (p := ⟨jc, 0, none⟩) (by show qg ≠ jc; have := HQG3.out; have := XA.out; omega) (.slice (some ⟨jx, 0, none⟩) 1 1))
              replace BQh := Lib.hid (BQh.out.far (p := ⟨jc, 0, none⟩) (by show qh ≠ jc; have := XA.out; omega) (.slice (some ⟨jx, 0, none⟩) 1 1))
              replace W := Lib.hid (W.out.setCell (p := ⟨jc, 0, none⟩) (by show w.heap.size ≤ jc; have := LW.out; have := XA.out; omega) (.slice (some ⟨jx, 0, none⟩) 1 1))
              replace Wg := Lib.hid (Wg.out.setCell (p := ⟨jc, 0, none⟩) (by show w3.heap.size ≤ jc; have := XA.out; omega) (.slice (some ⟨jx, 0, none⟩) 1 1))
              replace SZ5 : Hid (wc.heap.size ≤ (we3.setCell ⟨jc, 0, none⟩ (.slice (some ⟨jx, 0, none⟩) 1 1)).heap.size) := Lib.hid (by simp [World.setCell]; exact SZ5.out)
              generalize (we3.setCell ⟨jc, 0, none⟩ (.slice (some ⟨jx, 0, none⟩) 1 1)) = we4 at BQg BQh W Wg OX SZ5 ⊢
              clear hu1 hf1 pc0 pc1 pc2 im
              obtain ⟨e3, hr3, hs3⟩ := lim_m m hk2 mv
              obtain ⟨t3, hte3⟩ : ∃ q, decide (0 ≤ mv ∧ mv < ((m + 1 : Nat) : Int)) = q := ⟨_, rfl⟩
              rw [hte3] at hs3
              have HR3 := Lib.hid hr3
              have HQ3 := Lib.hid hs3
              clear hr3 hs3
              have bb := BQh.out
              have pc0 : we4.cell? ⟨qh, 0, none⟩ = some (.slice (some ⟨ja, 0, none⟩) (m + 1) jak) := bb.cell 0 _ rfl
              have pc1 : we4.cell? ⟨qh, 1, none⟩ = some (.slice (some ⟨jb, 0, none⟩) (m + 1) jbk) := bb.cell 1 _ rfl
              have pc2 : we4.cell? ⟨qh, 2, none⟩ = some (.slice (some ⟨jc, 0, none⟩) (m + 1) jck) := bb.cell 2 _ rfl
              clear bb
              go_wp2_with fail
              refine (right_any _ _ _ (OX.out.game (fits_row (fits_lim (m + 1) (m + 1) (by omega)) 0 [mv] (by simp)))).mono ?_
              rintro e we5 ⟨rfl, hb⟩
              rw [HR3.out]
              replace BQg := Lib.hid (BQg.out.keep (grown_of_below hb none))
              replace BQh := Lib.hid (BQh.out.keep (grown_of_below hb none))
              replace W := Lib.hid (W.out.trans (hb.mono W.out.size))
              replace Wg := Lib.hid (Wg.out.trans (hb.mono Wg.out.size))
              replace OX := Lib.hid (OX.out.grown (grown_of_below hb none))
              replace SZ5 := Lib.hid (Nat.le_trans SZ5.out hb.size)
              clear hb pc0 pc1 pc2
              go_upto_region 28 with (fail)
              go_cut [23] from 165 to 171 (fun t wx => t = .bool t3 ∧ wx = we5)
              case first =>
                by_cases h0 : 0 ≤ mv
                · have f0 : decide (0 ≤ mv) = true := decide_eq_true h0
                  by_cases h1 : mv < (m : Int) + 1
                  · have f1 : decide (mv < (m : Int) + 1) = true := decide_eq_true h1
                    have HQT := Lib.hid (show t3 = true by rw [← hte3]; exact decide_eq_true (by omega))
                    clear h0 h1 hte3
                    go_wp2_with fail
                    go_meet
                    exact ⟨by rw [HQT.out], rfl⟩
                  · have f1 : decide (mv < (m : Int) + 1) = false := decide_eq_false h1
                    have HQT := Lib.hid (show t3 = false by rw [← hte3]; exact decide_eq_false (by omega))
                    clear h0 h1 hte3
                    go_wp2_with fail
                    go_meet
                    exact ⟨by rw [HQT.out], rfl⟩
                · have f0 : decide (0 ≤ mv) = false := decide_eq_false h0
                  have HQT := Lib.hid (show t3 = false by rw [← hte3]; exact decide_eq_false (by omega))
                  clear h0 hte3
                  go_wp2_with fail
                  go_meet
                  exact ⟨by rw [HQT.out], rfl⟩
              case rest =>
                obtain ⟨rfl, rfl⟩ := hcut
                have HEND := Lib.hid (EndL.mk BQh.out OX.out W.out SZ5.out (by have := XA.out; omega) (by have := XA.out; have := LW.out; omega) : EndL w m qh _ mv ja jak jb jbk jc jck _ wc)
                have hz1 := HQ1.out
                have hz2 := HQ2.out
                have hz3 := HQ3.out
                have HQQ := Lib.hid HQ2E.out
                cases q1 <;> cases t2 <;> cases t3
                · simp only [if_false, Bool.false_eq_true] at hz1 hz2 hz3
                  obtain ⟨y1, y2⟩ := hz1
                  obtain ⟨y3, y4⟩ := hz2
                  replace y1 := y1.symm
                  replace y2 := y2.symm
                  replace y3 := y3.symm
                  replace y4 := y4.symm
                  replace hz3 := hz3.symm
                  subst y1 y2 y3 y4 hz3
                  apply_assumption
                  exact ph29_000 m _ qh _ mv ja jak jb jbk jc jck _ w wc hk2 HQQ.out HEND.out _ _ _ _ _ _ _ _ _ _ _ _ _ _ _ _ _ _ _ _ _ _ _ _ _ _ _ _ _ _ _ _ _ _ _ _ _ _ _ _ _ _ _ _ _ _ _ _ _ _ _ _ _ _ _ _ _ _ _ _ _ _ _ _ _ _ _ _ _ _ _ _ _ _ _ _ _ _ _ _ _ _ _ _ _ _ _ _ _ _ _ _ _ _ _ _ _ _ _ _ _ _ _ _ _ _ _ _ _ _ _ _ _ _ _ _ _ _ _ _ _ _ _ _ _ _ _ _ _ _ _ _ _ _ _ _ _ _ _ _ _ _ _ _ _ _ _ _ _ _ _ _ _ _ _ _ _ _
                · simp only [if_true, if_false, Bool.false_eq_true] at hz1 hz2 hz3
                  obtain ⟨y1, y2⟩ := hz1
                  obtain ⟨y3, y4⟩ := hz2
                  replace y1 := y1.symm
                  replace y2 := y2.symm
                  replace y3 := y3.symm
                  replace y4 := y4.symm
                  replace hz3 := hz3.symm
                  subst y1 y2 y3 y4 hz3
                  apply_assumption
                  exact ph29_001 m _ qh _ mv ja jak jb jbk jc jck _ w wc hk2 HQQ.out HEND.out _ _ _ _ _ _ _ _ _ _ _ _ _ _ _ _ _ _ _ _ _ _ _ _ _ _ _ _ _ _ _ _ _ _ _ _ _ _ _ _ _ _ _ _ _ _ _ _ _ _ _ _ _ _ _ _ _ _ _ _ _ _ _ _ _ _ _ _ _ _ _ _ _ _ _ _ _ _ _ _ _ _ _ _ _ _ _ _ _ _ _ _ _ _ _ _ _ _ _ _ _ _ _ _ _ _ _ _ _ _ _ _ _ _ _ _ _ _ _ _ _ _ _ _ _ _ _ _ _ _ _ _ _ _ _ _ _ _ _ _ _ _ _ _ _ _ _ _ _ _ _ _ _ _ _ _ _ _
                · simp only [if_true, if_false, Bool.false_eq_true] at hz1 hz2 hz3
                  obtain ⟨y1, y2⟩ := hz1
                  obtain ⟨y3, y4⟩ := hz2
                  replace y1 := y1.symm
                  replace y2 := y2.symm
                  replace y3 := y3.symm
                  replace y4 := y4.symm
                  replace hz3 := hz3.symm
                  subst y1 y2 y3 y4 hz3
                  apply_assumption
                  exact ph29_010 m _ qh _ mv ja jak jb jbk jc jck _ w wc hk2 HQQ.out HEND.out _ _ _ _ _ _ _ _ _ _ _ _ _ _ _ _ _ _ _ _ _ _ _ _ _ _ _ _ _ _ _ _ _ _ _ _ _ _ _ _ _ _ _ _ _ _ _ _ _ _ _ _ _ _ _ _ _ _ _ _ _ _ _ _ _ _ _ _ _ _ _ _ _ _ _ _ _ _ _ _ _ _ _ _ _ _ _ _ _ _ _ _ _ _ _ _ _ _ _ _ _ _ _ _ _ _ _ _ _ _ _ _ _ _ _ _ _ _ _ _ _ _ _ _ _ _ _ _ _ _ _ _ _ _ _ _ _ _ _ _ _ _ _ _ _ _ _ _ _ _ _ _ _ _ _ _ _ _
                · simp only [if_true, if_false, Bool.false_eq_true] at hz1 hz2 hz3
                  obtain ⟨y1, y2⟩ := hz1
                  obtain ⟨y3, y4⟩ := hz2
                  replace y1 := y1.symm
                  replace y2 := y2.symm
                  replace y3 := y3.symm
                  replace y4 := y4.symm
                  replace hz3 := hz3.symm
                  subst y1 y2 y3 y4 hz3
                  apply_assumption
                  exact ph29_011 m _ qh _ mv ja jak jb jbk jc jck _ w wc hk2 HQQ.out HEND.out _ _ _ _ _ _ _ _ _ _ _ _ _ _ _ _ _ _ _ _ _ _ _ _ _ _ _ _ _ _ _ _ _ _ _ _ _ _ _ _ _ _ _ _ _ _ _ _ _ _ _ _ _ _ _ _ _ _ _ _ _ _ _ _ _ _ _ _ _ _ _ _ _ _ _ _ _ _ _ _ _ _ _ _ _ _ _ _ _ _ _ _ _ _ _ _ _ _ _ _ _ _ _ _ _ _ _ _ _ _ _ _ _ _ _ _ _ _ _ _ _ _ _ _ _ _ _ _ _ _ _ _ _ _ _ _ _ _ _ _ _ _ _ _ _ _ _ _ _ _ _ _ _ _ _ _ _ _
                · simp only [if_true, if_false, Bool.false_eq_true] at hz1 hz2 hz3
                  obtain ⟨y1, y2⟩ := hz1
                  obtain ⟨y3, y4⟩ := hz2
                  replace y1 := y1.symm
                  replace y2 := y2.symm
                  replace y3 := y3.symm
                  replace y4 := y4.symm
                  replace hz3 := hz3.symm
                  subst y1 y2 y3 y4 hz3
                  apply_assumption
                  exact ph29_100 m _ qh _ mv ja jak jb jbk jc jck _ w wc hk2 HQQ.out HEND.out _ _ _ _ _ _ _ _ _ _ _ _ _ _ _ _ _ _ _ _ _ _ _ _ _ _ _ _ _ _ _ _ _ _ _ _ _ _ _ _ _ _ _ _ _ _ _ _ _ _ _ _ _ _ _ _ _ _ _ _ _ _ _ _ _ _ _ _ _ _ _ _ _ _ _ _ _ _ _ _ _ _ _ _ _ _ _ _ _ _ _ _ _ _ _ _ _ _ _ _ _ _ _ _ _ _ _ _ _ _ _ _ _ _ _ _ _ _ _ _ _ _ _ _ _ _ _ _ _ _ _ _ _ _ _ _ _ _ _ _ _ _ _ _ _ _ _ _ _ _ _ _ _ _ _ _ _ _
                · simp only [if_true, if_false, Bool.false_eq_true] at hz1 hz2 hz3
                  obtain ⟨y1, y2⟩ := hz1
                  obtain ⟨y3, y4⟩ := hz2
                  replace y1 := y1.symm
                  replace y2 := y2.symm
                  replace y3 := y3.symm
                  replace y4 := y4.symm
                  replace hz3 := hz3.symm
                  subst y1 y2 y3 y4 hz3
                  apply_assumption
                  exact ph29_101 m _ qh _ mv ja jak jb jbk jc jck _ w wc hk2 HQQ.out HEND.out _ _ _ _ _ _ _ _ _ _ _ _ _ _ _ _ _ _ _ _ _ _ _ _ _ _ _ _ _ _ _ _ _ _ _ _ _ _ _ _ _ _ _ _ _ _ _ _ _ _ _ _ _ _ _ _ _ _ _ _ _ _ _ _ _ _ _ _ _ _ _ _ _ _ _ _ _ _ _ _ _ _ _ _ _ _ _ _ _ _ _ _ _ _ _ _ _ _ _ _ _ _ _ _ _ _ _ _ _ _ _ _ _ _ _ _ _ _ _ _ _ _ _ _ _ _ _ _ _ _ _ _ _ _ _ _ _ _ _ _ _ _ _ _ _ _ _ _ _ _ _ _ _ _ _ _ _ _
                · simp only [if_true, if_false, Bool.false_eq_true] at hz1 hz2 hz3
                  obtain ⟨y1, y2⟩ := hz1
                  obtain ⟨y3, y4⟩ := hz2
                  replace y1 := y1.symm
                  replace y2 := y2.symm
                  replace y3 := y3.symm
                  replace y4 := y4.symm
                  replace hz3 := hz3.symm
                  subst y1 y2 y3 y4 hz3
                  apply_assumption
                  exact ph29_110 m _ qh _ mv ja jak jb jbk jc jck _ w wc hk2 HQQ.out HEND.out _ _ _ _ _ _ _ _ _ _ _ _ _ _ _ _ _ _ _ _ _ _ _ _ _ _ _ _ _ _ _ _ _ _ _ _ _ _ _ _ _ _ _ _ _ _ _ _ _ _ _ _ _ _ _ _ _ _ _ _ _ _ _ _ _ _ _ _ _ _ _ _ _ _ _ _ _ _ _ _ _ _ _ _ _ _ _ _ _ _ _ _ _ _ _ _ _ _ _ _ _ _ _ _ _ _ _ _ _ _ _ _ _ _ _ _ _ _ _ _ _ _ _ _ _ _ _ _ _ _ _ _ _ _ _ _ _ _ _ _ _ _ _ _ _ _ _ _ _ _ _ _ _ _ _ _ _ _
                · simp only [if_true] at hz1 hz2 hz3
                  obtain ⟨y1, y2⟩ := hz1
                  obtain ⟨y3, y4⟩ := hz2
                  replace y1 := y1.symm
                  replace y2 := y2.symm
                  replace y3 := y3.symm
                  replace y4 := y4.symm
                  replace hz3 := hz3.symm
                  subst y1 y2 y3 y4 hz3
                  apply_assumption
                  exact ph29_111 m _ qh _ mv ja jak jb jbk jc jck _ w wc hk2 HQQ.out HEND.out _ _ _ _ _ _ _ _ _ _ _ _ _ _ _ _ _ _ _ _ _ _ _ _ _ _ _ _ _ _ _ _ _ _ _ _ _ _ _ _ _ _ _ _ _ _ _ _ _ _ _ _ _ _ _ _ _ _ _ _ _ _ _ _ _ _ _ _ _ _ _ _ _ _ _ _ _ _ _ _ _ _ _ _ _ _ _ _ _ _ _ _ _ _ _ _ _ _ _ _ _ _ _ _ _ _ _ _ _ _ _ _ _ _ _ _ _ _ _ _ _ _ _ _ _ _ _ _ _ _ _ _ _ _ _ _ _ _ _ _ _ _ _ _ _ _ _ _ _ _ _ _ _ _ _ _ _ _

end W
end Go.Proofs.YtlbikfimfaecnaaDoor
