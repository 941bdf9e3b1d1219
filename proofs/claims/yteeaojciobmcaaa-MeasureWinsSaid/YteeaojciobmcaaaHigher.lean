/- MeasureHigher: the walk. -/
import Derived.Test.YteeaojciobmcaaaEvens
import Derived.Test.YteeaojciobmcaaaHigherP
import Derived.Test.YteeaojciobmcaaaHeavy
import Derived.StillTailTactics
import Derived.Deep.Cut
import Derived.Lib.Hide
import Derived.Deep.QuietTactic
import Derived.BigQuiet
namespace Go.Proofs.Yteeaojciobmcaaa
open Go.RowKit
namespace W

/-- What lifting ends in. -/
noncomputable def solOf (g : P.G) : List P.Tup := open Classical in if h : ∃ l, P.IsSol g l then h.choose else []
theorem is_solOf {g : P.G} {l : List P.Tup} (h : P.IsSol g l) : solOf g = l := by
  unfold solOf
  rw [dif_pos ⟨l, h⟩]
  exact (Exists.choose_spec (p := fun l => P.IsSol g l) ⟨l, h⟩).unique h
theorem fits_high {g : P.G} (h : Fits g) : Fits g.higher := ⟨h.1, by show (g.prio.map _).length ≤ _; rw [List.length_map]; exact h.2.1, h.2.2.1, h.2.2.2⟩
theorem ev_sol {g : P.G} {n : Nat} (h : P.IsSol g (solOf g)) (hr : g.Right) (hn : g.owner.length = n) : evR g (solOf g) = evF (solOf g) n ∧ (evM g (solOf g)).length = n := by
  have hl : (solOf g).length = n := by rw [h.1.1]; exact hn
  have hf : fits g (solOf g) = true := by unfold fits; rw [(P.G.ok_iff g).2 hr, hl, hn, decide_eq_true rfl]; rfl
  unfold evR evM
  rw [if_pos hf, if_pos hf, List.length_map, List.length_range, hl]
  exact ⟨rfl, rfl⟩
theorem tops_high {g : P.G} {n : Nat} (hr : g.Right) (h5 : ∀ i, i < g.owner.length → g.prio.getD i 0 ≤ 5) (h : P.IsSol g (solOf g)) (h2 : P.IsSol g.higher (solOf g.higher)) : evF (solOf g) n = evF (solOf g.higher) n := by
  rw [h2.unique (P.sol_high hr h5 h)]
  unfold evF
  congr 2
  funext i
  rw [P.getD_phi]
  rfl
set_option maxRecDepth 100000 in
set_option maxHeartbeats 8000000 in
theorem higher_law (g : P.G) (v : Value) (w : World) (hv : GameV w v g) : Calls Try.prog 12 #[v] w fun e w' => e = .returned (.bool true) ∧ Below w.heap.size w w' := by
  have HFI := Lib.hid hv.fits
  have HV := Lib.hid hv
  cases hok : g.ok
  · obtain ⟨a, b, c, rfl, -⟩ := hv
    have hq0 : g.right.2 ≠ 0 := by unfold P.G.ok at hok; exact beq_eq_false_iff_ne.1 hok
    clear hok
    go_enter Try.func12, Try.ntmps12
    go_wp2_with fail
    have bx0 : Box (w.alloc (.cells #[a, b, c] 33)) (w.heap.size) 33 #[a, b, c] := Box.new w 33 #[a, b, c]
    have hbq : Below w.heap.size w (w.alloc (.cells #[a, b, c] 33)) := (Below.refl _ w).alloc (Nat.le_refl _) _
    have hle0 : w.heap.size ≤ w.heap.size := Nat.le_refl _
    generalize (w.alloc (.cells #[a, b, c] 33)) = w0 at bx0 hbq  ⊢
    have BQg := Lib.hid bx0
    have W := Lib.hid hbq
    have LEg := Lib.hid hle0
    clear hbq hle0 bx0 
    obtain ⟨qg, hqg⟩ : ∃ qg, w.heap.size = qg := ⟨_, rfl⟩
    rw [hqg] at BQg ⊢
    have LEg : Hid (w.heap.size ≤ qg) := Lib.hid (by omega)
    clear hqg
    refine (shown_any w0).mono ?_
    rintro e w1 ⟨rfl, hb⟩
    replace BQg := Lib.hid (BQg.out.keep (grown_of_below hb none))
    replace W := Lib.hid (W.out.trans (hb.mono W.out.size))
    clear hb
    have hbb := BQg.out
    have gc0 : w1.cell? ⟨qg, 0, none⟩ = some a := hbb.cell 0 _ rfl
    have gc1 : w1.cell? ⟨qg, 1, none⟩ = some b := hbb.cell 1 _ rfl
    have gc2 : w1.cell? ⟨qg, 2, none⟩ = some c := hbb.cell 2 _ rfl
    clear hbb
    go_wp2_with fail
    clear gc0 gc1 gc2
    refine (right_any g _ _ (HV.out.on W.out)).mono ?_
    rintro e w2 ⟨rfl, hb⟩
    replace BQg := Lib.hid (BQg.out.keep (grown_of_below hb none))
    replace W := Lib.hid (W.out.trans (hb.mono W.out.size))
    clear hb
    obtain ⟨z, hz⟩ : ∃ z, g.right.2 = z := ⟨_, rfl⟩
    rw [hz] at hq0 ⊢
    have fq : (((z : Nat) : Int) != 0) = true := by rw [bne_iff_ne]; omega
    clear hz hq0
    have hbb := BQg.out
    have gc0 : w2.cell? ⟨qg, 0, none⟩ = some a := hbb.cell 0 _ rfl
    have gc1 : w2.cell? ⟨qg, 1, none⟩ = some b := hbb.cell 1 _ rfl
    have gc2 : w2.cell? ⟨qg, 2, none⟩ = some c := hbb.cell 2 _ rfl
    clear hbb
    go_wp2_with fail
    clear gc0 gc1 gc2
    refine (heavy_any g _ w2 (HV.out.on W.out)).mono ?_
    rintro e w3 ⟨lg, rfl, hb⟩
    replace BQg := Lib.hid (BQg.out.keep (grown_of_below hb none))
    replace W := Lib.hid (W.out.trans (hb.mono W.out.size))
    clear hb
    go_wp2_with fail
    exact bodyPost_ret (v := .bool true) (by simp [results, Try.results12, go_sem]) rfl ⟨rfl, W.out⟩
  · have hr := (P.G.ok_iff g).1 hok
    have hop := hr.prio
    have hmp := hr.moves
    have hmany := hr.many
    have h0 := hr.pos
    obtain ⟨n, hn⟩ : ∃ n, g.owner.length = n := ⟨_, rfl⟩
    rw [hn] at hop hmp hmany h0
    obtain ⟨ba, oa, ka, bb, ob, kb, bc_, oc, kc, rfl, -, hcb, -⟩ := hv.open_ hn hop hmp h0
    have HPN := Lib.hid hop
    have HMN := Lib.hid hmp
    have HR := Lib.hid hr
    have HN := Lib.hid hn
    have hq0 : g.right.2 = 0 := by unfold P.G.ok at hok; exact beq_iff_eq.1 hok
    clear hok hr hop hmp hn hcb
    go_enter Try.func12, Try.ntmps12
    go_wp2_with fail
    have bx0 : Box (w.alloc (.cells #[.slice (some ⟨ba, oa, none⟩) n ka, .slice (some ⟨bb, ob, none⟩) n kb, .slice (some ⟨bc_, oc, none⟩) n kc] 33)) (w.heap.size) 33 #[.slice (some ⟨ba, oa, none⟩) n ka, .slice (some ⟨bb, ob, none⟩) n kb, .slice (some ⟨bc_, oc, none⟩) n kc] := Box.new w 33 #[.slice (some ⟨ba, oa, none⟩) n ka, .slice (some ⟨bb, ob, none⟩) n kb, .slice (some ⟨bc_, oc, none⟩) n kc]
    have hbq : Below w.heap.size w (w.alloc (.cells #[.slice (some ⟨ba, oa, none⟩) n ka, .slice (some ⟨bb, ob, none⟩) n kb, .slice (some ⟨bc_, oc, none⟩) n kc] 33)) := (Below.refl _ w).alloc (Nat.le_refl _) _
    have hle0 : w.heap.size ≤ w.heap.size := Nat.le_refl _
    generalize (w.alloc (.cells #[.slice (some ⟨ba, oa, none⟩) n ka, .slice (some ⟨bb, ob, none⟩) n kb, .slice (some ⟨bc_, oc, none⟩) n kc] 33)) = w0 at bx0 hbq  ⊢
    have BQg := Lib.hid bx0
    have W := Lib.hid hbq
    have LEg := Lib.hid hle0
    clear hbq hle0 bx0 
    obtain ⟨qg, hqg⟩ : ∃ qg, w.heap.size = qg := ⟨_, rfl⟩
    rw [hqg] at BQg ⊢
    have LEg : Hid (w.heap.size ≤ qg) := Lib.hid (by omega)
    clear hqg
    refine (shown_any w0).mono ?_
    rintro e w1 ⟨rfl, hb⟩
    replace BQg := Lib.hid (BQg.out.keep (grown_of_below hb none))
    replace W := Lib.hid (W.out.trans (hb.mono W.out.size))
    clear hb
    have hbb := BQg.out
    have gc0 : w1.cell? ⟨qg, 0, none⟩ = some (.slice (some ⟨ba, oa, none⟩) n ka) := hbb.cell 0 _ rfl
    have gc1 : w1.cell? ⟨qg, 1, none⟩ = some (.slice (some ⟨bb, ob, none⟩) n kb) := hbb.cell 1 _ rfl
    have gc2 : w1.cell? ⟨qg, 2, none⟩ = some (.slice (some ⟨bc_, oc, none⟩) n kc) := hbb.cell 2 _ rfl
    clear hbb
    go_wp2_with fail
    clear gc0 gc1 gc2
    refine (right_any g _ _ (HV.out.on W.out)).mono ?_
    rintro e w2 ⟨rfl, hb⟩
    replace BQg := Lib.hid (BQg.out.keep (grown_of_below hb none))
    replace W := Lib.hid (W.out.trans (hb.mono W.out.size))
    clear hb
    obtain ⟨z, hz⟩ : ∃ z, g.right.2 = z := ⟨_, rfl⟩
    rw [hz] at hq0 ⊢
    have fq : (((z : Nat) : Int) != 0) = false := by rw [bne_eq_false_iff_eq]; omega
    clear hz hq0
    have hbb := BQg.out
    have gc0 : w2.cell? ⟨qg, 0, none⟩ = some (.slice (some ⟨ba, oa, none⟩) n ka) := hbb.cell 0 _ rfl
    have gc1 : w2.cell? ⟨qg, 1, none⟩ = some (.slice (some ⟨bb, ob, none⟩) n kb) := hbb.cell 1 _ rfl
    have gc2 : w2.cell? ⟨qg, 2, none⟩ = some (.slice (some ⟨bc_, oc, none⟩) n kc) := hbb.cell 2 _ rfl
    clear hbb
    go_wp2_with fail
    clear gc0 gc1 gc2
    refine (heavy_any g _ w2 (HV.out.on W.out)).mono ?_
    rintro e w3 ⟨lg, rfl, hb⟩
    replace BQg := Lib.hid (BQg.out.keep (grown_of_below hb none))
    replace W := Lib.hid (W.out.trans (hb.mono W.out.size))
    clear hb
    cases lg
    · simp only []
      have HLW : Hid (w.heap.size ≤ w3.heap.size) := Lib.hid W.out.size
      have hbb := BQg.out
      have gc0 : w3.cell? ⟨qg, 0, none⟩ = some (.slice (some ⟨ba, oa, none⟩) n ka) := hbb.cell 0 _ rfl
      have gc1 : w3.cell? ⟨qg, 1, none⟩ = some (.slice (some ⟨bb, ob, none⟩) n kb) := hbb.cell 1 _ rfl
      have gc2 : w3.cell? ⟨qg, 2, none⟩ = some (.slice (some ⟨bc_, oc, none⟩) n kc) := hbb.cell 2 _ rfl
      clear hbb
      go_wp2_with fail
      clear gc0 gc1 gc2
      refine (copy_any g _ _ (HV.out.on W.out)).mono ?_
      rintro e w5 ⟨oav, obv, ocv, oL, rfl, ho, hb⟩
      obtain ⟨pa, oka, rfl, -⟩ := own_form ho.owner (by rw [HN.out]; exact h0)
      obtain ⟨pb, okb, rfl, -⟩ := own_form ho.prio (by rw [HPN.out]; exact h0)
      obtain ⟨oc_, okc, rfl, -⟩ := own_at ho.head
      rw [HN.out, HPN.out, HMN.out] at ho ⊢
      replace BQg := Lib.hid (BQg.out.keep (grown_of_below hb none))
      replace W := Lib.hid (W.out.trans (hb.mono W.out.size))
      have OG := Lib.hid ho
      clear hb ho
      go_upto_region 7 with (fail)
      have hgq := World.grownBy_alloc w5 (.cells #[.slice (some ⟨pa, 0, none⟩) n oka, .slice (some ⟨pb, 0, none⟩) n okb, .slice oc_ n okc] 33) none
      replace OG := Lib.hid (OG.out.grown hgq)
      clear hgq
      have bq : Box (w5.alloc (.cells #[.slice (some ⟨pa, 0, none⟩) n oka, .slice (some ⟨pb, 0, none⟩) n okb, .slice oc_ n okc] 33)) w5.heap.size 33 #[.slice (some ⟨pa, 0, none⟩) n oka, .slice (some ⟨pb, 0, none⟩) n okb, .slice oc_ n okc] := Box.new _ _ _
      have hgq := World.grownBy_alloc w5 (.cells #[.slice (some ⟨pa, 0, none⟩) n oka, .slice (some ⟨pb, 0, none⟩) n okb, .slice oc_ n okc] 33) none
      replace BQg := Lib.hid (BQg.out.keep hgq)
      replace W := Lib.hid (W.out.trans ((below_of_grown hgq).mono W.out.size))
      generalize (w5.alloc (.cells #[.slice (some ⟨pa, 0, none⟩) n oka, .slice (some ⟨pb, 0, none⟩) n okb, .slice oc_ n okc] 33)) = w6 at OG bq BQg W ⊢
      generalize w5.heap.size = qh at bq ⊢
      have BQh := Lib.hid bq
      clear bq hgq
      go_wp2_with fail
      go_loopw [8] (fun kv wr => ∃ k : Nat, k ≤ n ∧ kv = .int .i64 (k : Int) ∧ (∀ i, i < k → g.prio.getD i 0 ≤ 5) ∧ OwnG wr w3.heap.size (.slice (some ⟨pa, 0, none⟩) n oka) (.slice (some ⟨pb, 0, none⟩) n okb) (.slice oc_ n okc) oL ⟨g.owner, P.raise k g.prio, g.moves⟩ ∧ Box wr qh 33 #[.slice (some ⟨pa, 0, none⟩) n oka, .slice (some ⟨pb, 0, none⟩) n okb, .slice oc_ n okc] ∧ Box wr qg 33 #[.slice (some ⟨ba, oa, none⟩) n ka, .slice (some ⟨bb, ob, none⟩) n kb, .slice (some ⟨bc_, oc, none⟩) n kc] ∧ Below w.heap.size w wr) (fun kv _ => n - (intOf kv).toNat)
      case atStart => exact ⟨0, Nat.zero_le _, rfl, fun i h => absurd h (Nat.not_lt_zero i), OG.out, BQh.out, BQg.out, W.out⟩
      case round =>
        obtain ⟨k, hk, rfl, h5, ho, bh, bg, hb⟩ := hrel
        have H5 := Lib.hid h5
        replace OG := Lib.hid ho
        replace BQh := Lib.hid bh
        replace BQg := Lib.hid bg
        replace W := Lib.hid hb
        clear h5 ho bh bg hb
        have hk0 : (0 : Int) ≤ (k : Int) := Int.natCast_nonneg _
        by_cases hlt : k < n
        · have fk : decide ((k : Int) < (n : Int)) = true := decide_eq_true (by omega)
          have hki : (k : Int) < (n : Int) := by omega
          obtain ⟨y, hy⟩ : ∃ y, g.prio.getD k 0 = y := ⟨_, rfl⟩
          have hat := HR.out.at k (by rw [HN.out]; exact hlt)
          have hy0 : 0 ≤ y := by rw [← hy]; exact hat.2.1
          have hy7 : y ≤ 7 := by rw [← hy]; exact hat.2.2.1
          have HY := Lib.hid hy
          clear hat hy
          obtain ⟨cy, fy⟩ : wr.cell? ⟨pb, k, none⟩ = some (.int .i64 y) ∧ wr.frozen? ⟨pb, k, none⟩ = false := by
            obtain ⟨pb', kb', eb', -, -, cb', fb'⟩ := own_form OG.out.prio (by show 0 < (P.raise _ _).length; rw [P.raise_len, HPN.out]; exact h0)
            have : pb = pb' := by injection eb' with h1; injection h1 with h1; injection h1
            subst this
            refine ⟨cb' k _ ?_, fb' k⟩
            rw [List.getElem?_map]
            show (P.raise _ _)[k]?.map _ = _
            rw [P.raise_at _ _ _ (Nat.le_refl k), ← HY.out, List.getD_eq_getElem?_getD, List.getElem?_eq_getElem (by rw [HPN.out]; exact hlt)]
            rfl
          have hplo : w.heap.size ≤ pb := Nat.le_trans HLW.out (own_lt OG.out.prio pb rfl).1
          have nh : qh ≠ pb := fun e => own_box OG.out.prio BQh.out (by decide) (by rw [e]; rfl)
          have ng : qg ≠ pb := fun e => own_box OG.out.prio BQg.out (by decide) (by rw [e]; rfl)
          have og4 : OwnG (wr.setCell ⟨pb, k, none⟩ (.int .i64 (y + 2))).drew w3.heap.size (.slice (some ⟨pa, 0, none⟩) n oka) (.slice (some ⟨pb, 0, none⟩) n okb) (.slice oc_ n okc) oL ⟨g.owner, P.raise (k + 1) g.prio, g.moves⟩ := by
            have h5 := OG.out.setPrio h0 k (y + 2)
            rw [← HY.out] at h5 ⊢
            rw [← P.raise_set k g.prio (by rw [HPN.out]; exact hlt)]
            exact h5.grown (Rg.grown_drew (Rg.grown_refl _ none))
          have bh4 : Box (wr.setCell ⟨pb, k, none⟩ (.int .i64 (y + 2))).drew qh 33 #[.slice (some ⟨pa, 0, none⟩) n oka, .slice (some ⟨pb, 0, none⟩) n okb, .slice oc_ n okc] := BQh.out.far nh _
          have bg4 : Box (wr.setCell ⟨pb, k, none⟩ (.int .i64 (y + 2))).drew qg 33 #[.slice (some ⟨ba, oa, none⟩) n ka, .slice (some ⟨bb, ob, none⟩) n kb, .slice (some ⟨bc_, oc, none⟩) n kc] := BQg.out.far ng _
          have w4' : Below w.heap.size w (wr.setCell ⟨pb, k, none⟩ (.int .i64 (y + 2))).drew := (W.out.setCell (p := ⟨pb, k, none⟩) hplo _).drew
          have cy4 : (wr.setCell ⟨pb, k, none⟩ (.int .i64 (y + 2))).drew.cell? ⟨pb, k, none⟩ = some (.int .i64 (y + 2)) := by
            obtain ⟨pb', kb', eb', -, -, cb', fb'⟩ := own_form og4.prio (by show 0 < (P.raise _ _).length; rw [P.raise_len, HPN.out]; exact h0)
            have : pb = pb' := by injection eb' with h1; injection h1 with h1; injection h1
            subst this
            refine cb' k _ ?_
            rw [List.getElem?_map]
            show (P.raise _ _)[k]?.map _ = _
            rw [← P.raise_set k g.prio (by rw [HPN.out]; exact hlt), List.getElem?_set_self (by rw [P.raise_len, HPN.out]; exact hlt), HY.out]
            rfl
          have O4 := Lib.hid og4
          have BH4 := Lib.hid bh4
          have BG4 := Lib.hid bg4
          have WW4 := Lib.hid w4'
          have CY4 := Lib.hid cy4
          have hbh := BQh.out
          clear og4 bh4 bg4 w4' cy4
          have hc0 : wr.cell? ⟨qh, 0, none⟩ = some (.slice (some ⟨pa, 0, none⟩) n oka) := hbh.cell 0 _ rfl
          have hc1 : wr.cell? ⟨qh, 1, none⟩ = some (.slice (some ⟨pb, 0, none⟩) n okb) := hbh.cell 1 _ rfl
          have hc2 : wr.cell? ⟨qh, 2, none⟩ = some (.slice oc_ n okc) := hbh.cell 2 _ rfl
          clear hbh nh ng hplo
          go_wp2_with fail
          go_still_tail 10, (by kernel_rfl)
          go_upto_region 11 with (fail)
          clear hc0 hc1 hc2 cy fy
          generalize (wr.setCell ⟨pb, k, none⟩ (.int .i64 (y + 2))).drew = w4 at O4 BH4 BG4 WW4 CY4 ⊢
          have cy := CY4.out
          have hbh := BH4.out
          have hc0 : w4.cell? ⟨qh, 0, none⟩ = some (.slice (some ⟨pa, 0, none⟩) n oka) := hbh.cell 0 _ rfl
          have hc1 : w4.cell? ⟨qh, 1, none⟩ = some (.slice (some ⟨pb, 0, none⟩) n okb) := hbh.cell 1 _ rfl
          have hc2 : w4.cell? ⟨qh, 2, none⟩ = some (.slice oc_ n okc) := hbh.cell 2 _ rfl
          clear hbh CY4
          by_cases h7 : 7 < y + 2
          · have f7 : decide (7 < y + 2) = true := decide_eq_true h7
            have W := WW4
            go_wp2_with fail
            exact bodyPost_ret (v := .bool true) (by simp [results, Try.results12, go_sem]) rfl ⟨rfl, W.out⟩
          · have f7 : decide (7 < y + 2) = false := decide_eq_false h7
            have H52 := Lib.hid (show ∀ i, i < k + 1 → g.prio.getD i 0 ≤ 5 from fun i hi => by
              by_cases e : i = k
              · rw [e, HY.out]; omega
              · exact H5.out i (by omega))
            go_wp2_with fail
            clear hc0 hc1 hc2 cy
            go_roundw
            case rel => exact ⟨k + 1, by omega, by first | rfl | go_num, H52.out, O4.out, BH4.out, BG4.out, WW4.out⟩
            case measure => simp [intOf]; omega
        · have fk : decide ((k : Int) < (n : Int)) = false := decide_eq_false (by omega)
          have hkn : n = k := by omega
          replace H5 := Lib.hid (show ∀ i, i < g.owner.length → g.prio.getD i 0 ≤ 5 from fun i hi => H5.out i (by rw [HN.out] at hi; omega))
          have hgh : OwnG wr w3.heap.size (.slice (some ⟨pa, 0, none⟩) n oka) (.slice (some ⟨pb, 0, none⟩) n okb) (.slice oc_ n okc) oL g.higher := by
            have h := OG.out
            rw [← hkn, show P.raise n g.prio = g.prio.map (· + 2) from by rw [← HPN.out, P.raise_all]] at h
            exact h
          have GH := Lib.hid (hgh.game (fits_high HFI.out))
          clear hgh hkn
          have hbh := BQh.out
          have hc0 : wr.cell? ⟨qh, 0, none⟩ = some (.slice (some ⟨pa, 0, none⟩) n oka) := hbh.cell 0 _ rfl
          have hc1 : wr.cell? ⟨qh, 1, none⟩ = some (.slice (some ⟨pb, 0, none⟩) n okb) := hbh.cell 1 _ rfl
          have hc2 : wr.cell? ⟨qh, 2, none⟩ = some (.slice oc_ n okc) := hbh.cell 2 _ rfl
          clear hbh
          go_upto_region 13 with (fail)
          clear hc0 hc1 hc2
          refine Rt.wp_region_tail 1 (fun idx => match idx with | 0 => (fun v _ _ => v = .agg #[.slice (some ⟨ba, oa, none⟩) n ka, .slice (some ⟨bb, ob, none⟩) n kb, .slice (some ⟨bc_, oc, none⟩) n kc]) | 1 => (fun v _ _ => v = .agg #[.slice (some ⟨ba, oa, none⟩) n ka, .slice (some ⟨bb, ob, none⟩) n kb, .slice (some ⟨bc_, oc, none⟩) n kc]) | 2 => (fun v _ w' => ∃ pt, v = .slice (some ⟨pt, 0, none⟩) n n ∧ P.IsSol g (solOf g) ∧ Box w' pt 26 (flatT (solOf g))) | 3 => (fun v _ w' => EvV g (solOf g) wr.heap.size v w') | 4 => (fun v ds w' => v = ds.getD 0 undef ∧ EvV g (solOf g) wr.heap.size v w') | 5 => (fun v ds _ => v = tupAt_ (ds.getD 0 undef) 0) | 6 => (fun v ds _ => v = tupAt_ (ds.getD 0 undef) 1) | 7 => (fun v ds _ => v = ds.getD 0 undef) | _ => fun _ _ _ => True) (fun _ _ _ _ => True) (Rk.allK) 99 (by kernel_rfl) (by rfl) (by kernel_rfl) (by rfl) ?_ ?_ ?_ ?_
          · refine ⟨?_, ?_, ?_, ?_, ?_, ?_, ?_, ?_, trivial⟩
            · intro A w' K vals h hn hT hgk hK0
              have r0 : A.tmps[1]?.getD undef = .pointer (some ⟨qg, 0, none⟩) := Rg.slot h.1
              have bs := BQg.out.keep (Rk.grown_of hgk)
              have cc0 : w'.cell? ⟨qg, 0, none⟩ = some (.slice (some ⟨ba, oa, none⟩) n ka) := bs.cell 0 _ rfl
              have cc1 : w'.cell? ⟨qg, 1, none⟩ = some (.slice (some ⟨bb, ob, none⟩) n kb) := bs.cell 1 _ rfl
              have cc2 : w'.cell? ⟨qg, 2, none⟩ = some (.slice (some ⟨bc_, oc, none⟩) n kc) := bs.cell 2 _ rfl
              clear h hn hT hgk bs
              simp [Oper.wp, execOp, go_sem, r0, cc0, cc1, cc2]
              exact hK0 _ _ (Rk.Keeps.refl _ _) rfl trivial
            · intro A w' K vals h hn hT hgk hK0
              have r0 : A.tmps[1]?.getD undef = .pointer (some ⟨qg, 0, none⟩) := Rg.slot h.1
              have bs := BQg.out.keep (Rk.grown_of hgk)
              have cc0 : w'.cell? ⟨qg, 0, none⟩ = some (.slice (some ⟨ba, oa, none⟩) n ka) := bs.cell 0 _ rfl
              have cc1 : w'.cell? ⟨qg, 1, none⟩ = some (.slice (some ⟨bb, ob, none⟩) n kb) := bs.cell 1 _ rfl
              have cc2 : w'.cell? ⟨qg, 2, none⟩ = some (.slice (some ⟨bc_, oc, none⟩) n kc) := bs.cell 2 _ rfl
              clear h hn hT hgk bs
              simp [Oper.wp, execOp, go_sem, r0, cc0, cc1, cc2]
              exact hK0 _ _ (Rk.Keeps.refl _ _) rfl trivial
            · intro A w' K vals h hn hT hgk hK0
              have r0 : A.tmps[59]?.getD undef = vals 1 := Rg.slot h.2.1
              have s0 : vals 1 = .agg #[.slice (some ⟨ba, oa, none⟩) n ka, .slice (some ⟨bb, ob, none⟩) n kb, .slice (some ⟨bc_, oc, none⟩) n kc] := hn.1
              have hb := below_of_grown (Rk.grown_of hgk)
              clear h hn hT hgk
              simp [Oper.wp, go_sem, r0, s0]
              refine (solve_any g HR.out _ w' (HV.out.on (W.out.trans (hb.mono W.out.size)))).mono ?_
              rintro e w'' ⟨u, rfl, ⟨p, s, rfl, hs, hlo, hbx⟩, hb⟩
              obtain rfl := is_solOf hs
              exact hK0 _ _ (Rk.keep_of (grown_of_below hb _)) ⟨p, by rw [HN.out], hs, hbx⟩ trivial
            · intro A w' K vals h hn hT hgk hK0
              have r0 : A.tmps[58]?.getD undef = vals 0 := Rg.slot h.2.1
              have r1 : A.tmps[60]?.getD undef = vals 2 := Rg.slot h.2.2.1
              have s0 : vals 0 = .agg #[.slice (some ⟨ba, oa, none⟩) n ka, .slice (some ⟨bb, ob, none⟩) n kb, .slice (some ⟨bc_, oc, none⟩) n kc] := hn.1
              obtain ⟨pt, s1, hsl, hbx⟩ : ∃ pt, vals 2 = .slice (some ⟨pt, 0, none⟩) n n ∧ P.IsSol g (solOf g) ∧ Box w' pt 26 (flatT (solOf g)) := hn.2.1
              have hb := below_of_grown (Rk.grown_of hgk)
              have hsz := hgk.size
              have hln : (solOf g).length = n := by rw [hsl.1.1]; exact HN.out
              have hot := hbx.tups (by rw [hln]; omega) n
              rw [hln] at hot
              clear h hn hT hgk hbx
              simp [Oper.wp, go_sem, r0, r1, s0, s1]
              refine (even_any g (solOf g) (sol_low hsl.1) _ _ w' (HV.out.on (W.out.trans (hb.mono W.out.size))) hot).mono ?_
              rintro e w'' ⟨v1, v2, rfl, h1, h2, hb⟩
              exact hK0 _ _ (Rk.keep_of (grown_of_below hb _)) ⟨v1, v2, rfl, own_more h1 hsz, own_more h2 hsz⟩ trivial
            · intro A w' K vals h hn hT hgk hK0
              have r0 : A.tmps[61]?.getD undef = vals 3 := Rg.slot h.1
              have n3 : EvV g (solOf g) wr.heap.size (vals 3) w' := hn.1
              clear h hn hT hgk
              simp [Oper.wp, execOp, go_sem, r0]
              exact hK0 _ _ (Rk.Keeps.refl _ _) ⟨rfl, n3⟩ trivial
            · intro A w' K vals h hn hT hgk hK0
              have r0 : A.tmps[57]?.getD undef = vals 4 := Rg.slot h.1
              obtain ⟨v1, v2, hv, -⟩ : EvV g (solOf g) wr.heap.size (vals 4) w' := hn.1.2
              clear h hn hT hgk
              simp [Oper.wp, execOp, go_sem, r0, hv]
              refine hK0 _ _ (Rk.Keeps.refl _ _) ?_ trivial
              show _ = tupAt_ (vals 4) 0
              rw [hv]
              rfl
            · intro A w' K vals h hn hT hgk hK0
              have r0 : A.tmps[57]?.getD undef = vals 4 := Rg.slot h.1
              obtain ⟨v1, v2, hv, -⟩ : EvV g (solOf g) wr.heap.size (vals 4) w' := hn.1.2
              clear h hn hT hgk
              simp [Oper.wp, execOp, go_sem, r0, hv]
              refine hK0 _ _ (Rk.Keeps.refl _ _) ?_ trivial
              show _ = tupAt_ (vals 4) 1
              rw [hv]
              rfl
            · intro A w' K vals h hn hT hgk hK0
              have r0 : A.tmps[62]?.getD undef = vals 5 := Rg.slot h.1
              clear h hn hT hgk
              simp [Oper.wp, execOp, go_sem, r0]
              exact hK0 _ _ (Rk.Keeps.refl _ _) rfl trivial
          · refine ⟨?_, ?_, ?_, ?_, ?_, ?_, ?_, ?_, trivial⟩
            · exact fun _ _ _ _ _ _ h => h
            · exact fun _ _ _ _ _ _ h => h
            · exact fun _ _ _ _ _ h ⟨pt, h1, h2, h3⟩ => ⟨pt, h1, h2, h3.keep (Rk.grown_of h)⟩
            · exact fun _ _ _ _ _ h hu => hu.grown (Rk.grown_of h)
            · exact fun _ _ _ _ _ h hu => ⟨hu.1, hu.2.grown (Rk.grown_of h)⟩
            · exact fun _ _ _ _ _ _ h => h
            · exact fun _ _ _ _ _ _ h => h
            · exact fun _ _ _ _ _ _ h => h
          · exact fun _ _ _ _ _ _ h => h
          · intro vals w8 G hgk hS hG
            obtain ⟨-, -, hslp, -⟩ : ∃ pt, vals 2 = .slice (some ⟨pt, 0, none⟩) n n ∧ P.IsSol g (solOf g) ∧ Box w8 pt 26 (flatT (solOf g)) := hS.2.2.1
            obtain ⟨v1, v2, s4, ho1, ho2⟩ : EvV g (solOf g) wr.heap.size (vals 4) w8 := hS.2.2.2.2.1.2
            have s5 : vals 5 = tupAt_ (vals 4) 0 := hS.2.2.2.2.2.1
            have s6 : vals 6 = tupAt_ (vals 4) 1 := hS.2.2.2.2.2.2.1
            have s7 : vals 7 = vals 5 := hS.2.2.2.2.2.2.2.1
            clear hS
            rw [s4] at s5 s6
            replace s5 : vals 5 = v1 := s5
            replace s6 : vals 6 = v2 := s6
            rw [s5] at s7
            obtain ⟨hl1, hl2⟩ := ev_sol hslp (HR.out) HN.out
            obtain ⟨x1p, k1p, rfl, -⟩ := own_at ho1
            obtain ⟨x2p, k2p, rfl, -⟩ := own_at ho2
            have hi1 := ho1.ints (by rw [hl1]; exact Nat.le_trans (evF_len _ _) (by omega))
            rw [hl1] at hi1 s5 s7
            rw [hl2] at s6
            have Ip := Lib.hid hi1
            have HSLp := Lib.hid hslp
            have hb := below_of_grown (Rk.grown_of hgk)
            replace BQg := Lib.hid (BQg.out.keep (grown_of_below hb none))
            replace BQh := Lib.hid (BQh.out.keep (grown_of_below hb none))
            replace GH := Lib.hid (GH.out.on hb)
            replace W := Lib.hid (W.out.trans (hb.mono W.out.size))
            clear hb hgk ho1 ho2 hi1 hl1 hl2 hslp
            refine hG ?_
            clear hG
            simp only [List.take, List.drop, List.length, Nat.reduceSub, Nat.reduceAdd, Rg.putAll, Act.put, List.setIfInBounds_toArray, List.set_cons_succ, List.set_cons_zero, s6, s7]
            clear s4 s5 s6 s7
            go_upto_region 14 with (fail)
            refine Rt.wp_region_tail 1 (fun idx => match idx with | 0 => (fun v _ _ => v = .agg #[.slice (some ⟨pa, 0, none⟩) n oka, .slice (some ⟨pb, 0, none⟩) n okb, .slice oc_ n okc]) | 1 => (fun v _ _ => v = .agg #[.slice (some ⟨pa, 0, none⟩) n oka, .slice (some ⟨pb, 0, none⟩) n okb, .slice oc_ n okc]) | 2 => (fun v _ w' => ∃ pt, v = .slice (some ⟨pt, 0, none⟩) n n ∧ P.IsSol g.higher (solOf g.higher) ∧ Box w' pt 26 (flatT (solOf g.higher))) | 3 => (fun v _ w' => EvV g.higher (solOf g.higher) w8.heap.size v w') | 4 => (fun v ds w' => v = ds.getD 0 undef ∧ EvV g.higher (solOf g.higher) w8.heap.size v w') | 5 => (fun v ds _ => v = tupAt_ (ds.getD 0 undef) 0) | 6 => (fun v ds _ => v = tupAt_ (ds.getD 0 undef) 1) | 7 => (fun v ds _ => v = ds.getD 0 undef) | _ => fun _ _ _ => True) (fun _ _ _ _ => True) (Rk.allK) 99 (by kernel_rfl) (by rfl) (by kernel_rfl) (by rfl) ?_ ?_ ?_ ?_
            · refine ⟨?_, ?_, ?_, ?_, ?_, ?_, ?_, ?_, trivial⟩
              · intro A w' K vals h hn hT hgk hK0
                have r0 : A.tmps[7]?.getD undef = .pointer (some ⟨qh, 0, none⟩) := Rg.slot h.1
                have bs := BQh.out.keep (Rk.grown_of hgk)
                have cc0 : w'.cell? ⟨qh, 0, none⟩ = some (.slice (some ⟨pa, 0, none⟩) n oka) := bs.cell 0 _ rfl
                have cc1 : w'.cell? ⟨qh, 1, none⟩ = some (.slice (some ⟨pb, 0, none⟩) n okb) := bs.cell 1 _ rfl
                have cc2 : w'.cell? ⟨qh, 2, none⟩ = some (.slice oc_ n okc) := bs.cell 2 _ rfl
                clear h hn hT hgk bs
                simp [Oper.wp, execOp, go_sem, r0, cc0, cc1, cc2]
                exact hK0 _ _ (Rk.Keeps.refl _ _) rfl trivial
              · intro A w' K vals h hn hT hgk hK0
                have r0 : A.tmps[7]?.getD undef = .pointer (some ⟨qh, 0, none⟩) := Rg.slot h.1
                have bs := BQh.out.keep (Rk.grown_of hgk)
                have cc0 : w'.cell? ⟨qh, 0, none⟩ = some (.slice (some ⟨pa, 0, none⟩) n oka) := bs.cell 0 _ rfl
                have cc1 : w'.cell? ⟨qh, 1, none⟩ = some (.slice (some ⟨pb, 0, none⟩) n okb) := bs.cell 1 _ rfl
                have cc2 : w'.cell? ⟨qh, 2, none⟩ = some (.slice oc_ n okc) := bs.cell 2 _ rfl
                clear h hn hT hgk bs
                simp [Oper.wp, execOp, go_sem, r0, cc0, cc1, cc2]
                exact hK0 _ _ (Rk.Keeps.refl _ _) rfl trivial
              · intro A w' K vals h hn hT hgk hK0
                have r0 : A.tmps[66]?.getD undef = vals 1 := Rg.slot h.2.1
                have s0 : vals 1 = .agg #[.slice (some ⟨pa, 0, none⟩) n oka, .slice (some ⟨pb, 0, none⟩) n okb, .slice oc_ n okc] := hn.1
                have hb := below_of_grown (Rk.grown_of hgk)
                clear h hn hT hgk
                simp [Oper.wp, go_sem, r0, s0]
                refine (solve_any g.higher (P.higher_right HR.out H5.out) _ w' (GH.out.on hb)).mono ?_
                rintro e w'' ⟨u, rfl, ⟨p, s, rfl, hs, hlo, hbx⟩, hb⟩
                obtain rfl := is_solOf hs
                exact hK0 _ _ (Rk.keep_of (grown_of_below hb _)) ⟨p, by rw [(show g.higher.owner.length = n from HN.out)], hs, hbx⟩ trivial
              · intro A w' K vals h hn hT hgk hK0
                have r0 : A.tmps[65]?.getD undef = vals 0 := Rg.slot h.2.1
                have r1 : A.tmps[67]?.getD undef = vals 2 := Rg.slot h.2.2.1
                have s0 : vals 0 = .agg #[.slice (some ⟨pa, 0, none⟩) n oka, .slice (some ⟨pb, 0, none⟩) n okb, .slice oc_ n okc] := hn.1
                obtain ⟨pt, s1, hsl, hbx⟩ : ∃ pt, vals 2 = .slice (some ⟨pt, 0, none⟩) n n ∧ P.IsSol g.higher (solOf g.higher) ∧ Box w' pt 26 (flatT (solOf g.higher)) := hn.2.1
                have hb := below_of_grown (Rk.grown_of hgk)
                have hsz := hgk.size
                have hln : (solOf g.higher).length = n := by rw [hsl.1.1]; exact (show g.higher.owner.length = n from HN.out)
                have hot := hbx.tups (by rw [hln]; omega) n
                rw [hln] at hot
                clear h hn hT hgk hbx
                simp [Oper.wp, go_sem, r0, r1, s0, s1]
                refine (even_any g.higher (solOf g.higher) (sol_low hsl.1) _ _ w' (GH.out.on hb) hot).mono ?_
                rintro e w'' ⟨v1, v2, rfl, h1, h2, hb⟩
                exact hK0 _ _ (Rk.keep_of (grown_of_below hb _)) ⟨v1, v2, rfl, own_more h1 hsz, own_more h2 hsz⟩ trivial
              · intro A w' K vals h hn hT hgk hK0
                have r0 : A.tmps[68]?.getD undef = vals 3 := Rg.slot h.1
                have n3 : EvV g.higher (solOf g.higher) w8.heap.size (vals 3) w' := hn.1
                clear h hn hT hgk
                simp [Oper.wp, execOp, go_sem, r0]
                exact hK0 _ _ (Rk.Keeps.refl _ _) ⟨rfl, n3⟩ trivial
              · intro A w' K vals h hn hT hgk hK0
                have r0 : A.tmps[64]?.getD undef = vals 4 := Rg.slot h.1
                obtain ⟨v1, v2, hv, -⟩ : EvV g.higher (solOf g.higher) w8.heap.size (vals 4) w' := hn.1.2
                clear h hn hT hgk
                simp [Oper.wp, execOp, go_sem, r0, hv]
                refine hK0 _ _ (Rk.Keeps.refl _ _) ?_ trivial
                show _ = tupAt_ (vals 4) 0
                rw [hv]
                rfl
              · intro A w' K vals h hn hT hgk hK0
                have r0 : A.tmps[64]?.getD undef = vals 4 := Rg.slot h.1
                obtain ⟨v1, v2, hv, -⟩ : EvV g.higher (solOf g.higher) w8.heap.size (vals 4) w' := hn.1.2
                clear h hn hT hgk
                simp [Oper.wp, execOp, go_sem, r0, hv]
                refine hK0 _ _ (Rk.Keeps.refl _ _) ?_ trivial
                show _ = tupAt_ (vals 4) 1
                rw [hv]
                rfl
              · intro A w' K vals h hn hT hgk hK0
                have r0 : A.tmps[69]?.getD undef = vals 5 := Rg.slot h.1
                clear h hn hT hgk
                simp [Oper.wp, execOp, go_sem, r0]
                exact hK0 _ _ (Rk.Keeps.refl _ _) rfl trivial
            · refine ⟨?_, ?_, ?_, ?_, ?_, ?_, ?_, ?_, trivial⟩
              · exact fun _ _ _ _ _ _ h => h
              · exact fun _ _ _ _ _ _ h => h
              · exact fun _ _ _ _ _ h ⟨pt, h1, h2, h3⟩ => ⟨pt, h1, h2, h3.keep (Rk.grown_of h)⟩
              · exact fun _ _ _ _ _ h hu => hu.grown (Rk.grown_of h)
              · exact fun _ _ _ _ _ h hu => ⟨hu.1, hu.2.grown (Rk.grown_of h)⟩
              · exact fun _ _ _ _ _ _ h => h
              · exact fun _ _ _ _ _ _ h => h
              · exact fun _ _ _ _ _ _ h => h
            · exact fun _ _ _ _ _ _ h => h
            · intro vals w9 G hgk hS hG
              obtain ⟨-, -, hslq, -⟩ : ∃ pt, vals 2 = .slice (some ⟨pt, 0, none⟩) n n ∧ P.IsSol g.higher (solOf g.higher) ∧ Box w9 pt 26 (flatT (solOf g.higher)) := hS.2.2.1
              obtain ⟨v1, v2, s4, ho1, ho2⟩ : EvV g.higher (solOf g.higher) w8.heap.size (vals 4) w9 := hS.2.2.2.2.1.2
              have s5 : vals 5 = tupAt_ (vals 4) 0 := hS.2.2.2.2.2.1
              have s6 : vals 6 = tupAt_ (vals 4) 1 := hS.2.2.2.2.2.2.1
              have s7 : vals 7 = vals 5 := hS.2.2.2.2.2.2.2.1
              clear hS
              rw [s4] at s5 s6
              replace s5 : vals 5 = v1 := s5
              replace s6 : vals 6 = v2 := s6
              rw [s5] at s7
              obtain ⟨hl1, hl2⟩ := ev_sol hslq ((P.higher_right HR.out H5.out)) (show g.higher.owner.length = n from HN.out)
              obtain ⟨x1q, k1q, rfl, -⟩ := own_at ho1
              obtain ⟨x2q, k2q, rfl, -⟩ := own_at ho2
              have hi1 := ho1.ints (by rw [hl1]; exact Nat.le_trans (evF_len _ _) (by omega))
              rw [hl1] at hi1 s5 s7
              rw [hl2] at s6
              have Iq := Lib.hid hi1
              have HSLq := Lib.hid hslq
              have hb := below_of_grown (Rk.grown_of hgk)
              replace W := Lib.hid (W.out.trans (hb.mono W.out.size))
              replace Ip := Lib.hid (Ip.out.on hb)
              clear hb hgk ho1 ho2 hi1 hl1 hl2 hslq
              refine hG ?_
              clear hG
              simp only [List.take, List.drop, List.length, Nat.reduceSub, Nat.reduceAdd, Rg.putAll, Act.put, List.setIfInBounds_toArray, List.set_cons_succ, List.set_cons_zero, s6, s7]
              clear s4 s5 s6 s7
              go_wp2_with fail
              refine (sameints_any _ _ _ _ w9 Ip.out Iq.out).mono ?_
              rintro e w10 ⟨rfl, hb⟩
              rw [decide_eq_true (tops_high HR.out H5.out HSLp.out HSLq.out)]
              replace W := Lib.hid (W.out.trans (hb.mono W.out.size))
              clear hb
              go_wp2_with fail
              exact bodyPost_ret (v := .bool true) (by simp [results, Try.results12, go_sem]) rfl ⟨rfl, W.out⟩
    · simp only []
      go_wp2_with fail
      exact bodyPost_ret (v := .bool true) (by simp [results, Try.results12, go_sem]) rfl ⟨rfl, W.out⟩
end W
end Go.Proofs.Yteeaojciobmcaaa
