/- DecompAlone: the walk for player 1. -/
import Derived.Test.YtpjmboonaciplaaDoorAloH
import Derived.Deep.Cut
import Derived.Lib.Hide
import Derived.Deep.QuietTactic
import Derived.BigQuiet
import Derived.StillTailTactics
namespace Go.Proofs.YtpjmboonaciplaaDoor
open Go.RowKit Go.Sort
namespace W

set_option maxRecDepth 100000 in
set_option maxHeartbeats 8000000 in
theorem alone_1 (g : P.G) (hr : g.Right) (h40 : g.owner.length ≤ 40) (v : Value) (w : World) (hv : GameV w v g) (hT : Tab w) : Calls Tryd.prog 9 #[v, .int .i64 1] w fun e w' => e = .returned (.bool true) ∧ Below w.heap.size w w' := by
  have hq0 : g.right.2 = 0 := by have hok := (P.G.ok_iff g).2 hr; unfold P.G.ok at hok; exact beq_iff_eq.1 hok
  have HV := Lib.hid hv
  have HFI := Lib.hid hv.fits
  have T := Lib.hid hT
  have HR := Lib.hid hr
  obtain ⟨n, hn⟩ : ∃ n, g.owner.length = n := ⟨_, rfl⟩
  have hop := hr.prio
  have hmp := hr.moves
  have hmany := hr.many
  have h0 := hr.pos
  rw [hn] at hop hmp hmany h0
  obtain ⟨ba, oa, ka, bb, ob, kb, bc_, oc, kc, rfl, hco, hcb, hcr⟩ := hv.open_ hn hop hmp h0
  have HCO := Lib.hid hco
  have HCB := Lib.hid hcb
  have HCR := Lib.hid hcr
  clear hco hcb hcr
  rw [hn] at h40
  have f40 : decide ((40 : Int) < (n : Int)) = false := decide_eq_false (by omega)
  have HN := Lib.hid hn
  have HPN := Lib.hid hop
  have HMN := Lib.hid hmp
  clear hr hn hop hmp hv hT 
  go_enter Tryd.func9, Tryd.ntmps9
  go_wp2_with fail
  have bx0 : Box (w.alloc (.cells #[.slice (some ⟨ba, oa, none⟩) n ka, .slice (some ⟨bb, ob, none⟩) n kb, .slice (some ⟨bc_, oc, none⟩) n kc] 25)) (w.heap.size) 25 #[.slice (some ⟨ba, oa, none⟩) n ka, .slice (some ⟨bb, ob, none⟩) n kb, .slice (some ⟨bc_, oc, none⟩) n kc] := Box.new w 25 #[.slice (some ⟨ba, oa, none⟩) n ka, .slice (some ⟨bb, ob, none⟩) n kb, .slice (some ⟨bc_, oc, none⟩) n kc]
  have hbq : Below w.heap.size w (w.alloc (.cells #[.slice (some ⟨ba, oa, none⟩) n ka, .slice (some ⟨bb, ob, none⟩) n kb, .slice (some ⟨bc_, oc, none⟩) n kc] 25)) := (Below.refl _ w).alloc (Nat.le_refl _) _
  have hle0 : w.heap.size ≤ w.heap.size := Nat.le_refl _
  generalize (w.alloc (.cells #[.slice (some ⟨ba, oa, none⟩) n ka, .slice (some ⟨bb, ob, none⟩) n kb, .slice (some ⟨bc_, oc, none⟩) n kc] 25)) = w0 at bx0 hbq  ⊢
  have BQg := Lib.hid bx0
  have W := Lib.hid hbq
  have LEg := Lib.hid hle0
  clear hbq hle0 bx0 
  obtain ⟨qg, hqg⟩ : ∃ qg, w.heap.size = qg := ⟨_, rfl⟩
  rw [hqg] at BQg ⊢
  have LEg : Hid (w.heap.size ≤ qg) := Lib.hid (by omega)
  clear hqg
  refine (shown_any w0 (T.out.on W.out)).mono ?_
  rintro e w1 ⟨rfl, hb⟩
  replace BQg := Lib.hid (BQg.out.keep (grown_of_below hb none))
  replace W := Lib.hid (W.out.trans (hb.mono W.out.size))
  clear hb
  have hbb := BQg.out
  have gc0 : w1.cell? ⟨qg, 0, none⟩ = some (.slice (some ⟨ba, oa, none⟩) n ka) := hbb.cell 0 _ rfl
  have gc1 : w1.cell? ⟨qg, 1, none⟩ = some (.slice (some ⟨bb, ob, none⟩) n kb) := hbb.cell 1 _ rfl
  have gc2 : w1.cell? ⟨qg, 2, none⟩ = some (.slice (some ⟨bc_, oc, none⟩) n kc) := hbb.cell 2 _ rfl
  clear hbb
  go_wp2_with fail
  clear gc0 gc1 gc2
  refine (right_any g _ _ (HV.out.on W.out)).mono ?_
  rintro e w2 ⟨rfl, hb⟩
  replace BQg := Lib.hid (BQg.out.keep (grown_of_below hb none))
  replace W := Lib.hid (W.out.trans (hb.mono W.out.size))
  clear hb
  obtain ⟨z, hz⟩ : ∃ z, g.right.2 = z := ⟨_, rfl⟩
  rw [hz] at hq0 ⊢
  have fq : (((z : Nat) : Int) != 0) = false := by rw [bne_eq_false_iff_eq]; omega
  clear hz hq0
  have hbb := BQg.out
  have gc0 : w2.cell? ⟨qg, 0, none⟩ = some (.slice (some ⟨ba, oa, none⟩) n ka) := hbb.cell 0 _ rfl
  have gc1 : w2.cell? ⟨qg, 1, none⟩ = some (.slice (some ⟨bb, ob, none⟩) n kb) := hbb.cell 1 _ rfl
  have gc2 : w2.cell? ⟨qg, 2, none⟩ = some (.slice (some ⟨bc_, oc, none⟩) n kc) := hbb.cell 2 _ rfl
  clear hbb
  go_wp2_with fail
  clear gc0 gc1 gc2
  have HLC := Lib.hid (show w.heap.size ≤ w2.heap.size from W.out.size)
  obtain ⟨wc, hwc⟩ : ∃ wc, wc = w2 := ⟨_, rfl⟩
  rw [← hwc] at HLC BQg W ⊢
  clear hwc
  refine (copy_any g _ _ (HV.out.on W.out)).mono ?_
  rintro e w5 ⟨oav, obv, ocv, hL, rfl, ho, hb⟩
  obtain ⟨hoa, hka, rfl, -⟩ := own_form ho.owner (by rw [HN.out]; exact h0)
  obtain ⟨hob, hkb, rfl, -⟩ := own_form ho.prio (by rw [HPN.out]; exact h0)
  obtain ⟨hoc, hkc, rfl, -⟩ := own_form ho.head (by rw [HMN.out]; exact h0)
  rw [HN.out, HPN.out, HMN.out] at ho ⊢
  simp only []
  replace BQg := Lib.hid (BQg.out.keep (grown_of_below hb none))
  replace W := Lib.hid (W.out.trans (hb.mono W.out.size))
  have Oh := Lib.hid ho
  clear hb ho
  go_upto_region 7 with (fail)
  have bq : Box (w5.alloc (.cells #[.slice (some ⟨hoa, 0, none⟩) n hka, .slice (some ⟨hob, 0, none⟩) n hkb, .slice (some ⟨hoc, 0, none⟩) n hkc] 25)) w5.heap.size 25 #[.slice (some ⟨hoa, 0, none⟩) n hka, .slice (some ⟨hob, 0, none⟩) n hkb, .slice (some ⟨hoc, 0, none⟩) n hkc] := Box.new _ _ _
  have hgq := World.grownBy_alloc w5 (.cells #[.slice (some ⟨hoa, 0, none⟩) n hka, .slice (some ⟨hob, 0, none⟩) n hkb, .slice (some ⟨hoc, 0, none⟩) n hkc] 25) none
  replace BQg := Lib.hid (BQg.out.keep hgq)
  replace W := Lib.hid (W.out.trans ((below_of_grown hgq).mono W.out.size))
  replace Oh := Lib.hid (Oh.out.grown hgq)
  generalize (w5.alloc (.cells #[.slice (some ⟨hoa, 0, none⟩) n hka, .slice (some ⟨hob, 0, none⟩) n hkb, .slice (some ⟨hoc, 0, none⟩) n hkc] 25)) = wd at bq BQg W Oh ⊢
  generalize w5.heap.size = qh at bq ⊢
  have BQh := Lib.hid bq
  clear bq hgq
  have hle : w.heap.size ≤ wd.heap.size := W.out.size
  go_upto_region 8 with (fail)
  have bq : Box (wd.alloc (.cells #[.int .u64 0, .int .u64 0, .int .u64 0, .int .u64 0] 45)) wd.heap.size 45 #[.int .u64 0, .int .u64 0, .int .u64 0, .int .u64 0] := Box.new _ _ _
  have hgq := World.grownBy_alloc wd (.cells #[.int .u64 0, .int .u64 0, .int .u64 0, .int .u64 0] 45) none
  have hlg : qg < wd.heap.size := BQg.out.lt
  have hlh : qh < wd.heap.size := BQh.out.lt
  replace BQg := Lib.hid (BQg.out.keep hgq)
  replace BQh := Lib.hid (BQh.out.keep hgq)
  replace Oh := Lib.hid (Oh.out.grown hgq)
  replace W := Lib.hid (W.out.trans ((below_of_grown hgq).mono W.out.size))
  go_wp2_with fail
  generalize (wd.alloc (.cells #[.int .u64 0, .int .u64 0, .int .u64 0, .int .u64 0] 45)) = wf at bq BQg BQh Oh W ⊢
  obtain ⟨qw, hqw⟩ : ∃ q, wd.heap.size = q := ⟨_, rfl⟩
  rw [hqw] at bq hlg hlh hle ⊢
  have HOg := Lib.hid (off2b (m := 0) (own_box Oh.out.owner BQg.out (by decide)) (show qg ≠ qw by omega) rfl)
  have HOh := Lib.hid (off2b (m := 0) (own_box Oh.out.owner BQh.out (by decide)) (show qh ≠ qw by omega) rfl)
  have HX := Lib.hid (show ∀ x ∈ [hoa, qw], w.heap.size ≤ x by
    intro x hx
    have h1 := HLC.out
    have h3 := (own_lt Oh.out.owner hoa rfl).1
    rcases List.mem_cons.1 hx with rfl | hx
    · omega
    · rw [List.mem_singleton.1 hx]; omega)
  have HF0 := Lib.hid (show FA wf wf wc.heap.size hoa qw n hka (.slice (some ⟨hob, 0, none⟩) n hkb) (.slice (some ⟨hoc, 0, none⟩) n hkc) hL g 1 0 0#256 from ⟨Rk.Keeps.refl _ _, by rw [P.G.given_zero]; exact Oh.out, by have e : ∀ k, P.wrd 0#256 k = 0 := P.wrd_zero; rw [e, e, e, e]; exact bq⟩)
  clear bq hgq hlg hlh hle hqw
  go_loopw [11] (fun iv wq => ∃ (k : Nat) (Q : BitVec 256), iv = .int .i64 (k : Int) ∧ k ≤ n ∧ FA wf wq wc.heap.size hoa qw n hka (.slice (some ⟨hob, 0, none⟩) n hkb) (.slice (some ⟨hoc, 0, none⟩) n hkc) hL g 1 k Q ∧ ∀ i, P.Bit Q i ↔ P.TopsTo g 1 k i) (fun iv _ => n - (intOf iv).toNat)
  case atStart => exact ⟨0, _, rfl, Nat.zero_le _, HF0.out, fun i => ⟨fun h => absurd h (P.bit_zero i), fun h => absurd h.1 (Nat.not_lt_zero i)⟩⟩
  case round =>
    obtain ⟨k, Q, rfl, hkn, hfr, hto⟩ := hrel
    have HF := Lib.hid hfr
    have HTO := Lib.hid hto
    clear hfr hto
    have BRg := Lib.hid (kx_box HF.out.keep BQg.out BQg.out.lt HOg.out)
    have BRh := Lib.hid (kx_box HF.out.keep BQh.out BQh.out.lt HOh.out)
    by_cases hlt : k < n
    · replace hkn := hlt
      clear hlt
      have hki : (k : Int) < (n : Int) := by omega
      have hk0 : (0 : Int) ≤ (k : Int) := by omega
      have fk : decide ((k : Int) < (n : Int)) = true := decide_eq_true hki
      obtain ⟨pk, hpk⟩ : ∃ pk, g.prio.getD k 0 = pk := ⟨_, rfl⟩
      have hpb := (HR.out.at k (by rw [HN.out]; exact hkn)).2
      have hpb0 := hpb.1
      rw [hpk] at hpb0
      have HPK := Lib.hid hpk
      obtain ⟨z2, hz2⟩ : ∃ z2, pk % 2 = z2 := ⟨_, rfl⟩
      have htm : Int.tmod pk 2 = z2 := by rw [Int.tmod_eq_emod_of_nonneg hpb0, hz2]
      have HZ2 := Lib.hid hz2
      obtain ⟨u, hcu, hcf⟩ := HF.out.cell (j := k) (by rw [HN.out]; exact hkn)
      have HF1 := Lib.hid (HF.out.give (by rw [HN.out]; exact hkn))
      clear hpb hpk hz2
      have hbb := BRh.out
      have hc0 : wr.cell? ⟨qh, 0, none⟩ = some (.slice (some ⟨hoa, 0, none⟩) n hka) := hbb.cell 0 _ rfl
      have hc1 : wr.cell? ⟨qh, 1, none⟩ = some (.slice (some ⟨hob, 0, none⟩) n hkb) := hbb.cell 1 _ rfl
      have hc2 : wr.cell? ⟨qh, 2, none⟩ = some (.slice (some ⟨hoc, 0, none⟩) n hkc) := hbb.cell 2 _ rfl
      clear hbb
      go_upto_region 12 with (fail)
      clear hcu hcf hc0 hc1 hc2
      generalize (wr.setCell ⟨hoa, k, none⟩ (.int .i64 1)) = w1 at HF1 ⊢
      have BTg := Lib.hid (kx_box HF1.out.keep BQg.out BQg.out.lt HOg.out)
      have BTh := Lib.hid (kx_box HF1.out.keep BQh.out BQh.out.lt HOh.out)
      have W1 := Lib.hid (W.out.trans (kx_below HF1.out.keep HX.out W.out.size (Nat.le_refl _)))
      have hcp := HCB.out w1 W1.out k hkn
      rw [HPK.out] at hcp
      have hbb := BTg.out
      have gc0 : w1.cell? ⟨qg, 0, none⟩ = some (.slice (some ⟨ba, oa, none⟩) n ka) := hbb.cell 0 _ rfl
      have gc1 : w1.cell? ⟨qg, 1, none⟩ = some (.slice (some ⟨bb, ob, none⟩) n kb) := hbb.cell 1 _ rfl
      have gc2 : w1.cell? ⟨qg, 2, none⟩ = some (.slice (some ⟨bc_, oc, none⟩) n kc) := hbb.cell 2 _ rfl
      clear hbb
      by_cases hpar : z2 = 1
      · have f2 : (z2 != 1) = false := by rw [bne_eq_false_iff_eq]; exact hpar
        have HPAR := Lib.hid (show g.prio.getD k 0 % 2 = 1 by rw [HPK.out, HZ2.out]; exact hpar)
        clear hpar
        go_upto_region 14 with (fail)
        clear gc0 gc1 gc2 hcp
        have bq : Box (w1.alloc (.cells #[.int .u64 0, .int .u64 0, .int .u64 0, .int .u64 0] 45)) w1.heap.size 45 #[.int .u64 0, .int .u64 0, .int .u64 0, .int .u64 0] := Box.new _ _ _
        have hg1 := World.grownBy_alloc w1 (.cells #[.int .u64 0, .int .u64 0, .int .u64 0, .int .u64 0] 45) none
        generalize (w1.alloc (.cells #[.int .u64 0, .int .u64 0, .int .u64 0, .int .u64 0] 45)) = w2_ at bq hg1 ⊢
        have hgo := World.grownBy_alloc w2_ (.cells #[.int .i64 (k : Int)] 3) none
        have bo : Box (w2_.alloc (.cells #[.int .i64 (k : Int)] 3)) w2_.heap.size 3 #[.int .i64 (k : Int)] := Box.new _ _ _
        have hsz : w1.heap.size ≤ w2_.heap.size := hg1.size
        have br := bq.keep hgo
        have hlow := below_of_grown (hg1.trans hgo)
        go_upto_region 15 with (fail)
        generalize (w2_.alloc (.cells #[.int .i64 (k : Int)] 3)) = w3_ at bo br hlow ⊢
        obtain ⟨qr, hqr⟩ : ∃ q, w1.heap.size = q := ⟨_, rfl⟩
        obtain ⟨qo, hqo⟩ : ∃ q, w2_.heap.size = q := ⟨_, rfl⟩
        rw [hqr] at br ⊢
        rw [hqo] at bo hsz ⊢
        have HLA1 := Lib.hid (show LA w1 w3_ qr 0#256 [k] (.slice (some ⟨qo, 0, none⟩) 1 1) from ⟨hlow, by have e : ∀ k, P.wrd 0#256 k = 0 := P.wrd_zero; rw [e, e, e, e]; exact br, ⟨rfl, .inr ⟨qo, 1, #[.int .i64 (k : Int)], rfl, hsz, bo, by simp, by decide, rfl, rfl⟩⟩, by omega⟩)
        have HRS1 := Lib.hid (P.Rs.start g hkn)
        clear bq hg1 hgo bo hsz br hlow hqr hqo
        go_loopw [13] (fun ov wq => ∃ (S : BitVec 256) (O : List Nat), P.Rs g n k S O k (g.moves.getD k []).length ∧ LA w1 wq qr S O ov) (fun ov wr => 2 * (n - metAt wr qr n) + lenOf13 ov)
        case atStart => exact ⟨_, _, HRS1.out, HLA1.out⟩
        case round =>
          obtain ⟨S, O, hrs, hla⟩ := hrel
          have HRS0 := Lib.hid hrs
          have HLA0 := Lib.hid hla
          clear hrs hla
          rcases List.eq_nil_or_concat O with hO | ⟨O', x, hO⟩
          · subst hO
            have hoo := HLA0.out.open_
            obtain ⟨ao, ak, rfl, -⟩ := own_at hoo
            clear hoo
            have fo : decide ((0 : Int) < ((0 : Nat) : Int)) = false := by decide
            have HT := Lib.hid HRS0.out.told
            have hbb := HLA0.out.box
            have tc0 : wr.cell? ⟨qr, 0, none⟩ = some (.int .u64 (P.wrd S 0)) := hbb.cell 0 _ rfl
            have tc1 : wr.cell? ⟨qr, 1, none⟩ = some (.int .u64 (P.wrd S 1)) := hbb.cell 1 _ rfl
            have tc2 : wr.cell? ⟨qr, 2, none⟩ = some (.int .u64 (P.wrd S 2)) := hbb.cell 2 _ rfl
            have tc3 : wr.cell? ⟨qr, 3, none⟩ = some (.int .u64 (P.wrd S 3)) := hbb.cell 3 _ rfl
            clear hbb
            go_wp2_with fail
            clear tc0 tc1 tc2 tc3
            refine (has_any S (k : Int) wr).mono ?_
            rintro e wa ⟨rfl, hb⟩
            rw [show P.has S (k : Int) = S.getLsbD k from P.has_nat S k]
            have HFa := Lib.hid ((HF1.out.on (grown_of_below HLA0.out.low none)).on (grown_of_below hb none))
            clear hb
            cases hbk : S.getLsbD k
            · have HTN := Lib.hid (tops_stay HTO.out (show ¬ P.Tops g 1 k from fun h => by
                have h2 := HT.out.2 h.2.2
                unfold P.Bit at h2
                rw [hbk] at h2
                cases h2))
              clear hbk
              go_wp2_with fail
              go_roundw
              case rel => exact ⟨k + 1, Q, by go_num, by omega, HFa.out, HTN.out⟩
              case measure => simp [intOf]; omega
            · have HTN := Lib.hid (tops_more HTO.out (by omega) (show P.Tops g 1 k from ⟨by rw [HN.out]; exact hkn, HPAR.out, HT.out.1 hbk⟩))
              clear hbk
              have hbb := HFa.out.won
              have tc0 : wa.cell? ⟨qw, 0, none⟩ = some (.int .u64 (P.wrd Q 0)) := hbb.cell 0 _ rfl
              have tc1 : wa.cell? ⟨qw, 1, none⟩ = some (.int .u64 (P.wrd Q 1)) := hbb.cell 1 _ rfl
              have tc2 : wa.cell? ⟨qw, 2, none⟩ = some (.int .u64 (P.wrd Q 2)) := hbb.cell 2 _ rfl
              have tc3 : wa.cell? ⟨qw, 3, none⟩ = some (.int .u64 (P.wrd Q 3)) := hbb.cell 3 _ rfl
              clear hbb
              go_wp2_with fail
              clear tc0 tc1 tc2 tc3
              refine (with_any Q (k : Int) wa).mono ?_
              rintro e wx ⟨rfl, hb⟩
              have HFx := Lib.hid (HFa.out.on (grown_of_below hb none))
              clear hb
              obtain ⟨Q2, hQ2⟩ : ∃ Q2, Q ||| P.bit (k : Int) = Q2 := ⟨_, rfl⟩
              rw [hQ2] at HTN ⊢
              have HFp := Lib.hid (HFx.out.put Q2)
              have hbb := HFx.out.won
              have tc0 : wx.cell? ⟨qw, 0, none⟩ = some (.int .u64 (P.wrd Q 0)) := hbb.cell 0 _ rfl
              have tc1 : wx.cell? ⟨qw, 1, none⟩ = some (.int .u64 (P.wrd Q 1)) := hbb.cell 1 _ rfl
              have tc2 : wx.cell? ⟨qw, 2, none⟩ = some (.int .u64 (P.wrd Q 2)) := hbb.cell 2 _ rfl
              have tc3 : wx.cell? ⟨qw, 3, none⟩ = some (.int .u64 (P.wrd Q 3)) := hbb.cell 3 _ rfl
              have tf0 : wx.frozen? ⟨qw, 0, none⟩ = false := hbb.frozen 0
              have tf1 : wx.frozen? ⟨qw, 1, none⟩ = false := hbb.frozen 1
              have tf2 : wx.frozen? ⟨qw, 2, none⟩ = false := hbb.frozen 2
              have tf3 : wx.frozen? ⟨qw, 3, none⟩ = false := hbb.frozen 3
              clear hbb
              clear hQ2
              go_wp2_with fail
              clear tc0 tc1 tc2 tc3 tf0 tf1 tf2 tf3
              go_roundw
              case rel => exact ⟨k + 1, Q2, by go_num, by omega, HFp.out, HTN.out⟩
              case measure => simp [intOf]; omega
          · rw [List.concat_eq_append] at hO
            subst hO
            obtain ⟨m, hm⟩ : ∃ m, O'.length = m := ⟨_, rfl⟩
            have hpop := HRS0.out.pop
            have HR1 := Lib.hid hpop.1
            have HXI := Lib.hid hpop.2.2
            have hxn := hpop.2.1
            have hxn0 : (0 : Int) ≤ (x : Int) := Int.natCast_nonneg _
            have hxni : (x : Int) < (n : Int) := by omega
            have hml_ := HRS0.out.short
            rw [List.length_append, List.length_singleton, hm] at hml_
            have hoo := HLA0.out.open_
            rw [List.length_append, hm, List.map_append, List.length_singleton] at hoo
            obtain ⟨ao, ak, rfl, hor⟩ := own_at hoo
            obtain ⟨b, rfl, hblo, hbl, hcell⟩ := hor.resolve_left (by simp)
            have hcap : m + 1 ≤ ak ∧ ak ≤ maxLen := by
              rcases hoo.2 with ⟨h1, -⟩ | ⟨_, _, _, e1, -, -, h5, h6, -⟩
              · cases h1
              · injection e1 with _ _ e3
                omega
            obtain ⟨hcap, hcap2⟩ := hcap
            have hm0 : (0 : Int) ≤ (m : Int) := Int.natCast_nonneg _
            have hmm : (m : Int) < (m : Int) + 1 := by omega
            have hm1 : decide ((0 : Int) < (m : Int) + 1) = true := decide_eq_true (by omega)
            have cx : wr.cell? ⟨b, m, none⟩ = some (.int .i64 (x : Int)) := by
              have h1 := hcell m (.int .i64 (x : Int)) (by rw [List.map_cons, List.map_nil, List.getElem?_append_right (by simp [hm])]; simp [hm])
              rw [Nat.zero_add] at h1
              exact h1
            have HPL := Lib.hid (HLA0.out.pop hm)
            obtain ⟨M, hM⟩ : ∃ M, 2 * (n - P.cntS n S) + O'.length + 1 = M := ⟨_, rfl⟩
            have HM := Lib.hid (Nat.le_of_eq hM)
            have HMM := Lib.hid (show M = 2 * (n - metAt wr qr n) + (m + 1) by
              rw [← hM, metAt_box HLA0.out.box, hm]
              omega)
            obtain ⟨xv, hcw, hix⟩ := HCR.out w1 W1.out x hxn
            obtain ⟨ml, hml⟩ : ∃ ml, (g.moves.getD x []).length = ml := ⟨_, rfl⟩
            have hat4 := HR.out.at x (by rw [HN.out]; exact hxn)
            have hml2 : 0 < ml := by rw [← hml]; exact List.length_pos_iff.2 hat4.2.2.2.1
            have hml200 : ml ≤ 200 := by
              have h1 := hat4.2.2.2.2
              rw [HN.out] at h1
              rw [← hml]
              exact rise_len_ h1 hmany
            have HRB := Lib.hid (show ∀ z ∈ g.moves.getD x [], 0 ≤ z ∧ z < (n : Int) by
              intro z hz
              have h1 := hat4.2.2.2.2
              rw [HN.out] at h1
              have := P.rise_bounds h1 z hz
              omega)
            obtain ⟨bm, om, km, rfl, hcm⟩ := hix.open_ hml hml2
            have HRX := Lib.hid hcw
            have HCM := Lib.hid hcm
            have HML := Lib.hid hml
            clear hpop hM hcw hcm hml hat4 hor hoo hcell hm
            go_upto_region 19 with (fail)
            clear cx
            go_loopw [13, 15] (fun ov kv wq => ∃ (j : Nat) (S1 : BitVec 256) (O1 : List Nat), j ≤ ml ∧ kv = .int .i64 (j : Int) ∧ P.Rs g n k S1 O1 x j ∧ (x = k ∨ P.Bit S1 x) ∧ 2 * (n - P.cntS n S1) + O1.length + 1 ≤ M ∧ LA w1 wq qr S1 O1 ov) (fun _ kv _ => ml - (intOf kv).toNat)
            case atStart => exact ⟨0, S, O', Nat.zero_le _, rfl, HR1.out, HXI.out, HM.out, HPL.out⟩
            case round =>
              obtain ⟨j, S1, O1, hj, rfl, hrs, hxi, hms, hla⟩ := hrel
              have HRS := Lib.hid hrs
              have HXI2 := Lib.hid hxi
              have HMS := Lib.hid hms
              have HLA := Lib.hid hla
              have hj0 : (0 : Int) ≤ (j : Int) := Int.natCast_nonneg _
              obtain ⟨ao1, ak1, rfl, -⟩ := own_at hla.open_
              clear hrs hxi hms hla
              have BIg := Lib.hid (BTg.out.keep (grown_of_below HLA.out.low none))
              have WI := Lib.hid (W1.out.trans (HLA.out.low.mono W1.out.size))
              have hrx := (grown_of_below HLA.out.low none).cell HRX.out (by simp)
              have hbb := BIg.out
              have gc0 : wr.cell? ⟨qg, 0, none⟩ = some (.slice (some ⟨ba, oa, none⟩) n ka) := hbb.cell 0 _ rfl
              have gc1 : wr.cell? ⟨qg, 1, none⟩ = some (.slice (some ⟨bb, ob, none⟩) n kb) := hbb.cell 1 _ rfl
              have gc2 : wr.cell? ⟨qg, 2, none⟩ = some (.slice (some ⟨bc_, oc, none⟩) n kc) := hbb.cell 2 _ rfl
              clear hbb
              by_cases hjl : j < ml
              · have fj : decide ((j : Int) < (ml : Int)) = true := decide_eq_true (by omega)
                have hji : (j : Int) < (ml : Int) := by omega
                have hcy := HCM.out wr HLA.out.low j hjl
                obtain ⟨mz, hmz⟩ : ∃ mz, (g.moves.getD x []).getD j 0 = mz := ⟨_, rfl⟩
                have hmb := HRB.out mz (by rw [← hmz]; exact getD_mem_ (by rw [HML.out]; exact hjl))
                rw [hmz] at hcy
                obtain ⟨y, rfl⟩ := Int.eq_ofNat_of_zero_le hmb.1
                have hyi : (y : Int) < (n : Int) := hmb.2
                have hyn : y < n := by omega
                have hy0 : (0 : Int) ≤ (y : Int) := Int.natCast_nonneg _
                have HY := Lib.hid hmz
                have hcpy := HCB.out wr WI.out y hyn
                have hcpk := HCB.out wr WI.out k hkn
                obtain ⟨z1, hz1⟩ : ∃ z, g.prio.getD y 0 = z := ⟨_, rfl⟩
                obtain ⟨z0, hz0⟩ : ∃ z, g.prio.getD k 0 = z := ⟨_, rfl⟩
                rw [hz1] at hcpy
                rw [hz0] at hcpk
                have HPY := Lib.hid hcpy
                have HPK0 := Lib.hid hcpk
                have HZ1 := Lib.hid hz1
                have HZ0 := Lib.hid hz0
                clear hcpy hcpk hz1 hz0 hmz hmb
                go_upto_region 22 with (fail)
                clear gc0 gc1 gc2 hrx hcy
                by_cases hz : z1 ≤ z0
                · have fz : decide (z1 ≤ z0) = true := decide_eq_true hz
                  cases hby : S1.getLsbD y
                  · have HBY := Lib.hid (show ¬ P.Bit S1 y by unfold P.Bit; rw [hby]; exact Bool.false_ne_true)
                    have HBV := Lib.hid (show P.has S1 (y : Int) = false by rw [P.has_nat]; exact hby)
                    clear hby
                    have HLAB := Lib.hid HLA.out.box
                    have ka0 : ∀ (d : Nat) (os : Array Obj), (grow (redrawn wr d) os).cell? ⟨qg, 0, none⟩ = some (.slice (some ⟨ba, oa, none⟩) n ka) := fun d os => (BIg.out.keep (grown_of_below (below_regrown wr d os) none)).cell 0 _ rfl
                    have ka1 : ∀ (d : Nat) (os : Array Obj), (grow (redrawn wr d) os).cell? ⟨qg, 1, none⟩ = some (.slice (some ⟨bb, ob, none⟩) n kb) := fun d os => (BIg.out.keep (grown_of_below (below_regrown wr d os) none)).cell 1 _ rfl
                    have ka2 : ∀ (d : Nat) (os : Array Obj), (grow (redrawn wr d) os).cell? ⟨qg, 2, none⟩ = some (.slice (some ⟨bc_, oc, none⟩) n kc) := fun d os => (BIg.out.keep (grown_of_below (below_regrown wr d os) none)).cell 2 _ rfl
                    have kb0 : ∀ (d : Nat) (os : Array Obj), (grow (redrawn wr d) os).cell? ⟨qr, 0, none⟩ = some (.int .u64 (P.wrd S1 0)) := fun d os => (HLAB.out.keep (grown_of_below (below_regrown wr d os) none)).cell 0 _ rfl
                    have kb1 : ∀ (d : Nat) (os : Array Obj), (grow (redrawn wr d) os).cell? ⟨qr, 1, none⟩ = some (.int .u64 (P.wrd S1 1)) := fun d os => (HLAB.out.keep (grown_of_below (below_regrown wr d os) none)).cell 1 _ rfl
                    have kb2 : ∀ (d : Nat) (os : Array Obj), (grow (redrawn wr d) os).cell? ⟨qr, 2, none⟩ = some (.int .u64 (P.wrd S1 2)) := fun d os => (HLAB.out.keep (grown_of_below (below_regrown wr d os) none)).cell 2 _ rfl
                    have kb3 : ∀ (d : Nat) (os : Array Obj), (grow (redrawn wr d) os).cell? ⟨qr, 3, none⟩ = some (.int .u64 (P.wrd S1 3)) := fun d os => (HLAB.out.keep (grown_of_below (below_regrown wr d os) none)).cell 3 _ rfl
                    have kc0 := fun (d : Nat) (os : Array Obj) => cell_regrown HPY.out d os
                    have kc1 := fun (d : Nat) (os : Array Obj) => cell_regrown HPK0.out d os
                    have ch := fun (d : Nat) (os : Array Obj) => has_is HBV.out (rHas wr S1 (y : Int) d os)
                    refine wp_region_quiet_below (by kernel_rfl) (by kernel_rfl) ?_
                    repeat (first | go_big_quiet_step (with_reducible exact ch _ _) | quiet_step (with_reducible exact ch _ _))
                    refine wpQuiet_nil ?_
                    intro _ hw'
                    obtain ⟨⟨dq, osq⟩, hw''⟩ := hw'
                    subst hw''
                    clear ka0 ka1 ka2 kb0 kb1 kb2 kb3 kc0 kc1 HLAB ch
                    have HL8 := Lib.hid (HLA.out.on (grown_of_below (below_regrown wr dq osq) none))
                    generalize (grow (redrawn wr dq) osq) = w8 at HL8 ⊢
                    have hbb := HL8.out.box
                    have tc0 : w8.cell? ⟨qr, 0, none⟩ = some (.int .u64 (P.wrd S1 0)) := hbb.cell 0 _ rfl
                    have tc1 : w8.cell? ⟨qr, 1, none⟩ = some (.int .u64 (P.wrd S1 1)) := hbb.cell 1 _ rfl
                    have tc2 : w8.cell? ⟨qr, 2, none⟩ = some (.int .u64 (P.wrd S1 2)) := hbb.cell 2 _ rfl
                    have tc3 : w8.cell? ⟨qr, 3, none⟩ = some (.int .u64 (P.wrd S1 3)) := hbb.cell 3 _ rfl
                    clear hbb
                    go_wp2_with fail
                    clear tc0 tc1 tc2 tc3
                    refine (with_any S1 (y : Int) w8).mono ?_
                    rintro e wx ⟨rfl, hb⟩
                    have HLx := Lib.hid (HL8.out.on (grown_of_below hb none))
                    clear hb
                    obtain ⟨S2, hS2⟩ : ∃ S2, S1 ||| P.bit (y : Int) = S2 := ⟨_, rfl⟩
                    rw [hS2]
                    have HRS2 := Lib.hid (show P.Rs g n k S2 (O1 ++ [y]) x (j + 1) by
                      rw [← hS2]
                      exact HRS.out.push hmany HXI2.out hyn (by rw [HML.out]; exact hjl) HY.out (by rw [HZ1.out, HZ0.out]; exact hz) HBY.out)
                    have HXI3 := Lib.hid (show x = k ∨ P.Bit S2 x from HXI2.out.imp id fun h => by rw [← hS2]; exact (P.bit_with S1 y x (by omega)).2 (.inl h))
                    have HMS3 := Lib.hid (show 2 * (n - P.cntS n S2) + (O1 ++ [y]).length + 1 ≤ M by
                      have h1 := HMS.out
                      have h2 := HRS.out.room hyn (by omega) HBY.out
                      rw [hS2] at h2
                      have h3 := P.cntS_le n S2
                      rw [List.length_append, List.length_singleton]
                      omega)
                    have HSHT := Lib.hid HRS.out.short
                    have hbb := HLx.out.box
                    have tc0 : wx.cell? ⟨qr, 0, none⟩ = some (.int .u64 (P.wrd S1 0)) := hbb.cell 0 _ rfl
                    have tc1 : wx.cell? ⟨qr, 1, none⟩ = some (.int .u64 (P.wrd S1 1)) := hbb.cell 1 _ rfl
                    have tc2 : wx.cell? ⟨qr, 2, none⟩ = some (.int .u64 (P.wrd S1 2)) := hbb.cell 2 _ rfl
                    have tc3 : wx.cell? ⟨qr, 3, none⟩ = some (.int .u64 (P.wrd S1 3)) := hbb.cell 3 _ rfl
                    have tf0 : wx.frozen? ⟨qr, 0, none⟩ = false := hbb.frozen 0
                    have tf1 : wx.frozen? ⟨qr, 1, none⟩ = false := hbb.frozen 1
                    have tf2 : wx.frozen? ⟨qr, 2, none⟩ = false := hbb.frozen 2
                    have tf3 : wx.frozen? ⟨qr, 3, none⟩ = false := hbb.frozen 3
                    clear hbb
                    go_upto_region 24 with (fail)
                    have HLp := Lib.hid (HLx.out.put S2)
                    clear tc0 tc1 tc2 tc3 tf0 tf1 tf2 tf3 hS2
                    generalize (((wx.setCell ⟨qr, 0, none⟩ (.int .u64 (P.wrd S2 0))).setCell ⟨qr, 1, none⟩ (.int .u64 (P.wrd S2 1))).setCell ⟨qr, 2, none⟩ (.int .u64 (P.wrd S2 2))).setCell ⟨qr, 3, none⟩ (.int .u64 (P.wrd S2 3)) = wy at HLp ⊢
                    go_wp2_with (at_builtin; refine wpl_append elInt rfl (.tmp 125) (.tmp 127) rfl rfl (own_grown HLp.out.open_ (World.grownBy_alloc _ _ none)) rfl (row_one _ _ _) ?_ ?_ ?_ ?_ ?_)
                    · first | rfl | (intro u hu; simp at hu; subst hu; rfl)
                    · have := HSHT.out; first | omega | (simp; omega)
                    · have := HSHT.out; first | omega | (simp; omega)
                    · have := HLp.out.size; first | omega | (simp; omega)
                    intro v7 w7 hown hgr hat
                    have HL7 := Lib.hid ((HLp.out.on (World.grownBy_alloc wy (.cells #[.int .i64 (y : Int)] 3) none)).push (y := y) hgr (by simpa using hown))
                    clear hown hgr hat
                    go_wp2_with fail
                    go_roundw
                    case rel => exact ⟨j + 1, S2, _, by omega, by first | rfl | go_num, HRS2.out, HXI3.out, HMS3.out, HL7.out⟩
                    case measure => simp [intOf]; omega
                  · have HBY := Lib.hid (show P.Bit S1 y from hby)
                    have HBV := Lib.hid (show P.has S1 (y : Int) = true by rw [P.has_nat]; exact hby)
                    clear hby
                    have HLAB := Lib.hid HLA.out.box
                    have ka0 : ∀ (d : Nat) (os : Array Obj), (grow (redrawn wr d) os).cell? ⟨qg, 0, none⟩ = some (.slice (some ⟨ba, oa, none⟩) n ka) := fun d os => (BIg.out.keep (grown_of_below (below_regrown wr d os) none)).cell 0 _ rfl
                    have ka1 : ∀ (d : Nat) (os : Array Obj), (grow (redrawn wr d) os).cell? ⟨qg, 1, none⟩ = some (.slice (some ⟨bb, ob, none⟩) n kb) := fun d os => (BIg.out.keep (grown_of_below (below_regrown wr d os) none)).cell 1 _ rfl
                    have ka2 : ∀ (d : Nat) (os : Array Obj), (grow (redrawn wr d) os).cell? ⟨qg, 2, none⟩ = some (.slice (some ⟨bc_, oc, none⟩) n kc) := fun d os => (BIg.out.keep (grown_of_below (below_regrown wr d os) none)).cell 2 _ rfl
                    have kb0 : ∀ (d : Nat) (os : Array Obj), (grow (redrawn wr d) os).cell? ⟨qr, 0, none⟩ = some (.int .u64 (P.wrd S1 0)) := fun d os => (HLAB.out.keep (grown_of_below (below_regrown wr d os) none)).cell 0 _ rfl
                    have kb1 : ∀ (d : Nat) (os : Array Obj), (grow (redrawn wr d) os).cell? ⟨qr, 1, none⟩ = some (.int .u64 (P.wrd S1 1)) := fun d os => (HLAB.out.keep (grown_of_below (below_regrown wr d os) none)).cell 1 _ rfl
                    have kb2 : ∀ (d : Nat) (os : Array Obj), (grow (redrawn wr d) os).cell? ⟨qr, 2, none⟩ = some (.int .u64 (P.wrd S1 2)) := fun d os => (HLAB.out.keep (grown_of_below (below_regrown wr d os) none)).cell 2 _ rfl
                    have kb3 : ∀ (d : Nat) (os : Array Obj), (grow (redrawn wr d) os).cell? ⟨qr, 3, none⟩ = some (.int .u64 (P.wrd S1 3)) := fun d os => (HLAB.out.keep (grown_of_below (below_regrown wr d os) none)).cell 3 _ rfl
                    have kc0 := fun (d : Nat) (os : Array Obj) => cell_regrown HPY.out d os
                    have kc1 := fun (d : Nat) (os : Array Obj) => cell_regrown HPK0.out d os
                    have ch := fun (d : Nat) (os : Array Obj) => has_is HBV.out (rHas wr S1 (y : Int) d os)
                    refine wp_region_quiet_below (by kernel_rfl) (by kernel_rfl) ?_
                    repeat (first | go_big_quiet_step (with_reducible exact ch _ _) | quiet_step (with_reducible exact ch _ _))
                    refine wpQuiet_nil ?_
                    intro _ hw'
                    obtain ⟨⟨dq, osq⟩, hw''⟩ := hw'
                    subst hw''
                    clear ka0 ka1 ka2 kb0 kb1 kb2 kb3 kc0 kc1 HLAB ch
                    have HL8 := Lib.hid (HLA.out.on (grown_of_below (below_regrown wr dq osq) none))
                    generalize (grow (redrawn wr dq) osq) = w8 at HL8 ⊢
                    have HRS2 := Lib.hid (HRS.out.pass (by rw [HML.out]; exact hjl) HY.out (.inr HBY.out))
                    go_wp2_with fail
                    go_roundw
                    case rel => exact ⟨j + 1, S1, O1, by omega, by first | rfl | go_num, HRS2.out, HXI2.out, HMS.out, HL8.out⟩
                    case measure => simp [intOf]; omega
                · have fz : decide (z1 ≤ z0) = false := decide_eq_false hz
                  have HLAB := Lib.hid HLA.out.box
                  have ka0 : ∀ (d : Nat) (os : Array Obj), (grow (redrawn wr d) os).cell? ⟨qg, 0, none⟩ = some (.slice (some ⟨ba, oa, none⟩) n ka) := fun d os => (BIg.out.keep (grown_of_below (below_regrown wr d os) none)).cell 0 _ rfl
                  have ka1 : ∀ (d : Nat) (os : Array Obj), (grow (redrawn wr d) os).cell? ⟨qg, 1, none⟩ = some (.slice (some ⟨bb, ob, none⟩) n kb) := fun d os => (BIg.out.keep (grown_of_below (below_regrown wr d os) none)).cell 1 _ rfl
                  have ka2 : ∀ (d : Nat) (os : Array Obj), (grow (redrawn wr d) os).cell? ⟨qg, 2, none⟩ = some (.slice (some ⟨bc_, oc, none⟩) n kc) := fun d os => (BIg.out.keep (grown_of_below (below_regrown wr d os) none)).cell 2 _ rfl
                  have kb0 : ∀ (d : Nat) (os : Array Obj), (grow (redrawn wr d) os).cell? ⟨qr, 0, none⟩ = some (.int .u64 (P.wrd S1 0)) := fun d os => (HLAB.out.keep (grown_of_below (below_regrown wr d os) none)).cell 0 _ rfl
                  have kb1 : ∀ (d : Nat) (os : Array Obj), (grow (redrawn wr d) os).cell? ⟨qr, 1, none⟩ = some (.int .u64 (P.wrd S1 1)) := fun d os => (HLAB.out.keep (grown_of_below (below_regrown wr d os) none)).cell 1 _ rfl
                  have kb2 : ∀ (d : Nat) (os : Array Obj), (grow (redrawn wr d) os).cell? ⟨qr, 2, none⟩ = some (.int .u64 (P.wrd S1 2)) := fun d os => (HLAB.out.keep (grown_of_below (below_regrown wr d os) none)).cell 2 _ rfl
                  have kb3 : ∀ (d : Nat) (os : Array Obj), (grow (redrawn wr d) os).cell? ⟨qr, 3, none⟩ = some (.int .u64 (P.wrd S1 3)) := fun d os => (HLAB.out.keep (grown_of_below (below_regrown wr d os) none)).cell 3 _ rfl
                  have kc0 := fun (d : Nat) (os : Array Obj) => cell_regrown HPY.out d os
                  have kc1 := fun (d : Nat) (os : Array Obj) => cell_regrown HPK0.out d os
                  refine wp_region_quiet_below (by kernel_rfl) (by kernel_rfl) ?_
                  repeat (first | go_big_quiet_step (fail) | quiet_step (fail))
                  refine wpQuiet_nil ?_
                  intro _ hw'
                  obtain ⟨⟨dq, osq⟩, hw''⟩ := hw'
                  subst hw''
                  clear ka0 ka1 ka2 kb0 kb1 kb2 kb3 kc0 kc1 HLAB 
                  have HL8 := Lib.hid (HLA.out.on (grown_of_below (below_regrown wr dq osq) none))
                  generalize (grow (redrawn wr dq) osq) = w8 at HL8 ⊢
                  have HRS2 := Lib.hid (HRS.out.pass (by rw [HML.out]; exact hjl) HY.out (.inl (by rw [HZ1.out, HZ0.out]; exact hz)))
                  go_wp2_with fail
                  go_roundw
                  case rel => exact ⟨j + 1, S1, O1, by omega, by first | rfl | go_num, HRS2.out, HXI2.out, HMS.out, HL8.out⟩
                  case measure => simp [intOf]; omega
              · have fj : decide ((j : Int) < (ml : Int)) = false := decide_eq_false (by omega)
                have HRSE := Lib.hid (HRS.out.end_ (by rw [HML.out]; omega) k)
                go_wp2_with fail
                clear gc0 gc1 gc2 hrx
                go_roundw
                case rel => exact ⟨S1, O1, HRSE.out, HLA.out⟩
                case measure =>
                  have h1 := HMS.out
                  have h2 := HMM.out
                  rw [metAt_box HLA.out.box]
                  simp only [lenOf13]
                  omega
      · have f2 : (z2 != 1) = true := by rw [bne_iff_ne]; exact hpar
        have HTN := Lib.hid (tops_stay HTO.out (show ¬ P.Tops g 1 k from fun h => hpar (by rw [← HZ2.out, ← HPK.out]; exact h.2.1)))
        clear hpar
        go_wp2_with fail
        clear gc0 gc1 gc2 hcp
        go_roundw
        case rel => exact ⟨k + 1, Q, by go_num, by omega, HF1.out, HTN.out⟩
        case measure => simp [intOf]; omega
    · obtain rfl : n = k := by omega
      have fk : decide ((n : Int) < (n : Int)) = false := decide_eq_false (by omega)
      clear hlt hkn
      have HWS := Lib.hid (P.Wn.start (g := g) (p := 1) (W := Q) fun i => (HTO.out i).trans ⟨fun h => h.2, fun h => ⟨by rw [← HN.out]; exact h.1, h⟩⟩)
      go_wp2_with fail
      go_loopw [17] (fun rv wq => ∃ (r : Nat) (Q : BitVec 256), rv = .int .i64 (r : Int) ∧ r ≤ n + 1 ∧ FA wf wq wc.heap.size hoa qw n hka (.slice (some ⟨hob, 0, none⟩) n hkb) (.slice (some ⟨hoc, 0, none⟩) n hkc) hL g 1 n Q ∧ P.Wn g 1 Q r 0) (fun rv _ => n + 1 - (intOf rv).toNat)
      case atStart => exact ⟨0, Q, rfl, Nat.zero_le _, HF.out, HWS.out⟩
      case round =>
        obtain ⟨r, Q, rfl, hrn, hfr, hwn⟩ := hrel
        replace HF := Lib.hid hfr
        have HWN := Lib.hid hwn
        clear hfr hwn
        by_cases hrl : r ≤ n
        · have fr : decide ((r : Int) ≤ (n : Int)) = true := decide_eq_true (by omega)
          go_wp2_with fail
          go_loopw [18] (fun iv wq => ∃ (ii : Nat) (Q : BitVec 256), iv = .int .i64 (ii : Int) ∧ ii ≤ n ∧ FA wf wq wc.heap.size hoa qw n hka (.slice (some ⟨hob, 0, none⟩) n hkb) (.slice (some ⟨hoc, 0, none⟩) n hkc) hL g 1 n Q ∧ P.Wn g 1 Q r ii) (fun iv _ => n - (intOf iv).toNat)
          case atStart => exact ⟨0, Q, rfl, Nat.zero_le _, HF.out, HWN.out⟩
          case round =>
            obtain ⟨ii, Q, rfl, hin, hfr, hwn⟩ := hrel
            replace HF := Lib.hid hfr
            replace HWN := Lib.hid hwn
            clear hfr hwn
            have BIg := Lib.hid (kx_box HF.out.keep BQg.out BQg.out.lt HOg.out)
            have BIh := Lib.hid (kx_box HF.out.keep BQh.out BQh.out.lt HOh.out)
            by_cases hil : ii < n
            · have hii : (ii : Int) < (n : Int) := by omega
              have hi0 : (0 : Int) ≤ (ii : Int) := by omega
              have fi : decide ((ii : Int) < (n : Int)) = true := decide_eq_true hii
              have WI := Lib.hid (W.out.trans (kx_below HF.out.keep HX.out W.out.size (Nat.le_refl _)))
              obtain ⟨xv, hcw, hix⟩ := HCR.out wr WI.out ii hil
              obtain ⟨ml, hml⟩ : ∃ ml, (g.moves.getD ii []).length = ml := ⟨_, rfl⟩
              have hml2 : 0 < ml := by rw [← hml]; exact List.length_pos_iff.2 (HR.out.at ii (by rw [HN.out]; exact hil)).2.2.2.1
              have HRI0 := hix
              obtain ⟨bm, om, km, rfl, -⟩ := hix.open_ hml hml2
              have HRX := Lib.hid hcw
              have HRI := Lib.hid HRI0
              clear hcw hix HRI0 hml
              go_upto_region 33 with (fail)
              obtain ⟨R, hR⟩ : ∃ R, P.ofL (g.moves.getD ii []) = R := ⟨_, rfl⟩
              have HRR := Lib.hid hR
              by_cases hme : R &&& Q ≠ 0#256
              · have HME := Lib.hid (meets.1 (by rw [hR]; exact hme))
                have hneq : ∀ w : World, (binOp .neq 45 (.agg #[.int .u64 (P.wrd (R &&& Q) 0), .int .u64 (P.wrd (R &&& Q) 1), .int .u64 (P.wrd (R &&& Q) 2), .int .u64 (P.wrd (R &&& Q) 3)]) (.agg #[.int .u64 (P.wrd 0#256 0), .int .u64 (P.wrd 0#256 1), .int .u64 (P.wrd 0#256 2), .int .u64 (P.wrd 0#256 3)])).run Tryd.prog w = .ok (.bool true) w := fun w => by rw [set_neq, decide_eq_false hme]; rfl
                clear hme hR
                refine Rt.wp_region_tail 1 (fun idx => match idx with | 0 => (fun v _ _ => v = (.pointer (some ⟨qg, 2, none⟩))) | 1 => (fun v _ _ => v = (.slice (some ⟨bc_, oc, none⟩) n kc)) | 2 => (fun v _ _ => v = (.int .i64 (ii : Int))) | 3 => (fun v _ _ => v = (.pointer (some ⟨bc_, oc + ii, none⟩))) | 4 => (fun v _ _ => v = (.slice (some ⟨bm, om, none⟩) ml km)) | 5 => (fun v _ _ => v = .agg #[.int .u64 (P.wrd R 0), .int .u64 (P.wrd R 1), .int .u64 (P.wrd R 2), .int .u64 (P.wrd R 3)]) | 6 => (fun v _ _ => v = .agg #[.int .u64 (P.wrd Q 0), .int .u64 (P.wrd Q 1), .int .u64 (P.wrd Q 2), .int .u64 (P.wrd Q 3)]) | 7 => (fun v _ _ => v = .agg #[.int .u64 (P.wrd (R &&& Q) 0), .int .u64 (P.wrd (R &&& Q) 1), .int .u64 (P.wrd (R &&& Q) 2), .int .u64 (P.wrd (R &&& Q) 3)]) | 8 => (fun v _ _ => v = .agg #[.int .u64 (P.wrd 0#256 0), .int .u64 (P.wrd 0#256 1), .int .u64 (P.wrd 0#256 2), .int .u64 (P.wrd 0#256 3)]) | _ => fun _ _ _ => True) (fun _ _ _ _ => True) (Rk.allK) 99 (by kernel_rfl) (by rfl) (by kernel_rfl) (by rfl) ?_ ?_ ?_ ?_
                · refine ⟨?_, ?_, ?_, ?_, ?_, ?_, ?_, ?_, ?_, trivial⟩
                  · intro A w' K vals h hn hT hgk hK0
                    have r0 : A.tmps[2]?.getD undef = .pointer (some ⟨qg, 0, none⟩) := Rg.slot h.1
                    clear h hn hT hgk
                    simp [Oper.wp, execOp, go_sem, r0]
                    exact hK0 _ _ (Rk.Keeps.refl _ _) rfl trivial
                  · intro A w' K vals h hn hT hgk hK0
                    have r0 : A.tmps[145]?.getD undef = vals 0 := Rg.slot (h.1)
                    have r1 : vals 0 = (.pointer (some ⟨qg, 2, none⟩)) := hn.1
                    have hbx := BIg.out.keep (Rk.grown_of hgk)
                    have c0 : w'.cell? ⟨qg, 2, none⟩ = some (.slice (some ⟨bc_, oc, none⟩) n kc) := hbx.cell 2 _ rfl
                    clear h hn hT hgk hbx
                    simp [Oper.wp, execOp, go_sem, r0, r1, c0]
                    exact hK0 _ _ (Rk.Keeps.refl _ _) rfl trivial
                  · intro A w' K vals h hn hT hgk hK0
                    have r0 : A.tmps[18]?.getD undef = .int .i64 (ii : Int) := Rg.slot h.1
                    clear h hn hT hgk
                    simp [Oper.wp, execOp, go_sem, r0]
                    exact hK0 _ _ (Rk.Keeps.refl _ _) rfl trivial
                  · intro A w' K vals h hn hT hgk hK0
                    have r0 : A.tmps[146]?.getD undef = vals 1 := Rg.slot h.1
                    have s0 : vals 1 = (.slice (some ⟨bc_, oc, none⟩) n kc) := hn.1
                    have r1 : A.tmps[147]?.getD undef = vals 2 := Rg.slot h.2.1
                    have s1 : vals 2 = (.int .i64 (ii : Int)) := hn.2.1
                    clear h hn hT hgk
                    simp [Oper.wp, execOp, go_sem, r0, r1, s0, s1, hii, hi0]
                    exact hK0 _ _ (Rk.Keeps.refl _ _) rfl trivial
                  · intro A w' K vals h hn hT hgk hK0
                    have r0 : A.tmps[148]?.getD undef = vals 3 := Rg.slot (h.1)
                    have r1 : vals 3 = (.pointer (some ⟨bc_, oc + ii, none⟩)) := hn.1
                    have c : w'.cell? ⟨bc_, oc + ii, none⟩ = some (.slice (some ⟨bm, om, none⟩) ml km) := (Rk.grown_of hgk).cell HRX.out (by simp)
                    clear h hn hT hgk
                    simp [Oper.wp, execOp, go_sem, r0, r1, c]
                    exact hK0 _ _ (Rk.Keeps.refl _ _) rfl trivial
                  · intro A w' K vals h hn hT hgk hK0
                    have r0 : A.tmps[149]?.getD undef = vals 4 := Rg.slot h.2.1
                    have s0 : vals 4 = (.slice (some ⟨bm, om, none⟩) ml km) := hn.1
                    have hb := below_of_grown (Rk.grown_of hgk)
                    clear h hn hT hgk
                    simp [Oper.wp, go_sem, r0, s0]
                    refine (of_ints (HRI.out.on hb)).mono ?_
                    rintro e w'' ⟨rfl, hb⟩
                    rw [HRR.out]
                    exact hK0 _ _ (Rk.keep_of (grown_of_below hb _)) rfl trivial
                  · intro A w' K vals h hn hT hgk hK0
                    have r0 : A.tmps[10]?.getD undef = (.pointer (some ⟨qw, 0, none⟩)) := Rg.slot h.1
                    have bs := HF.out.won.keep (Rk.grown_of hgk)
                    have cc0 : w'.cell? ⟨qw, 0, none⟩ = some (.int .u64 (P.wrd Q 0)) := bs.cell 0 _ rfl
                    have cc1 : w'.cell? ⟨qw, 1, none⟩ = some (.int .u64 (P.wrd Q 1)) := bs.cell 1 _ rfl
                    have cc2 : w'.cell? ⟨qw, 2, none⟩ = some (.int .u64 (P.wrd Q 2)) := bs.cell 2 _ rfl
                    have cc3 : w'.cell? ⟨qw, 3, none⟩ = some (.int .u64 (P.wrd Q 3)) := bs.cell 3 _ rfl
                    clear h hn hT hgk bs
                    simp [Oper.wp, execOp, go_sem, r0, cc0, cc1, cc2, cc3]
                    exact hK0 _ _ (Rk.Keeps.refl _ _) rfl trivial
                  · intro A w' K vals h hn hT hgk hK0
                    have r0 : A.tmps[150]?.getD undef = vals 5 := Rg.slot h.2.1
                    have r1 : A.tmps[151]?.getD undef = vals 6 := Rg.slot h.2.2.1
                    have s0 : vals 5 = .agg #[.int .u64 (P.wrd R 0), .int .u64 (P.wrd R 1), .int .u64 (P.wrd R 2), .int .u64 (P.wrd R 3)] := hn.1
                    have s1 : vals 6 = .agg #[.int .u64 (P.wrd Q 0), .int .u64 (P.wrd Q 1), .int .u64 (P.wrd Q 2), .int .u64 (P.wrd Q 3)] := hn.2.1
                    clear h hn hT hgk
                    simp [Oper.wp, go_sem, r0, r1, s0, s1]
                    refine (and_any _ _ w').mono ?_
                    rintro e w'' ⟨rfl, hb⟩
                    exact hK0 _ _ (Rk.keep_of (grown_of_below hb _)) rfl trivial
                  · intro A w' K vals h hn hT hgk hK0
                    clear h hn hT hgk
                    simp [Oper.wp, execOp, go_sem]
                    exact hK0 _ _ (Rk.Keeps.refl _ _) zero_agg trivial
                · refine ⟨?_, ?_, ?_, ?_, ?_, ?_, ?_, ?_, ?_, trivial⟩
                  · exact fun _ _ _ _ _ _ h => h
                  · exact fun _ _ _ _ _ _ h => h
                  · exact fun _ _ _ _ _ _ h => h
                  · exact fun _ _ _ _ _ _ h => h
                  · exact fun _ _ _ _ _ _ h => h
                  · exact fun _ _ _ _ _ _ h => h
                  · exact fun _ _ _ _ _ _ h => h
                  · exact fun _ _ _ _ _ _ h => h
                  · exact fun _ _ _ _ _ _ h => h
                · exact fun _ _ _ _ _ _ h => h
                · intro vals w8 G hgk hS hG
                  have s7 : vals 7 = .agg #[.int .u64 (P.wrd (R &&& Q) 0), .int .u64 (P.wrd (R &&& Q) 1), .int .u64 (P.wrd (R &&& Q) 2), .int .u64 (P.wrd (R &&& Q) 3)] := hS.2.2.2.2.2.2.2.1
                  have s8 : vals 8 = .agg #[.int .u64 (P.wrd 0#256 0), .int .u64 (P.wrd 0#256 1), .int .u64 (P.wrd 0#256 2), .int .u64 (P.wrd 0#256 3)] := hS.2.2.2.2.2.2.2.2.1
                  clear hS
                  have hg := Rk.grown_of hgk
                  have HF8 := Lib.hid (HF.out.on hg)
                  clear hgk hg
                  refine hG ?_
                  clear hG
                  simp only [List.take, List.drop, List.length, Nat.reduceSub, Nat.reduceAdd, Rg.putAll, Act.put, List.setIfInBounds_toArray, List.set_cons_succ, List.set_cons_zero, s7, s8]
                  clear s7 s8
                  have hbb := HF8.out.won
                  have tc0 : w8.cell? ⟨qw, 0, none⟩ = some (.int .u64 (P.wrd Q 0)) := hbb.cell 0 _ rfl
                  have tc1 : w8.cell? ⟨qw, 1, none⟩ = some (.int .u64 (P.wrd Q 1)) := hbb.cell 1 _ rfl
                  have tc2 : w8.cell? ⟨qw, 2, none⟩ = some (.int .u64 (P.wrd Q 2)) := hbb.cell 2 _ rfl
                  have tc3 : w8.cell? ⟨qw, 3, none⟩ = some (.int .u64 (P.wrd Q 3)) := hbb.cell 3 _ rfl
                  clear hbb
                  go_wp2_with fail
                  clear hneq
                  clear tc0 tc1 tc2 tc3
                  refine (with_any Q (ii : Int) w8).mono ?_
                  rintro e wx ⟨rfl, hb⟩
                  have HFx := Lib.hid (HF8.out.on (grown_of_below hb none))
                  clear hb
                  have HWN2 := Lib.hid (HWN.out.add (by omega) HME.out)
                  obtain ⟨Q2, hQ2⟩ : ∃ Q2, Q ||| P.bit (ii : Int) = Q2 := ⟨_, rfl⟩
                  rw [hQ2] at HWN2 ⊢
                  have HFp := Lib.hid (HFx.out.put Q2)
                  have hbb := HFx.out.won
                  have tc0 : wx.cell? ⟨qw, 0, none⟩ = some (.int .u64 (P.wrd Q 0)) := hbb.cell 0 _ rfl
                  have tc1 : wx.cell? ⟨qw, 1, none⟩ = some (.int .u64 (P.wrd Q 1)) := hbb.cell 1 _ rfl
                  have tc2 : wx.cell? ⟨qw, 2, none⟩ = some (.int .u64 (P.wrd Q 2)) := hbb.cell 2 _ rfl
                  have tc3 : wx.cell? ⟨qw, 3, none⟩ = some (.int .u64 (P.wrd Q 3)) := hbb.cell 3 _ rfl
                  have tf0 : wx.frozen? ⟨qw, 0, none⟩ = false := hbb.frozen 0
                  have tf1 : wx.frozen? ⟨qw, 1, none⟩ = false := hbb.frozen 1
                  have tf2 : wx.frozen? ⟨qw, 2, none⟩ = false := hbb.frozen 2
                  have tf3 : wx.frozen? ⟨qw, 3, none⟩ = false := hbb.frozen 3
                  clear hbb
                  clear hQ2
                  go_wp2_with fail
                  clear tc0 tc1 tc2 tc3 tf0 tf1 tf2 tf3
                  go_roundw
                  case rel => exact ⟨ii + 1, Q2, by go_num, by omega, HFp.out, HWN2.out⟩
                  case measure => simp [intOf]; omega
              · have HME := Lib.hid (fun h => hme (by rw [← hR]; exact meets.2 h))
                have hneq : ∀ w : World, (binOp .neq 45 (.agg #[.int .u64 (P.wrd (R &&& Q) 0), .int .u64 (P.wrd (R &&& Q) 1), .int .u64 (P.wrd (R &&& Q) 2), .int .u64 (P.wrd (R &&& Q) 3)]) (.agg #[.int .u64 (P.wrd 0#256 0), .int .u64 (P.wrd 0#256 1), .int .u64 (P.wrd 0#256 2), .int .u64 (P.wrd 0#256 3)])).run Tryd.prog w = .ok (.bool false) w := fun w => by rw [set_neq, decide_eq_true (Classical.not_not.1 hme)]; rfl
                clear hme hR
                refine Rt.wp_region_tail 1 (fun idx => match idx with | 0 => (fun v _ _ => v = (.pointer (some ⟨qg, 2, none⟩))) | 1 => (fun v _ _ => v = (.slice (some ⟨bc_, oc, none⟩) n kc)) | 2 => (fun v _ _ => v = (.int .i64 (ii : Int))) | 3 => (fun v _ _ => v = (.pointer (some ⟨bc_, oc + ii, none⟩))) | 4 => (fun v _ _ => v = (.slice (some ⟨bm, om, none⟩) ml km)) | 5 => (fun v _ _ => v = .agg #[.int .u64 (P.wrd R 0), .int .u64 (P.wrd R 1), .int .u64 (P.wrd R 2), .int .u64 (P.wrd R 3)]) | 6 => (fun v _ _ => v = .agg #[.int .u64 (P.wrd Q 0), .int .u64 (P.wrd Q 1), .int .u64 (P.wrd Q 2), .int .u64 (P.wrd Q 3)]) | 7 => (fun v _ _ => v = .agg #[.int .u64 (P.wrd (R &&& Q) 0), .int .u64 (P.wrd (R &&& Q) 1), .int .u64 (P.wrd (R &&& Q) 2), .int .u64 (P.wrd (R &&& Q) 3)]) | 8 => (fun v _ _ => v = .agg #[.int .u64 (P.wrd 0#256 0), .int .u64 (P.wrd 0#256 1), .int .u64 (P.wrd 0#256 2), .int .u64 (P.wrd 0#256 3)]) | _ => fun _ _ _ => True) (fun _ _ _ _ => True) (Rk.allK) 99 (by kernel_rfl) (by rfl) (by kernel_rfl) (by rfl) ?_ ?_ ?_ ?_
                · refine ⟨?_, ?_, ?_, ?_, ?_, ?_, ?_, ?_, ?_, trivial⟩
                  · intro A w' K vals h hn hT hgk hK0
                    have r0 : A.tmps[2]?.getD undef = .pointer (some ⟨qg, 0, none⟩) := Rg.slot h.1
                    clear h hn hT hgk
                    simp [Oper.wp, execOp, go_sem, r0]
                    exact hK0 _ _ (Rk.Keeps.refl _ _) rfl trivial
                  · intro A w' K vals h hn hT hgk hK0
                    have r0 : A.tmps[145]?.getD undef = vals 0 := Rg.slot (h.1)
                    have r1 : vals 0 = (.pointer (some ⟨qg, 2, none⟩)) := hn.1
                    have hbx := BIg.out.keep (Rk.grown_of hgk)
                    have c0 : w'.cell? ⟨qg, 2, none⟩ = some (.slice (some ⟨bc_, oc, none⟩) n kc) := hbx.cell 2 _ rfl
                    clear h hn hT hgk hbx
                    simp [Oper.wp, execOp, go_sem, r0, r1, c0]
                    exact hK0 _ _ (Rk.Keeps.refl _ _) rfl trivial
                  · intro A w' K vals h hn hT hgk hK0
                    have r0 : A.tmps[18]?.getD undef = .int .i64 (ii : Int) := Rg.slot h.1
                    clear h hn hT hgk
                    simp [Oper.wp, execOp, go_sem, r0]
                    exact hK0 _ _ (Rk.Keeps.refl _ _) rfl trivial
                  · intro A w' K vals h hn hT hgk hK0
                    have r0 : A.tmps[146]?.getD undef = vals 1 := Rg.slot h.1
                    have s0 : vals 1 = (.slice (some ⟨bc_, oc, none⟩) n kc) := hn.1
                    have r1 : A.tmps[147]?.getD undef = vals 2 := Rg.slot h.2.1
                    have s1 : vals 2 = (.int .i64 (ii : Int)) := hn.2.1
                    clear h hn hT hgk
                    simp [Oper.wp, execOp, go_sem, r0, r1, s0, s1, hii, hi0]
                    exact hK0 _ _ (Rk.Keeps.refl _ _) rfl trivial
                  · intro A w' K vals h hn hT hgk hK0
                    have r0 : A.tmps[148]?.getD undef = vals 3 := Rg.slot (h.1)
                    have r1 : vals 3 = (.pointer (some ⟨bc_, oc + ii, none⟩)) := hn.1
                    have c : w'.cell? ⟨bc_, oc + ii, none⟩ = some (.slice (some ⟨bm, om, none⟩) ml km) := (Rk.grown_of hgk).cell HRX.out (by simp)
                    clear h hn hT hgk
                    simp [Oper.wp, execOp, go_sem, r0, r1, c]
                    exact hK0 _ _ (Rk.Keeps.refl _ _) rfl trivial
                  · intro A w' K vals h hn hT hgk hK0
                    have r0 : A.tmps[149]?.getD undef = vals 4 := Rg.slot h.2.1
                    have s0 : vals 4 = (.slice (some ⟨bm, om, none⟩) ml km) := hn.1
                    have hb := below_of_grown (Rk.grown_of hgk)
                    clear h hn hT hgk
                    simp [Oper.wp, go_sem, r0, s0]
                    refine (of_ints (HRI.out.on hb)).mono ?_
                    rintro e w'' ⟨rfl, hb⟩
                    rw [HRR.out]
                    exact hK0 _ _ (Rk.keep_of (grown_of_below hb _)) rfl trivial
                  · intro A w' K vals h hn hT hgk hK0
                    have r0 : A.tmps[10]?.getD undef = (.pointer (some ⟨qw, 0, none⟩)) := Rg.slot h.1
                    have bs := HF.out.won.keep (Rk.grown_of hgk)
                    have cc0 : w'.cell? ⟨qw, 0, none⟩ = some (.int .u64 (P.wrd Q 0)) := bs.cell 0 _ rfl
                    have cc1 : w'.cell? ⟨qw, 1, none⟩ = some (.int .u64 (P.wrd Q 1)) := bs.cell 1 _ rfl
                    have cc2 : w'.cell? ⟨qw, 2, none⟩ = some (.int .u64 (P.wrd Q 2)) := bs.cell 2 _ rfl
                    have cc3 : w'.cell? ⟨qw, 3, none⟩ = some (.int .u64 (P.wrd Q 3)) := bs.cell 3 _ rfl
                    clear h hn hT hgk bs
                    simp [Oper.wp, execOp, go_sem, r0, cc0, cc1, cc2, cc3]
                    exact hK0 _ _ (Rk.Keeps.refl _ _) rfl trivial
                  · intro A w' K vals h hn hT hgk hK0
                    have r0 : A.tmps[150]?.getD undef = vals 5 := Rg.slot h.2.1
                    have r1 : A.tmps[151]?.getD undef = vals 6 := Rg.slot h.2.2.1
                    have s0 : vals 5 = .agg #[.int .u64 (P.wrd R 0), .int .u64 (P.wrd R 1), .int .u64 (P.wrd R 2), .int .u64 (P.wrd R 3)] := hn.1
                    have s1 : vals 6 = .agg #[.int .u64 (P.wrd Q 0), .int .u64 (P.wrd Q 1), .int .u64 (P.wrd Q 2), .int .u64 (P.wrd Q 3)] := hn.2.1
                    clear h hn hT hgk
                    simp [Oper.wp, go_sem, r0, r1, s0, s1]
                    refine (and_any _ _ w').mono ?_
                    rintro e w'' ⟨rfl, hb⟩
                    exact hK0 _ _ (Rk.keep_of (grown_of_below hb _)) rfl trivial
                  · intro A w' K vals h hn hT hgk hK0
                    clear h hn hT hgk
                    simp [Oper.wp, execOp, go_sem]
                    exact hK0 _ _ (Rk.Keeps.refl _ _) zero_agg trivial
                · refine ⟨?_, ?_, ?_, ?_, ?_, ?_, ?_, ?_, ?_, trivial⟩
                  · exact fun _ _ _ _ _ _ h => h
                  · exact fun _ _ _ _ _ _ h => h
                  · exact fun _ _ _ _ _ _ h => h
                  · exact fun _ _ _ _ _ _ h => h
                  · exact fun _ _ _ _ _ _ h => h
                  · exact fun _ _ _ _ _ _ h => h
                  · exact fun _ _ _ _ _ _ h => h
                  · exact fun _ _ _ _ _ _ h => h
                  · exact fun _ _ _ _ _ _ h => h
                · exact fun _ _ _ _ _ _ h => h
                · intro vals w8 G hgk hS hG
                  have s7 : vals 7 = .agg #[.int .u64 (P.wrd (R &&& Q) 0), .int .u64 (P.wrd (R &&& Q) 1), .int .u64 (P.wrd (R &&& Q) 2), .int .u64 (P.wrd (R &&& Q) 3)] := hS.2.2.2.2.2.2.2.1
                  have s8 : vals 8 = .agg #[.int .u64 (P.wrd 0#256 0), .int .u64 (P.wrd 0#256 1), .int .u64 (P.wrd 0#256 2), .int .u64 (P.wrd 0#256 3)] := hS.2.2.2.2.2.2.2.2.1
                  clear hS
                  have hg := Rk.grown_of hgk
                  have HF8 := Lib.hid (HF.out.on hg)
                  clear hgk hg
                  refine hG ?_
                  clear hG
                  simp only [List.take, List.drop, List.length, Nat.reduceSub, Nat.reduceAdd, Rg.putAll, Act.put, List.setIfInBounds_toArray, List.set_cons_succ, List.set_cons_zero, s7, s8]
                  clear s7 s8
                  go_wp2_with fail
                  clear hneq
                  have HWN2 := Lib.hid (HWN.out.stay HME.out)
                  go_roundw
                  case rel => exact ⟨ii + 1, Q, by go_num, by omega, HF8.out, HWN2.out⟩
                  case measure => simp [intOf]; omega
            · obtain rfl : n = ii := by omega
              have fi : decide ((n : Int) < (n : Int)) = false := decide_eq_false (by omega)
              have HWE := Lib.hid (show P.Wn g 1 Q (r + 1) 0 from by
                have h1 := HWN.out
                rw [← HN.out] at h1
                exact h1.next HR.out)
              go_wp2_with fail
              go_roundw
              case rel => exact ⟨r + 1, Q, by go_num, by omega, HF.out, HWE.out⟩
              case measure => simp [intOf]; omega
        · obtain rfl : r = n + 1 := by omega
          have fr : decide (((n + 1 : Nat) : Int) ≤ (n : Int)) = false := decide_eq_false (by omega)
          have BIg := Lib.hid (kx_box HF.out.keep BQg.out BQg.out.lt HOg.out)
          have BIh := Lib.hid (kx_box HF.out.keep BQh.out BQh.out.lt HOh.out)
          have HAR := Lib.hid (P.G.all_right HR.out (z := 1) (.inr rfl))
          have HAL := Lib.hid (show (g.all 1).owner.length = n by rw [P.G.all_len]; exact HN.out)
          have Gh := Lib.hid (show GameV wr (.agg #[.slice (some ⟨hoa, 0, none⟩) n hka, .slice (some ⟨hob, 0, none⟩) n hkb, .slice (some ⟨hoc, 0, none⟩) n hkc]) (g.all 1) by
            have h1 := HF.out.h
            rw [P.G.given_all g 1 n (by rw [HN.out]; exact Nat.le_refl _)] at h1
            exact h1.game (fits_all HFI.out 1))
          have W2 := Lib.hid (W.out.trans (kx_below HF.out.keep HX.out W.out.size (Nat.le_refl _)))
          have BQw := Lib.hid HF.out.won
          clear W
          have W := W2
          clear W2
          have HWE := Lib.hid HWN.out
          clear HWN HF
          have hbb := BIh.out
          have hc0 : wr.cell? ⟨qh, 0, none⟩ = some (.slice (some ⟨hoa, 0, none⟩) n hka) := hbb.cell 0 _ rfl
          have hc1 : wr.cell? ⟨qh, 1, none⟩ = some (.slice (some ⟨hob, 0, none⟩) n hkb) := hbb.cell 1 _ rfl
          have hc2 : wr.cell? ⟨qh, 2, none⟩ = some (.slice (some ⟨hoc, 0, none⟩) n hkc) := hbb.cell 2 _ rfl
          clear hbb
          go_wp2_with fail
          clear hc0 hc1 hc2
          refine (decomp_any (g.all 1) HAR.out n HAL.out _ wr Gh.out (T.out.on W.out)).mono ?_
          rintro e w7 ⟨Xa, Ya, cha, depa, ra0, ra1, ba0, ba1, rfl, hd, hb⟩
          obtain ⟨xa0, ka0, rfl, -⟩ := own_at hd.zero.1
          obtain ⟨xa1, ka1, rfl, -⟩ := own_at hd.one.1
          have Da := Lib.hid hd
          have Ia0 := Lib.hid hd.zero.ints
          have Ia1 := Lib.hid hd.one.ints
          replace BQw := Lib.hid (BQw.out.keep (grown_of_below hb none))
          replace W := Lib.hid (W.out.trans (hb.mono W.out.size))
          clear hb hd
          go_upto_region 36 with (fail)
          have bq : Box (w7.alloc (.cells #[.slice xa0 (P.lst Xa).length ka0, .slice xa1 (P.lst Ya).length ka1, .slice (some ⟨ba0, 0, none⟩) n n, .slice (some ⟨ba1, 0, none⟩) n n] 32)) w7.heap.size 32 #[.slice xa0 (P.lst Xa).length ka0, .slice xa1 (P.lst Ya).length ka1, .slice (some ⟨ba0, 0, none⟩) n n, .slice (some ⟨ba1, 0, none⟩) n n] := Box.new _ _ _
          have hgq := World.grownBy_alloc w7 (.cells #[.slice xa0 (P.lst Xa).length ka0, .slice xa1 (P.lst Ya).length ka1, .slice (some ⟨ba0, 0, none⟩) n n, .slice (some ⟨ba1, 0, none⟩) n n] 32) none
          replace BQw := Lib.hid (BQw.out.keep hgq)
          replace W := Lib.hid (W.out.trans ((below_of_grown hgq).mono W.out.size))
          replace Ia0 := Lib.hid (Ia0.out.on (below_of_grown hgq))
          replace Ia1 := Lib.hid (Ia1.out.on (below_of_grown hgq))
          generalize (w7.alloc (.cells #[.slice xa0 (P.lst Xa).length ka0, .slice xa1 (P.lst Ya).length ka1, .slice (some ⟨ba0, 0, none⟩) n n, .slice (some ⟨ba1, 0, none⟩) n n] 32)) = wz at bq BQw W Ia0 Ia1 ⊢
          generalize w7.heap.size = qa at bq ⊢
          have BQa := Lib.hid bq
          clear bq hgq
          have HEQ := Lib.hid (P.Wn.told HR.out HN.out (.inr rfl) HWE.out (fun i => (P.full_bits HR.out HN.out).1 i) (show P.Ap (g.alone 1) 0 (P.full (n : Int)) Xa Ya _ _ from Da.out.ap))
          have heqs : ∀ w : World, (binOp .eql 45 (.agg #[.int .u64 (P.wrd Ya 0), .int .u64 (P.wrd Ya 1), .int .u64 (P.wrd Ya 2), .int .u64 (P.wrd Ya 3)]) (.agg #[.int .u64 (P.wrd Q 0), .int .u64 (P.wrd Q 1), .int .u64 (P.wrd Q 2), .int .u64 (P.wrd Q 3)])).run Tryd.prog w = .ok (.bool true) w := fun w => by
            have h1 := HEQ.out
            simp only [if_neg (show ¬ ((1 : Int) = 0) by decide)] at h1
            rw [h1, set_eq, decide_eq_true rfl]
          refine Rt.wp_region_tail 1 (fun idx => match idx with | 0 => (fun v _ _ => v = (.int .i64 1)) | 1 => (fun v _ _ => v = (.pointer (some ⟨qa, 0, none⟩))) | 2 => (fun v _ _ => v = (.pointer (some ⟨qa, 1, none⟩))) | 3 => (fun v _ _ => v = (.slice xa1 (P.lst Ya).length ka1)) | 4 => (fun v _ _ => v = .agg #[.int .u64 (P.wrd Ya 0), .int .u64 (P.wrd Ya 1), .int .u64 (P.wrd Ya 2), .int .u64 (P.wrd Ya 3)]) | 5 => (fun v _ _ => v = .agg #[.int .u64 (P.wrd Q 0), .int .u64 (P.wrd Q 1), .int .u64 (P.wrd Q 2), .int .u64 (P.wrd Q 3)]) | 6 => (fun v _ _ => v = .bool true) | _ => fun _ _ _ => True) (fun _ _ _ _ => True) (Rk.allK) 99 (by kernel_rfl) (by rfl) (by kernel_rfl) (by rfl) ?_ ?_ ?_ ?_
          · refine ⟨?_, ?_, ?_, ?_, ?_, ?_, ?_, trivial⟩
            · intro A w' K vals h hn hT hgk hK0
              have r0 : A.tmps[1]?.getD undef = .int .i64 1 := Rg.slot h.1
              clear h hn hT hgk
              simp [Oper.wp, execOp, go_sem, r0]
              exact hK0 _ _ (Rk.Keeps.refl _ _) rfl trivial
            · intro A w' K vals h hn hT hgk hK0
              have r0 : A.tmps[19]?.getD undef = .pointer (some ⟨qa, 0, none⟩) := Rg.slot h.1
              clear h hn hT hgk
              simp [Oper.wp, execOp, go_sem, r0]
              exact hK0 _ _ (Rk.Keeps.refl _ _) rfl trivial
            · intro A w' K vals h hn hT hgk hK0
              have r0 : A.tmps[164]?.getD undef = vals 1 := Rg.slot h.1
              have s0 : vals 1 = (.pointer (some ⟨qa, 0, none⟩)) := hn.1
              have r1 : A.tmps[163]?.getD undef = vals 0 := Rg.slot h.2.1
              have s1 : vals 0 = (.int .i64 1) := hn.2.1
              clear h hn hT hgk
              simp [Oper.wp, execOp, go_sem, r0, r1, s0, s1]
              exact hK0 _ _ (Rk.Keeps.refl _ _) rfl trivial
            · intro A w' K vals h hn hT hgk hK0
              have r0 : A.tmps[165]?.getD undef = vals 2 := Rg.slot (h.1)
              have r1 : vals 2 = (.pointer (some ⟨qa, 1, none⟩)) := hn.1
              have c : w'.cell? ⟨qa, 1, none⟩ = some (.slice xa1 (P.lst Ya).length ka1) := (BQa.out.keep (Rk.grown_of hgk)).cell 1 _ rfl
              clear h hn hT hgk
              simp [Oper.wp, execOp, go_sem, r0, r1, c]
              exact hK0 _ _ (Rk.Keeps.refl _ _) rfl trivial
            · intro A w' K vals h hn hT hgk hK0
              have r0 : A.tmps[166]?.getD undef = vals 3 := Rg.slot h.2.1
              have s0 : vals 3 = (.slice xa1 (P.lst Ya).length ka1) := hn.1
              have hb := below_of_grown (Rk.grown_of hgk)
              clear h hn hT hgk
              simp [Oper.wp, go_sem, r0, s0]
              refine (of_ints (Ia1.out.on hb)).mono ?_
              rintro e w'' ⟨rfl, hb⟩
              rw [ofL_lst]
              exact hK0 _ _ (Rk.keep_of (grown_of_below hb _)) rfl trivial
            · intro A w' K vals h hn hT hgk hK0
              have r0 : A.tmps[10]?.getD undef = (.pointer (some ⟨qw, 0, none⟩)) := Rg.slot h.1
              have bs := BQw.out.keep (Rk.grown_of hgk)
              have cc0 : w'.cell? ⟨qw, 0, none⟩ = some (.int .u64 (P.wrd Q 0)) := bs.cell 0 _ rfl
              have cc1 : w'.cell? ⟨qw, 1, none⟩ = some (.int .u64 (P.wrd Q 1)) := bs.cell 1 _ rfl
              have cc2 : w'.cell? ⟨qw, 2, none⟩ = some (.int .u64 (P.wrd Q 2)) := bs.cell 2 _ rfl
              have cc3 : w'.cell? ⟨qw, 3, none⟩ = some (.int .u64 (P.wrd Q 3)) := bs.cell 3 _ rfl
              clear h hn hT hgk bs
              simp [Oper.wp, execOp, go_sem, r0, cc0, cc1, cc2, cc3]
              exact hK0 _ _ (Rk.Keeps.refl _ _) rfl trivial
            · intro A w' K vals h hn hT hgk hK0
              have r0 : A.tmps[167]?.getD undef = vals 4 := Rg.slot h.1
              have r1 : A.tmps[168]?.getD undef = vals 5 := Rg.slot h.2.1
              have s0 : vals 4 = .agg #[.int .u64 (P.wrd Ya 0), .int .u64 (P.wrd Ya 1), .int .u64 (P.wrd Ya 2), .int .u64 (P.wrd Ya 3)] := hn.1
              have s1 : vals 5 = .agg #[.int .u64 (P.wrd Q 0), .int .u64 (P.wrd Q 1), .int .u64 (P.wrd Q 2), .int .u64 (P.wrd Q 3)] := hn.2.1
              clear h hn hT hgk
              simp [Oper.wp, execOp, go_sem, r0, r1, s0, s1, heqs]
              exact hK0 _ _ (Rk.Keeps.refl _ _) rfl trivial
          · refine ⟨?_, ?_, ?_, ?_, ?_, ?_, ?_, trivial⟩
            · exact fun _ _ _ _ _ _ h => h
            · exact fun _ _ _ _ _ _ h => h
            · exact fun _ _ _ _ _ _ h => h
            · exact fun _ _ _ _ _ _ h => h
            · exact fun _ _ _ _ _ _ h => h
            · exact fun _ _ _ _ _ _ h => h
            · exact fun _ _ _ _ _ _ h => h
          · exact fun _ _ _ _ _ _ h => h
          · intro vals w8 G hgk hS hG
            have s6 : vals 6 = .bool true := hS.2.2.2.2.2.2.1
            clear hS
            have hg := Rk.grown_of hgk
            have WZ := Lib.hid (W.out.trans ((below_of_grown hg).mono W.out.size))
            clear hgk hg heqs
            refine hG ?_
            clear hG
            simp only [List.take, List.drop, List.length, Nat.reduceSub, Nat.reduceAdd, Rg.putAll, Act.put, List.setIfInBounds_toArray, List.set_cons_succ, List.set_cons_zero, s6]
            clear s6
            go_wp2_with fail
            exact bodyPost_ret (v := .bool true) (by simp [results, Tryd.results9, go_sem]) rfl ⟨rfl, WZ.out⟩
end W
end Go.Proofs.YtpjmboonaciplaaDoor
