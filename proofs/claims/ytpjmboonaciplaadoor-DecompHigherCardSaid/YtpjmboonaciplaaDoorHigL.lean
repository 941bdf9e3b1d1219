/- DecompHigher: the walk. -/
import Derived.Test.YtpjmboonaciplaaDoorShown13
import Derived.Test.YtpjmboonaciplaaDoorHigM
import Derived.Test.YtpjmboonaciplaaDoorCls
import Derived.Test.YtpjmboonaciplaaDoorKeep
import Derived.Test.YtpjmboonaciplaaDoorSam
import Derived.Test.YtpjmboonaciplaaDoorCopy
import Derived.Test.YtpjmboonaciplaaDoorAlike13
import Derived.Deep.Cut
import Derived.Lib.Hide
import Derived.Deep.QuietTactic
import Derived.BigQuiet
import Derived.StillTailTactics
namespace Go.Proofs.YtpjmboonaciplaaDoor
open Go.RowKit
namespace W

theorem prio_pos {g : P.G} (hr : g.Right) {x : Int} (hx : x ∈ g.prio) : 0 ≤ x := by
  obtain ⟨i, hi⟩ := List.mem_iff_getElem?.1 hx
  have hl := (List.getElem?_eq_some_iff.1 hi).1
  have h1 := (hr.at i (by rw [← hr.prio]; exact hl)).2.1
  have h2 : g.prio.getD i 0 = x := by rw [List.getD_eq_getElem?_getD, hi]; rfl
  omega
theorem take_in {q : Int} {l : List Int} {m : Nat} (hm : m < l.length) : decide (q ∈ l.take (m + 1)) = (decide (q ∈ l.take m) || decide (l.getD m 0 = q)) := by
  have e : l.getD m 0 = l[m] := by rw [List.getD_eq_getElem?_getD, List.getElem?_eq_getElem hm]; rfl
  rw [e, List.take_add_one, List.getElem?_eq_getElem hm, Bool.eq_iff_iff, Bool.or_eq_true, decide_eq_true_eq, decide_eq_true_eq, decide_eq_true_eq, List.mem_append]
  simp [eq_comm]

theorem ROWS.ints {w : World} {lo n : Nat} {g : P.G} {p : Int} {S : BitVec 256} {c : List Int} {r : Value} {b : Nat} (h : ROWS w lo n g p S c r b) : Ints w r (lstI S) := by
  have hl : (lstI S).length = (P.lst S).length := by unfold lstI; rw [List.length_map]
  refine OwnI.ints (lo := lo) ?_ ?_
  · unfold OwnI
    rw [hl]
    exact h.1
  · rw [hl]
    unfold P.lst
    exact Nat.le_trans (List.length_filter_le _ _) (by simp)
theorem lstI_len (S : BitVec 256) : (lstI S).length = (P.lst S).length := by unfold lstI; rw [List.length_map]
theorem lst_short (S : BitVec 256) : (P.lst S).length ≤ 256 := by unfold P.lst; exact Nat.le_trans (List.length_filter_le _ _) (by simp)
theorem off2 {hb kb q n m hk kk : Nat} (h1 : (Value.slice (some ⟨hb, 0, none⟩) n hk).ownBlock ≠ some q) (h2 : (Value.slice (some ⟨kb, 0, none⟩) m kk).ownBlock ≠ some q) : q ∉ [hb, kb] := by
  intro h
  rcases List.mem_cons.1 h with rfl | h
  · exact h1 rfl
  · exact h2 (by rw [List.mem_singleton.1 h]; rfl)
theorem getD_mem_ {l : List Int} {i : Nat} (hi : i < l.length) : l.getD i 0 ∈ l := by
  rw [List.getD_eq_getElem?_getD, List.getElem?_eq_getElem hi]
  exact List.getElem_mem hi

set_option maxRecDepth 100000 in
set_option maxHeartbeats 4000000 in
theorem high_wrong_ (g : P.G) (hok : g.ok = false) (v : Value) (w : World) (hv : GameV w v g) (hT : Tab w) : Calls Tryd.prog 5 #[v] w fun e w' => e = .returned (.bool true) ∧ Below w.heap.size w w' := by
  have hq0 : g.right.2 ≠ 0 := by unfold P.G.ok at hok; exact beq_eq_false_iff_ne.1 hok
  have HV := Lib.hid hv
  have T := Lib.hid hT
  obtain ⟨a, b, c, rfl, -⟩ := hv
  clear hok hT
  go_enter Tryd.func5, Tryd.ntmps5
  go_wp2_with fail
  have bx0 : Box (w.alloc (.cells #[a, b, c] 25)) (w.heap.size) 25 #[a, b, c] := Box.new w 25 #[a, b, c]
  have hbq : Below w.heap.size w (w.alloc (.cells #[a, b, c] 25)) := (Below.refl _ w).alloc (Nat.le_refl _) _
  have hle0 : w.heap.size ≤ w.heap.size := Nat.le_refl _
  generalize (w.alloc (.cells #[a, b, c] 25)) = w0 at bx0 hbq  ⊢
  have BQg := Lib.hid bx0
  have W := Lib.hid hbq
  have LEg := Lib.hid hle0
  clear hbq hle0 bx0 
  obtain ⟨qg, hqg⟩ : ∃ qg, w.heap.size = qg := ⟨_, rfl⟩
  rw [hqg] at BQg ⊢
  have LEg : Hid (w.heap.size ≤ qg) := Lib.hid (by omega)
  clear hqg
  refine (shown_any w0 (T.out.on W.out)).mono ?_
  rintro e w1 ⟨rfl, hb⟩
  replace BQg := Lib.hid (BQg.out.keep (grown_of_below hb none))
  replace W := Lib.hid (W.out.trans (hb.mono W.out.size))
  clear hb
  have hbb := BQg.out
  have gc0 : w1.cell? ⟨qg, 0, none⟩ = some a := hbb.cell 0 _ rfl
  have gc1 : w1.cell? ⟨qg, 1, none⟩ = some b := hbb.cell 1 _ rfl
  have gc2 : w1.cell? ⟨qg, 2, none⟩ = some c := hbb.cell 2 _ rfl
  clear hbb
  go_wp2_with fail
  clear gc0 gc1 gc2
  refine (right_any g _ _ (HV.out.on W.out)).mono ?_
  rintro e w2 ⟨rfl, hb⟩
  replace BQg := Lib.hid (BQg.out.keep (grown_of_below hb none))
  replace W := Lib.hid (W.out.trans (hb.mono W.out.size))
  clear hb
  obtain ⟨z, hz⟩ : ∃ z, g.right.2 = z := ⟨_, rfl⟩
  rw [hz] at hq0 ⊢
  have fq : (((z : Nat) : Int) != 0) = true := by rw [bne_iff_ne]; omega
  clear hz hq0
  go_wp2_with fail
  exact bodyPost_ret (v := .bool true) (by simp [results, Tryd.results5, go_sem]) rfl ⟨rfl, W.out⟩

set_option maxRecDepth 100000 in
set_option maxHeartbeats 8000000 in
theorem high_right_ (g : P.G) (hr : g.Right) (v : Value) (w : World) (hv : GameV w v g) (hT : Tab w) : Calls Tryd.prog 5 #[v] w fun e w' => e = .returned (.bool true) ∧ Below w.heap.size w w' := by
  have hq0 : g.right.2 = 0 := by have hok := (P.G.ok_iff g).2 hr; unfold P.G.ok at hok; exact beq_iff_eq.1 hok
  have HV := Lib.hid hv
  have HFI := Lib.hid hv.fits
  have T := Lib.hid hT
  have HR := Lib.hid hr
  obtain ⟨n, hn⟩ : ∃ n, g.owner.length = n := ⟨_, rfl⟩
  have hop := hr.prio
  have hmp := hr.moves
  have hmany := hr.many
  have h0 := hr.pos
  rw [hn] at hop hmp hmany h0
  obtain ⟨ba, oa, ka, bb, ob, kb, bc_, oc, kc, rfl, hco, hcb, hcr⟩ := hv.open_ hn hop hmp h0
  have HCO := Lib.hid hco
  have HCB := Lib.hid hcb
  have HCR := Lib.hid hcr
  clear hco hcb hcr
  have HN := Lib.hid hn
  have HPN := Lib.hid hop
  have HMN := Lib.hid hmp
  clear hr hn hop hmp hv hT 
  go_enter Tryd.func5, Tryd.ntmps5
  go_wp2_with fail
  have bx0 : Box (w.alloc (.cells #[.slice (some ⟨ba, oa, none⟩) n ka, .slice (some ⟨bb, ob, none⟩) n kb, .slice (some ⟨bc_, oc, none⟩) n kc] 25)) (w.heap.size) 25 #[.slice (some ⟨ba, oa, none⟩) n ka, .slice (some ⟨bb, ob, none⟩) n kb, .slice (some ⟨bc_, oc, none⟩) n kc] := Box.new w 25 #[.slice (some ⟨ba, oa, none⟩) n ka, .slice (some ⟨bb, ob, none⟩) n kb, .slice (some ⟨bc_, oc, none⟩) n kc]
  have hbq : Below w.heap.size w (w.alloc (.cells #[.slice (some ⟨ba, oa, none⟩) n ka, .slice (some ⟨bb, ob, none⟩) n kb, .slice (some ⟨bc_, oc, none⟩) n kc] 25)) := (Below.refl _ w).alloc (Nat.le_refl _) _
  have hle0 : w.heap.size ≤ w.heap.size := Nat.le_refl _
  generalize (w.alloc (.cells #[.slice (some ⟨ba, oa, none⟩) n ka, .slice (some ⟨bb, ob, none⟩) n kb, .slice (some ⟨bc_, oc, none⟩) n kc] 25)) = w0 at bx0 hbq  ⊢
  have BQg := Lib.hid bx0
  have W := Lib.hid hbq
  have LEg := Lib.hid hle0
  clear hbq hle0 bx0 
  obtain ⟨qg, hqg⟩ : ∃ qg, w.heap.size = qg := ⟨_, rfl⟩
  rw [hqg] at BQg ⊢
  have LEg : Hid (w.heap.size ≤ qg) := Lib.hid (by omega)
  clear hqg
  refine (shown_any w0 (T.out.on W.out)).mono ?_
  rintro e w1 ⟨rfl, hb⟩
  replace BQg := Lib.hid (BQg.out.keep (grown_of_below hb none))
  replace W := Lib.hid (W.out.trans (hb.mono W.out.size))
  clear hb
  have hbb := BQg.out
  have gc0 : w1.cell? ⟨qg, 0, none⟩ = some (.slice (some ⟨ba, oa, none⟩) n ka) := hbb.cell 0 _ rfl
  have gc1 : w1.cell? ⟨qg, 1, none⟩ = some (.slice (some ⟨bb, ob, none⟩) n kb) := hbb.cell 1 _ rfl
  have gc2 : w1.cell? ⟨qg, 2, none⟩ = some (.slice (some ⟨bc_, oc, none⟩) n kc) := hbb.cell 2 _ rfl
  clear hbb
  go_wp2_with fail
  clear gc0 gc1 gc2
  refine (right_any g _ _ (HV.out.on W.out)).mono ?_
  rintro e w2 ⟨rfl, hb⟩
  replace BQg := Lib.hid (BQg.out.keep (grown_of_below hb none))
  replace W := Lib.hid (W.out.trans (hb.mono W.out.size))
  clear hb
  obtain ⟨z, hz⟩ : ∃ z, g.right.2 = z := ⟨_, rfl⟩
  rw [hz] at hq0 ⊢
  have fq : (((z : Nat) : Int) != 0) = false := by rw [bne_eq_false_iff_eq]; omega
  clear hz hq0
  have hbb := BQg.out
  have gc0 : w2.cell? ⟨qg, 0, none⟩ = some (.slice (some ⟨ba, oa, none⟩) n ka) := hbb.cell 0 _ rfl
  have gc1 : w2.cell? ⟨qg, 1, none⟩ = some (.slice (some ⟨bb, ob, none⟩) n kb) := hbb.cell 1 _ rfl
  have gc2 : w2.cell? ⟨qg, 2, none⟩ = some (.slice (some ⟨bc_, oc, none⟩) n kc) := hbb.cell 2 _ rfl
  clear hbb
  go_wp2_with fail
  clear gc0 gc1 gc2
  have HLC := Lib.hid (show w.heap.size ≤ w2.heap.size from W.out.size)
  obtain ⟨wc, hwc⟩ : ∃ wc, wc = w2 := ⟨_, rfl⟩
  rw [← hwc] at HLC BQg W ⊢
  clear hwc
  refine (copy_any g _ _ (HV.out.on W.out)).mono ?_
  rintro e w5 ⟨oav, obv, ocv, hL, rfl, ho, hb⟩
  obtain ⟨hoa, hka, rfl, -⟩ := own_form ho.owner (by rw [HN.out]; exact h0)
  obtain ⟨hob, hkb, rfl, -⟩ := own_form ho.prio (by rw [HPN.out]; exact h0)
  obtain ⟨hoc, hkc, rfl, -⟩ := own_form ho.head (by rw [HMN.out]; exact h0)
  rw [HN.out, HPN.out, HMN.out] at ho ⊢
  simp only []
  replace BQg := Lib.hid (BQg.out.keep (grown_of_below hb none))
  replace W := Lib.hid (W.out.trans (hb.mono W.out.size))
  have Oh := Lib.hid ho
  clear hb ho
  go_upto_region 6 with (fail)
  have bq : Box (w5.alloc (.cells #[.slice (some ⟨hoa, 0, none⟩) n hka, .slice (some ⟨hob, 0, none⟩) n hkb, .slice (some ⟨hoc, 0, none⟩) n hkc] 25)) w5.heap.size 25 #[.slice (some ⟨hoa, 0, none⟩) n hka, .slice (some ⟨hob, 0, none⟩) n hkb, .slice (some ⟨hoc, 0, none⟩) n hkc] := Box.new _ _ _
  have hgq := World.grownBy_alloc w5 (.cells #[.slice (some ⟨hoa, 0, none⟩) n hka, .slice (some ⟨hob, 0, none⟩) n hkb, .slice (some ⟨hoc, 0, none⟩) n hkc] 25) none
  replace BQg := Lib.hid (BQg.out.keep hgq)
  replace W := Lib.hid (W.out.trans ((below_of_grown hgq).mono W.out.size))
  replace Oh := Lib.hid (Oh.out.grown hgq)
  generalize (w5.alloc (.cells #[.slice (some ⟨hoa, 0, none⟩) n hka, .slice (some ⟨hob, 0, none⟩) n hkb, .slice (some ⟨hoc, 0, none⟩) n hkc] 25)) = wd at bq BQg W Oh ⊢
  generalize w5.heap.size = qh at bq ⊢
  have BQh := Lib.hid bq
  clear bq hgq
  have HLD := Lib.hid (show w.heap.size ≤ wd.heap.size from W.out.size)
  have HUN := Lib.hid Oh.out.under
  have hbb := BQg.out
  have gc0 : wd.cell? ⟨qg, 0, none⟩ = some (.slice (some ⟨ba, oa, none⟩) n ka) := hbb.cell 0 _ rfl
  have gc1 : wd.cell? ⟨qg, 1, none⟩ = some (.slice (some ⟨bb, ob, none⟩) n kb) := hbb.cell 1 _ rfl
  have gc2 : wd.cell? ⟨qg, 2, none⟩ = some (.slice (some ⟨bc_, oc, none⟩) n kc) := hbb.cell 2 _ rfl
  clear hbb
  go_wp2_with fail
  clear gc0 gc1 gc2
  refine (copy_any g _ _ (HV.out.on W.out)).mono ?_
  rintro e w6 ⟨oav, obv, ocv, kL, rfl, ho, hb⟩
  obtain ⟨koa, kka, rfl, -⟩ := own_form ho.owner (by rw [HN.out]; exact h0)
  obtain ⟨kob, kkb, rfl, -⟩ := own_form ho.prio (by rw [HPN.out]; exact h0)
  obtain ⟨koc, kkc, rfl, -⟩ := own_form ho.head (by rw [HMN.out]; exact h0)
  rw [HN.out, HPN.out, HMN.out] at ho ⊢
  simp only []
  replace BQg := Lib.hid (BQg.out.keep (grown_of_below hb none))
  replace W := Lib.hid (W.out.trans (hb.mono W.out.size))
  replace BQh := Lib.hid (BQh.out.keep (grown_of_below hb none))
  replace Oh := Lib.hid (Oh.out.grown (grown_of_below hb none))
  have Ok := Lib.hid ho
  clear hb ho
  go_upto_region 7 with (fail)
  have bq : Box (w6.alloc (.cells #[.slice (some ⟨koa, 0, none⟩) n kka, .slice (some ⟨kob, 0, none⟩) n kkb, .slice (some ⟨koc, 0, none⟩) n kkc] 25)) w6.heap.size 25 #[.slice (some ⟨koa, 0, none⟩) n kka, .slice (some ⟨kob, 0, none⟩) n kkb, .slice (some ⟨koc, 0, none⟩) n kkc] := Box.new _ _ _
  have hgq := World.grownBy_alloc w6 (.cells #[.slice (some ⟨koa, 0, none⟩) n kka, .slice (some ⟨kob, 0, none⟩) n kkb, .slice (some ⟨koc, 0, none⟩) n kkc] 25) none
  replace BQg := Lib.hid (BQg.out.keep hgq)
  replace W := Lib.hid (W.out.trans ((below_of_grown hgq).mono W.out.size))
  replace BQh := Lib.hid (BQh.out.keep hgq)
  replace Oh := Lib.hid (Oh.out.grown hgq)
  replace Ok := Lib.hid (Ok.out.grown hgq)
  generalize (w6.alloc (.cells #[.slice (some ⟨koa, 0, none⟩) n kka, .slice (some ⟨kob, 0, none⟩) n kkb, .slice (some ⟨koc, 0, none⟩) n kkc] 25)) = we at bq BQg W BQh Oh Ok ⊢
  generalize w6.heap.size = qk at bq ⊢
  have BQk := Lib.hid bq
  clear bq hgq
  have HX := Lib.hid (show ∀ x ∈ [hob, kob], w.heap.size ≤ x by
    intro x hx
    have h1 := HLC.out
    have h2 := HLD.out
    have h3 := (own_lt Oh.out.prio hob rfl).1
    have h4 := (own_lt Ok.out.prio kob rfl).1
    rcases List.mem_cons.1 hx with rfl | hx
    · omega
    · rw [List.mem_singleton.1 hx]; omega)
  have HOg := Lib.hid (off2 (own_box Oh.out.prio BQg.out (by decide)) (own_box Ok.out.prio BQg.out (by decide)))
  have HOh := Lib.hid (off2 (own_box Oh.out.prio BQh.out (by decide)) (own_box Ok.out.prio BQh.out (by decide)))
  have HOk := Lib.hid (off2 (own_box Oh.out.prio BQk.out (by decide)) (own_box Ok.out.prio BQk.out (by decide)))
  have HS := Lib.hid (show HiS we wc.heap.size wd.heap.size hob kob n hkb kkb (.slice (some ⟨hoa, 0, none⟩) n hka) (.slice (some ⟨hoc, 0, none⟩) n hkc) (.slice (some ⟨koa, 0, none⟩) n kka) (.slice (some ⟨koc, 0, none⟩) n kkc) hL kL g (fun z => z + 2) (P.fit g.prio) 0 0 we from ⟨Rk.Keeps.refl _ _, by rw [hiG_start HPN.out]; exact Oh.out, by rw [hiG_start HPN.out]; exact Ok.out, HUN.out⟩)
  have hi0 : (0 : Int) = highP g 0 := rfl
  go_wp2_with fail
  go_loopw [8, 9] (fun hv iv wq => ∃ k : Nat, hv = .int .i64 (highP g k) ∧ iv = .int .i64 (k : Int) ∧ k ≤ n ∧ HiS we wc.heap.size wd.heap.size hob kob n hkb kkb (.slice (some ⟨hoa, 0, none⟩) n hka) (.slice (some ⟨hoc, 0, none⟩) n hkc) (.slice (some ⟨koa, 0, none⟩) n kka) (.slice (some ⟨koc, 0, none⟩) n kkc) hL kL g (fun z => z + 2) (P.fit g.prio) k k wq) (fun _ iv _ => n - (intOf iv).toNat)
  case atStart => exact ⟨0, rfl, rfl, Nat.zero_le _, HS.out⟩
  case round =>
    obtain ⟨k, rfl, rfl, hkn, hfr⟩ := hrel
    have HF := Lib.hid hfr
    clear hfr hi0
    have BRg := Lib.hid (kx_box HF.out.keep BQg.out BQg.out.lt HOg.out)
    have BRh := Lib.hid (kx_box HF.out.keep BQh.out BQh.out.lt HOh.out)
    have BRk := Lib.hid (kx_box HF.out.keep BQk.out BQk.out.lt HOk.out)
    have WR := Lib.hid (W.out.trans (kx_below HF.out.keep HX.out W.out.size (Nat.le_refl _)))
    have hbb := BRg.out
    have gc0 : wr.cell? ⟨qg, 0, none⟩ = some (.slice (some ⟨ba, oa, none⟩) n ka) := hbb.cell 0 _ rfl
    have gc1 : wr.cell? ⟨qg, 1, none⟩ = some (.slice (some ⟨bb, ob, none⟩) n kb) := hbb.cell 1 _ rfl
    have gc2 : wr.cell? ⟨qg, 2, none⟩ = some (.slice (some ⟨bc_, oc, none⟩) n kc) := hbb.cell 2 _ rfl
    clear hbb
    by_cases hlt : k < n
    · replace hkn := hlt
      clear hlt
      have hki : (k : Int) < (n : Int) := by omega
      have hk0 : (0 : Int) ≤ (k : Int) := by omega
      have fk : decide ((k : Int) < (n : Int)) = true := decide_eq_true hki
      obtain ⟨pk, hpk⟩ : ∃ pk, g.prio.getD k 0 = pk := ⟨_, rfl⟩
      have hpb := (HR.out.at k (by rw [HN.out]; exact hkn)).2
      have hpb0 := hpb.1
      have hpb7 := hpb.2.1
      rw [hpk] at hpb0 hpb7
      have hpw : IntKind.i64.wrap (pk + 2) = pk + 2 := by rw [IntKind.wrap_i64]; omega
      have HCP := Lib.hid (HCB.out wr WR.out k hkn)
      rw [hpk] at HCP
      have HPK := Lib.hid hpk
      have hhb := highP_bounds HR.out k (by rw [HN.out]; omega)
      obtain ⟨hgk_, hhg⟩ : ∃ x, highP g k = x := ⟨_, rfl⟩
      rw [hhg] at hhb ⊢
      have HHG := Lib.hid hhg
      obtain ⟨hh0, hh9⟩ := hhb
      clear hpb hpk hhg
      go_upto_region 11 with (fail)
      clear gc0 gc1 gc2
      refine Rt.wp_region_tail 1 (fun idx => match idx with | 0 => (fun v _ _ => v = (.pointer (some ⟨qh, 1, none⟩))) | 1 => (fun v _ _ => v = (.slice (some ⟨hob, 0, none⟩) n hkb)) | 2 => (fun v _ _ => v = (.int .i64 (k : Int))) | 3 => (fun v _ _ => v = (.pointer (some ⟨qg, 1, none⟩))) | 4 => (fun v _ _ => v = (.slice (some ⟨bb, ob, none⟩) n kb)) | 5 => (fun v _ _ => v = (.int .i64 (k : Int))) | 6 => (fun v _ _ => v = (.pointer (some ⟨bb, ob + k, none⟩))) | 7 => (fun v _ _ => v = (.int .i64 pk)) | 8 => (fun v _ _ => v = (.int .i64 (pk + 2))) | 9 => (fun v _ _ => v = (.pointer (some ⟨hob, k, none⟩))) | _ => fun _ _ _ => True) (fun _ _ _ _ => True) (Rk.allK) 99 (by kernel_rfl) (by rfl) (by kernel_rfl) (by rfl) ?_ ?_ ?_ ?_
      · refine ⟨?_, ?_, ?_, ?_, ?_, ?_, ?_, ?_, ?_, ?_, trivial⟩
        · intro A w' K vals h hn hT hgk hK0
          have r0 : A.tmps[6]?.getD undef = .pointer (some ⟨qh, 0, none⟩) := Rg.slot h.1
          clear h hn hT hgk
          simp [Oper.wp, execOp, go_sem, r0]
          exact hK0 _ _ (Rk.Keeps.refl _ _) rfl trivial
        · intro A w' K vals h hn hT hgk hK0
          have r0 : A.tmps[44]?.getD undef = vals 0 := Rg.slot (h.1)
          have r1 : vals 0 = (.pointer (some ⟨qh, 1, none⟩)) := hn.1
          have hbx := BRh.out.keep (Rk.grown_of hgk)
          have c0 : w'.cell? ⟨qh, 1, none⟩ = some (.slice (some ⟨hob, 0, none⟩) n hkb) := hbx.cell 1 _ rfl
          clear h hn hT hgk hbx
          simp [Oper.wp, execOp, go_sem, r0, r1, c0]
          exact hK0 _ _ (Rk.Keeps.refl _ _) rfl trivial
        · intro A w' K vals h hn hT hgk hK0
          have r0 : A.tmps[9]?.getD undef = .int .i64 (k : Int) := Rg.slot h.1
          clear h hn hT hgk
          simp [Oper.wp, execOp, go_sem, r0]
          exact hK0 _ _ (Rk.Keeps.refl _ _) rfl trivial
        · intro A w' K vals h hn hT hgk hK0
          have r0 : A.tmps[1]?.getD undef = .pointer (some ⟨qg, 0, none⟩) := Rg.slot h.1
          clear h hn hT hgk
          simp [Oper.wp, execOp, go_sem, r0]
          exact hK0 _ _ (Rk.Keeps.refl _ _) rfl trivial
        · intro A w' K vals h hn hT hgk hK0
          have r0 : A.tmps[47]?.getD undef = vals 3 := Rg.slot (h.1)
          have r1 : vals 3 = (.pointer (some ⟨qg, 1, none⟩)) := hn.1
          have hbx := BRg.out.keep (Rk.grown_of hgk)
          have c0 : w'.cell? ⟨qg, 1, none⟩ = some (.slice (some ⟨bb, ob, none⟩) n kb) := hbx.cell 1 _ rfl
          clear h hn hT hgk hbx
          simp [Oper.wp, execOp, go_sem, r0, r1, c0]
          exact hK0 _ _ (Rk.Keeps.refl _ _) rfl trivial
        · intro A w' K vals h hn hT hgk hK0
          have r0 : A.tmps[9]?.getD undef = .int .i64 (k : Int) := Rg.slot h.1
          clear h hn hT hgk
          simp [Oper.wp, execOp, go_sem, r0]
          exact hK0 _ _ (Rk.Keeps.refl _ _) rfl trivial
        · intro A w' K vals h hn hT hgk hK0
          have r0 : A.tmps[48]?.getD undef = vals 4 := Rg.slot h.1
          have s0 : vals 4 = (.slice (some ⟨bb, ob, none⟩) n kb) := hn.1
          have r1 : A.tmps[49]?.getD undef = vals 5 := Rg.slot h.2.1
          have s1 : vals 5 = (.int .i64 (k : Int)) := hn.2.1
          clear h hn hT hgk
          simp [Oper.wp, execOp, go_sem, r0, r1, s0, s1, hki, hk0]
          exact hK0 _ _ (Rk.Keeps.refl _ _) rfl trivial
        · intro A w' K vals h hn hT hgk hK0
          have r0 : A.tmps[50]?.getD undef = vals 6 := Rg.slot (h.1)
          have r1 : vals 6 = (.pointer (some ⟨bb, ob + k, none⟩)) := hn.1
          have c : w'.cell? ⟨bb, ob + k, none⟩ = some (.int .i64 pk) := (Rk.grown_of hgk).cell HCP.out (by simp)
          clear h hn hT hgk
          simp [Oper.wp, execOp, go_sem, r0, r1, c]
          exact hK0 _ _ (Rk.Keeps.refl _ _) rfl trivial
        · intro A w' K vals h hn hT hgk hK0
          have r0 : A.tmps[51]?.getD undef = vals 7 := Rg.slot h.1
          have s0 : vals 7 = (.int .i64 pk) := hn.1
          clear h hn hT hgk
          simp [Oper.wp, execOp, go_sem, r0, s0, hpw]
          exact hK0 _ _ (Rk.Keeps.refl _ _) rfl trivial
        · intro A w' K vals h hn hT hgk hK0
          have r0 : A.tmps[45]?.getD undef = vals 1 := Rg.slot h.1
          have s0 : vals 1 = (.slice (some ⟨hob, 0, none⟩) n hkb) := hn.1
          have r1 : A.tmps[46]?.getD undef = vals 2 := Rg.slot h.2.1
          have s1 : vals 2 = (.int .i64 (k : Int)) := hn.2.1
          clear h hn hT hgk
          simp [Oper.wp, execOp, go_sem, r0, r1, s0, s1, hki, hk0]
          exact hK0 _ _ (Rk.Keeps.refl _ _) rfl trivial
      · refine ⟨?_, ?_, ?_, ?_, ?_, ?_, ?_, ?_, ?_, ?_, trivial⟩
        · exact fun _ _ _ _ _ _ h => h
        · exact fun _ _ _ _ _ _ h => h
        · exact fun _ _ _ _ _ _ h => h
        · exact fun _ _ _ _ _ _ h => h
        · exact fun _ _ _ _ _ _ h => h
        · exact fun _ _ _ _ _ _ h => h
        · exact fun _ _ _ _ _ _ h => h
        · exact fun _ _ _ _ _ _ h => h
        · exact fun _ _ _ _ _ _ h => h
        · exact fun _ _ _ _ _ _ h => h
      · exact fun _ _ _ _ _ _ h => h
      · intro vals w8 G hgk hS hG
        have s8 : vals 8 = .int .i64 (pk + 2) := hS.2.2.2.2.2.2.2.2.1
        have s9 : vals 9 = .pointer (some ⟨hob, k, none⟩) := hS.2.2.2.2.2.2.2.2.2.1
        clear hS
        have hg := Rk.grown_of hgk
        have hf8 := HF.out.on hg
        obtain ⟨hcu, hcf⟩ := prio_cell hf8.h hkn
        have HR9 := Lib.hid (hf8.putH h0 (z := pk + 2) (by rw [← HPK.out]))
        clear hgk hf8 hg
        refine hG ?_
        clear hG
        simp only [List.take, List.drop, List.length, Nat.reduceSub, Nat.reduceAdd, Rg.putAll, Act.put, List.setIfInBounds_toArray, List.set_cons_succ, List.set_cons_zero, s8, s9]
        clear s8 s9
        go_upto_region 12 with (fail)
        clear hcu hcf
        generalize (w8.setCell ⟨hob, k, none⟩ (.int .i64 (pk + 2))) = w9 at HR9 ⊢
        have BSg := Lib.hid (kx_box HR9.out.keep BQg.out BQg.out.lt HOg.out)
        have BSh := Lib.hid (kx_box HR9.out.keep BQh.out BQh.out.lt HOh.out)
        have BSk := Lib.hid (kx_box HR9.out.keep BQk.out BQk.out.lt HOk.out)
        have WS := Lib.hid (W.out.trans (kx_below HR9.out.keep HX.out W.out.size (Nat.le_refl _)))
        have hcp := HCB.out w9 WS.out k hkn
        rw [HPK.out] at hcp
        have hch := (prio_cell HR9.out.h hkn).1
        rw [pt_at, HPK.out] at hch
        have hbb := BSg.out
        have gc0 : w9.cell? ⟨qg, 0, none⟩ = some (.slice (some ⟨ba, oa, none⟩) n ka) := hbb.cell 0 _ rfl
        have gc1 : w9.cell? ⟨qg, 1, none⟩ = some (.slice (some ⟨bb, ob, none⟩) n kb) := hbb.cell 1 _ rfl
        have gc2 : w9.cell? ⟨qg, 2, none⟩ = some (.slice (some ⟨bc_, oc, none⟩) n kc) := hbb.cell 2 _ rfl
        clear hbb
        have hbb := BSh.out
        have hc0 : w9.cell? ⟨qh, 0, none⟩ = some (.slice (some ⟨hoa, 0, none⟩) n hka) := hbb.cell 0 _ rfl
        have hc1 : w9.cell? ⟨qh, 1, none⟩ = some (.slice (some ⟨hob, 0, none⟩) n hkb) := hbb.cell 1 _ rfl
        have hc2 : w9.cell? ⟨qh, 2, none⟩ = some (.slice (some ⟨hoc, 0, none⟩) n hkc) := hbb.cell 2 _ rfl
        clear hbb
        go_upto_region 15 with (fail)
        clear hch hc0 hc1 hc2
        · have hmx := h
          clear h
          have HHN := Lib.hid (show highP g (k + 1) = pk + 2 by unfold highP; rw [HHG.out, HPK.out, if_pos hmx])
          clear hmx
          go_loopw [10, 11] (fun lv qv wq => ∃ q : Nat, lv = .int .i64 (P.climb g.prio q) ∧ qv = .int .i64 (q : Int) ∧ (q : Int) ≤ pk ∧ wq = w9) (fun _ qv _ => pk.toNat - (intOf qv).toNat)
          case atStart => exact ⟨0, rfl, rfl, hpb0, rfl⟩
          case round =>
            obtain ⟨q, rfl, rfl, hq, hw⟩ := hrel
            rw [hw]
            clear hw
            have hcb := P.climb_bounds g.prio q
            obtain ⟨c, hc⟩ : ∃ c, P.climb g.prio q = c := ⟨_, rfl⟩
            rw [hc] at hcb ⊢
            have hcb0 := hcb.1
            have hcb1 : c ≤ 7 := by omega
            have HC := Lib.hid hc
            have hct : Int.tmod c 2 = c % 2 := Int.tmod_eq_emod_of_nonneg hcb0
            have hqt : Int.tmod (q : Int) 2 = (q : Int) % 2 := Int.tmod_eq_emod_of_nonneg (Int.natCast_nonneg _)
            obtain ⟨c2, hc2⟩ : ∃ c2, c % 2 = c2 := ⟨_, rfl⟩
            obtain ⟨q2, hq2⟩ : ∃ q2, (q : Int) % 2 = q2 := ⟨_, rfl⟩
            rw [hc2] at hct
            rw [hq2] at hqt
            have HC2 := Lib.hid hc2
            have HQ2 := Lib.hid hq2
            clear hcb hc hc2 hq2
            by_cases hqp : (q : Int) < pk
            · have fq : decide ((q : Int) < pk) = true := decide_eq_true hqp
              have hq0 : (0 : Int) ≤ (q : Int) := Int.natCast_nonneg _
              go_wp2_with fail
              go_loopw [12, 13] (fun iv mv wq => ∃ m : Nat, iv = .bool (decide ((q : Int) ∈ g.prio.take m)) ∧ mv = .int .i64 (m : Int) ∧ m ≤ n ∧ wq = w9) (fun _ mv _ => n - (intOf mv).toNat)
              case atStart => exact ⟨0, by simp, rfl, Nat.zero_le _, rfl⟩
              case round =>
                obtain ⟨m, rfl, rfl, hm, hw⟩ := hrel
                rw [hw]
                clear hw
                obtain ⟨t, ht⟩ : ∃ t, decide ((q : Int) ∈ g.prio.take m) = t := ⟨_, rfl⟩
                rw [ht]
                have HT := Lib.hid ht
                clear ht
                by_cases hmn : m < n
                · have fm : decide ((m : Int) < (n : Int)) = true := decide_eq_true (by omega)
                  have hcm := HCB.out w9 WS.out m hmn
                  obtain ⟨zm, hzm⟩ : ∃ zm, g.prio.getD m 0 = zm := ⟨_, rfl⟩
                  rw [hzm] at hcm
                  have HTN := Lib.hid (show decide ((q : Int) ∈ g.prio.take (m + 1)) = (t || decide (zm = (q : Int))) by rw [← HT.out, ← hzm]; exact take_in (by rw [HPN.out]; exact hmn))
                  clear hzm
                  cases t
                  · by_cases e : zm = (q : Int)
                    · have fe : (zm == (q : Int)) = true := by rw [beq_iff_eq]; exact e
                      replace HTN := Lib.hid (HTN.out.trans (by rw [decide_eq_true e]; rfl : (false || decide (zm = (q : Int))) = true))
                      clear e
                      go_wp2_with fail
                      go_roundw
                      case rel => exact ⟨m + 1, by rw [HTN.out], by go_num, by omega, by first | trivial | rfl⟩
                      case measure => simp [intOf]; omega
                    · have fe : (zm == (q : Int)) = false := by rw [beq_eq_false_iff_ne]; exact e
                      replace HTN := Lib.hid (HTN.out.trans (by rw [decide_eq_false e]; rfl : (false || decide (zm = (q : Int))) = false))
                      clear e
                      go_wp2_with fail
                      go_roundw
                      case rel => exact ⟨m + 1, by rw [HTN.out], by go_num, by omega, by first | trivial | rfl⟩
                      case measure => simp [intOf]; omega
                  · replace HTN := Lib.hid (HTN.out.trans (Bool.true_or _))
                    go_wp2_with fail
                    go_roundw
                    case rel => exact ⟨m + 1, by rw [HTN.out], by go_num, by omega, by first | trivial | rfl⟩
                    case measure => simp [intOf]; omega
                · have fm : decide ((m : Int) < (n : Int)) = false := decide_eq_false (by omega)
                  have HTS := Lib.hid (show decide ((q : Int) ∈ g.prio) = t by rw [← HT.out, List.take_of_length_le (by rw [HPN.out]; omega)])
                  cases t
                  · have HCN := Lib.hid (show P.climb g.prio (q + 1) = c by
                      show (if decide ((q : Int) ∈ g.prio) = true ∧ P.climb g.prio q % 2 ≠ (q : Int) % 2 then _ else P.climb g.prio q) = c
                      rw [HTS.out, if_neg (fun h => Bool.false_ne_true h.1), HC.out])
                    go_wp2_with fail
                    go_roundw
                    case rel => exact ⟨q + 1, by rw [HCN.out], by go_num, by omega, by first | trivial | rfl⟩
                    case measure => simp [intOf]; omega
                  · by_cases e : c2 = q2
                    · have fe : (c2 != q2) = false := by rw [bne_eq_false_iff_eq]; exact e
                      have HCN := Lib.hid (show P.climb g.prio (q + 1) = c by
                        show (if decide ((q : Int) ∈ g.prio) = true ∧ P.climb g.prio q % 2 ≠ (q : Int) % 2 then _ else P.climb g.prio q) = c
                        rw [HC.out, HC2.out, HQ2.out, if_neg (fun h => h.2 e)])
                      clear e
                      go_wp2_with fail
                      go_roundw
                      case rel => exact ⟨q + 1, by rw [HCN.out], by go_num, by omega, by first | trivial | rfl⟩
                      case measure => simp [intOf]; omega
                    · have fe : (c2 != q2) = true := by rw [bne_iff_ne]; exact e
                      have HCN := Lib.hid (show P.climb g.prio (q + 1) = c + 1 by
                        show (if decide ((q : Int) ∈ g.prio) = true ∧ P.climb g.prio q % 2 ≠ (q : Int) % 2 then P.climb g.prio q + 1 else _) = c + 1
                        rw [HC.out, HC2.out, HQ2.out, if_pos ⟨HTS.out, e⟩])
                      clear e
                      go_wp2_with fail
                      go_roundw
                      case rel => exact ⟨q + 1, by rw [HCN.out], by go_num, by omega, by first | trivial | rfl⟩
                      case measure => simp [intOf]; omega
            · have fq : decide ((q : Int) < pk) = false := decide_eq_false hqp
              have hqe : (q : Int) = pk := by omega
              have HFT := Lib.hid (show P.fit g.prio pk = if c2 ≠ q2 then c + 1 else c by
                unfold P.fit
                rw [← hqe, Int.toNat_natCast, HC.out, HC2.out, HQ2.out])
              have hpt : Int.tmod pk 2 = q2 := by rw [← hqe]; exact hqt
              clear hqe hqp
              by_cases e : c2 = q2
              · have fe : (c2 != q2) = false := by rw [bne_eq_false_iff_eq]; exact e
                replace HFT := Lib.hid (HFT.out.trans (if_neg (fun h => h e)))
                clear e
                obtain ⟨hku, hkf⟩ := prio_cell HR9.out.k hkn
                have hbb := BSk.out
                have kc0 : w9.cell? ⟨qk, 0, none⟩ = some (.slice (some ⟨koa, 0, none⟩) n kka) := hbb.cell 0 _ rfl
                have kc1 : w9.cell? ⟨qk, 1, none⟩ = some (.slice (some ⟨kob, 0, none⟩) n kkb) := hbb.cell 1 _ rfl
                have kc2 : w9.cell? ⟨qk, 2, none⟩ = some (.slice (some ⟨koc, 0, none⟩) n kkc) := hbb.cell 2 _ rfl
                clear hbb
                have HRN := Lib.hid (HR9.out.putK h0 (z := c) (by rw [HPK.out, HFT.out]))
                go_wp2_with fail
                clear hku hkf kc0 kc1 kc2
                go_roundw
                case rel => exact ⟨k + 1, by rw [HHN.out], by go_num, by omega, HRN.out⟩
                case measure => simp [intOf]; omega
              · have fe : (c2 != q2) = true := by rw [bne_iff_ne]; exact e
                replace HFT := Lib.hid (HFT.out.trans (if_pos e))
                clear e
                obtain ⟨hku, hkf⟩ := prio_cell HR9.out.k hkn
                have hbb := BSk.out
                have kc0 : w9.cell? ⟨qk, 0, none⟩ = some (.slice (some ⟨koa, 0, none⟩) n kka) := hbb.cell 0 _ rfl
                have kc1 : w9.cell? ⟨qk, 1, none⟩ = some (.slice (some ⟨kob, 0, none⟩) n kkb) := hbb.cell 1 _ rfl
                have kc2 : w9.cell? ⟨qk, 2, none⟩ = some (.slice (some ⟨koc, 0, none⟩) n kkc) := hbb.cell 2 _ rfl
                clear hbb
                have HRN := Lib.hid (HR9.out.putK h0 (z := c + 1) (by rw [HPK.out, HFT.out]))
                go_wp2_with fail
                clear hku hkf kc0 kc1 kc2
                go_roundw
                case rel => exact ⟨k + 1, by rw [HHN.out], by go_num, by omega, HRN.out⟩
                case measure => simp [intOf]; omega
        · have hmx := h
          clear h
          have HHN := Lib.hid (show highP g (k + 1) = hgk_ by unfold highP; rw [HHG.out, HPK.out, if_neg (by omega)])
          clear hmx
          go_loopw [10, 11] (fun lv qv wq => ∃ q : Nat, lv = .int .i64 (P.climb g.prio q) ∧ qv = .int .i64 (q : Int) ∧ (q : Int) ≤ pk ∧ wq = w9) (fun _ qv _ => pk.toNat - (intOf qv).toNat)
          case atStart => exact ⟨0, rfl, rfl, hpb0, rfl⟩
          case round =>
            obtain ⟨q, rfl, rfl, hq, hw⟩ := hrel
            rw [hw]
            clear hw
            have hcb := P.climb_bounds g.prio q
            obtain ⟨c, hc⟩ : ∃ c, P.climb g.prio q = c := ⟨_, rfl⟩
            rw [hc] at hcb ⊢
            have hcb0 := hcb.1
            have hcb1 : c ≤ 7 := by omega
            have HC := Lib.hid hc
            have hct : Int.tmod c 2 = c % 2 := Int.tmod_eq_emod_of_nonneg hcb0
            have hqt : Int.tmod (q : Int) 2 = (q : Int) % 2 := Int.tmod_eq_emod_of_nonneg (Int.natCast_nonneg _)
            obtain ⟨c2, hc2⟩ : ∃ c2, c % 2 = c2 := ⟨_, rfl⟩
            obtain ⟨q2, hq2⟩ : ∃ q2, (q : Int) % 2 = q2 := ⟨_, rfl⟩
            rw [hc2] at hct
            rw [hq2] at hqt
            have HC2 := Lib.hid hc2
            have HQ2 := Lib.hid hq2
            clear hcb hc hc2 hq2
            by_cases hqp : (q : Int) < pk
            · have fq : decide ((q : Int) < pk) = true := decide_eq_true hqp
              have hq0 : (0 : Int) ≤ (q : Int) := Int.natCast_nonneg _
              go_wp2_with fail
              go_loopw [12, 13] (fun iv mv wq => ∃ m : Nat, iv = .bool (decide ((q : Int) ∈ g.prio.take m)) ∧ mv = .int .i64 (m : Int) ∧ m ≤ n ∧ wq = w9) (fun _ mv _ => n - (intOf mv).toNat)
              case atStart => exact ⟨0, by simp, rfl, Nat.zero_le _, rfl⟩
              case round =>
                obtain ⟨m, rfl, rfl, hm, hw⟩ := hrel
                rw [hw]
                clear hw
                obtain ⟨t, ht⟩ : ∃ t, decide ((q : Int) ∈ g.prio.take m) = t := ⟨_, rfl⟩
                rw [ht]
                have HT := Lib.hid ht
                clear ht
                by_cases hmn : m < n
                · have fm : decide ((m : Int) < (n : Int)) = true := decide_eq_true (by omega)
                  have hcm := HCB.out w9 WS.out m hmn
                  obtain ⟨zm, hzm⟩ : ∃ zm, g.prio.getD m 0 = zm := ⟨_, rfl⟩
                  rw [hzm] at hcm
                  have HTN := Lib.hid (show decide ((q : Int) ∈ g.prio.take (m + 1)) = (t || decide (zm = (q : Int))) by rw [← HT.out, ← hzm]; exact take_in (by rw [HPN.out]; exact hmn))
                  clear hzm
                  cases t
                  · by_cases e : zm = (q : Int)
                    · have fe : (zm == (q : Int)) = true := by rw [beq_iff_eq]; exact e
                      replace HTN := Lib.hid (HTN.out.trans (by rw [decide_eq_true e]; rfl : (false || decide (zm = (q : Int))) = true))
                      clear e
                      go_wp2_with fail
                      go_roundw
                      case rel => exact ⟨m + 1, by rw [HTN.out], by go_num, by omega, by first | trivial | rfl⟩
                      case measure => simp [intOf]; omega
                    · have fe : (zm == (q : Int)) = false := by rw [beq_eq_false_iff_ne]; exact e
                      replace HTN := Lib.hid (HTN.out.trans (by rw [decide_eq_false e]; rfl : (false || decide (zm = (q : Int))) = false))
                      clear e
                      go_wp2_with fail
                      go_roundw
                      case rel => exact ⟨m + 1, by rw [HTN.out], by go_num, by omega, by first | trivial | rfl⟩
                      case measure => simp [intOf]; omega
                  · replace HTN := Lib.hid (HTN.out.trans (Bool.true_or _))
                    go_wp2_with fail
                    go_roundw
                    case rel => exact ⟨m + 1, by rw [HTN.out], by go_num, by omega, by first | trivial | rfl⟩
                    case measure => simp [intOf]; omega
                · have fm : decide ((m : Int) < (n : Int)) = false := decide_eq_false (by omega)
                  have HTS := Lib.hid (show decide ((q : Int) ∈ g.prio) = t by rw [← HT.out, List.take_of_length_le (by rw [HPN.out]; omega)])
                  cases t
                  · have HCN := Lib.hid (show P.climb g.prio (q + 1) = c by
                      show (if decide ((q : Int) ∈ g.prio) = true ∧ P.climb g.prio q % 2 ≠ (q : Int) % 2 then _ else P.climb g.prio q) = c
                      rw [HTS.out, if_neg (fun h => Bool.false_ne_true h.1), HC.out])
                    go_wp2_with fail
                    go_roundw
                    case rel => exact ⟨q + 1, by rw [HCN.out], by go_num, by omega, by first | trivial | rfl⟩
                    case measure => simp [intOf]; omega
                  · by_cases e : c2 = q2
                    · have fe : (c2 != q2) = false := by rw [bne_eq_false_iff_eq]; exact e
                      have HCN := Lib.hid (show P.climb g.prio (q + 1) = c by
                        show (if decide ((q : Int) ∈ g.prio) = true ∧ P.climb g.prio q % 2 ≠ (q : Int) % 2 then _ else P.climb g.prio q) = c
                        rw [HC.out, HC2.out, HQ2.out, if_neg (fun h => h.2 e)])
                      clear e
                      go_wp2_with fail
                      go_roundw
                      case rel => exact ⟨q + 1, by rw [HCN.out], by go_num, by omega, by first | trivial | rfl⟩
                      case measure => simp [intOf]; omega
                    · have fe : (c2 != q2) = true := by rw [bne_iff_ne]; exact e
                      have HCN := Lib.hid (show P.climb g.prio (q + 1) = c + 1 by
                        show (if decide ((q : Int) ∈ g.prio) = true ∧ P.climb g.prio q % 2 ≠ (q : Int) % 2 then P.climb g.prio q + 1 else _) = c + 1
                        rw [HC.out, HC2.out, HQ2.out, if_pos ⟨HTS.out, e⟩])
                      clear e
                      go_wp2_with fail
                      go_roundw
                      case rel => exact ⟨q + 1, by rw [HCN.out], by go_num, by omega, by first | trivial | rfl⟩
                      case measure => simp [intOf]; omega
            · have fq : decide ((q : Int) < pk) = false := decide_eq_false hqp
              have hqe : (q : Int) = pk := by omega
              have HFT := Lib.hid (show P.fit g.prio pk = if c2 ≠ q2 then c + 1 else c by
                unfold P.fit
                rw [← hqe, Int.toNat_natCast, HC.out, HC2.out, HQ2.out])
              have hpt : Int.tmod pk 2 = q2 := by rw [← hqe]; exact hqt
              clear hqe hqp
              by_cases e : c2 = q2
              · have fe : (c2 != q2) = false := by rw [bne_eq_false_iff_eq]; exact e
                replace HFT := Lib.hid (HFT.out.trans (if_neg (fun h => h e)))
                clear e
                obtain ⟨hku, hkf⟩ := prio_cell HR9.out.k hkn
                have hbb := BSk.out
                have kc0 : w9.cell? ⟨qk, 0, none⟩ = some (.slice (some ⟨koa, 0, none⟩) n kka) := hbb.cell 0 _ rfl
                have kc1 : w9.cell? ⟨qk, 1, none⟩ = some (.slice (some ⟨kob, 0, none⟩) n kkb) := hbb.cell 1 _ rfl
                have kc2 : w9.cell? ⟨qk, 2, none⟩ = some (.slice (some ⟨koc, 0, none⟩) n kkc) := hbb.cell 2 _ rfl
                clear hbb
                have HRN := Lib.hid (HR9.out.putK h0 (z := c) (by rw [HPK.out, HFT.out]))
                go_wp2_with fail
                clear hku hkf kc0 kc1 kc2
                go_roundw
                case rel => exact ⟨k + 1, by rw [HHN.out], by go_num, by omega, HRN.out⟩
                case measure => simp [intOf]; omega
              · have fe : (c2 != q2) = true := by rw [bne_iff_ne]; exact e
                replace HFT := Lib.hid (HFT.out.trans (if_pos e))
                clear e
                obtain ⟨hku, hkf⟩ := prio_cell HR9.out.k hkn
                have hbb := BSk.out
                have kc0 : w9.cell? ⟨qk, 0, none⟩ = some (.slice (some ⟨koa, 0, none⟩) n kka) := hbb.cell 0 _ rfl
                have kc1 : w9.cell? ⟨qk, 1, none⟩ = some (.slice (some ⟨kob, 0, none⟩) n kkb) := hbb.cell 1 _ rfl
                have kc2 : w9.cell? ⟨qk, 2, none⟩ = some (.slice (some ⟨koc, 0, none⟩) n kkc) := hbb.cell 2 _ rfl
                clear hbb
                have HRN := Lib.hid (HR9.out.putK h0 (z := c + 1) (by rw [HPK.out, HFT.out]))
                go_wp2_with fail
                clear hku hkf kc0 kc1 kc2
                go_roundw
                case rel => exact ⟨k + 1, by rw [HHN.out], by go_num, by omega, HRN.out⟩
                case measure => simp [intOf]; omega
    · obtain rfl : n = k := by omega
      have fk : decide ((n : Int) < (n : Int)) = false := decide_eq_false (by omega)
      clear hlt hkn
      have Gh := Lib.hid (show GameV wr (.agg #[.slice (some ⟨hoa, 0, none⟩) n hka, .slice (some ⟨hob, 0, none⟩) n hkb, .slice (some ⟨hoc, 0, none⟩) n hkc]) (⟨g.owner, g.prio.map fun z => z + 2, g.moves⟩ : P.G) by
        have h1 := HF.out.h.game (fits_hi HFI.out _ n n hmany)
        rw [hiG_end HPN.out] at h1
        exact h1)
      have Gk := Lib.hid (show GameV wr (.agg #[.slice (some ⟨koa, 0, none⟩) n kka, .slice (some ⟨kob, 0, none⟩) n kkb, .slice (some ⟨koc, 0, none⟩) n kkc]) (⟨g.owner, g.prio.map (P.fit g.prio), g.moves⟩ : P.G) by
        have h1 := HF.out.k.game (fits_hi HFI.out _ n n hmany)
        rw [hiG_end HPN.out] at h1
        exact h1)
      have HKR := Lib.hid (P.right_prio HR.out (f := P.fit g.prio) fun i hi => by
        have h1 := (HR.out.at i hi).2
        have h2 := P.fit_bounds g.prio h1.1
        have h3 := h1.2.1
        omega)
      have hpast := fun z hz => highP_past (g := g) (z := z) hz n
      obtain ⟨hx, hhx⟩ : ∃ x, highP g n = x := ⟨_, rfl⟩
      rw [hhx] at hpast ⊢
      have HPS := Lib.hid (hpast 7 (by decide))
      clear hpast hhx
      have W2 := WR
      clear W WR
      have W := W2
      clear W2
      go_wp2_with fail
      clear gc0 gc1 gc2
      refine (decomp_any g HR.out n HN.out _ wr (HV.out.on W.out) (T.out.on W.out)).mono ?_
      rintro e w7 ⟨Xa, Ya, cha, depa, ra0, ra1, ba0, ba1, rfl, hd, hb⟩
      obtain ⟨xa0, ka0, rfl, -⟩ := own_at hd.zero.1
      obtain ⟨xa1, ka1, rfl, -⟩ := own_at hd.one.1
      have Da := Lib.hid hd
      have Ia0 := Lib.hid hd.zero.ints
      have Ia1 := Lib.hid hd.one.ints
      replace BRh := Lib.hid (BRh.out.keep (grown_of_below hb none))
      replace BRk := Lib.hid (BRk.out.keep (grown_of_below hb none))
      replace Gh := Lib.hid (Gh.out.on hb)
      replace Gk := Lib.hid (Gk.out.on hb)
      replace W := Lib.hid (W.out.trans (hb.mono W.out.size))
      clear hb hd
      go_upto_region 28 with (fail)
      have bq : Box (w7.alloc (.cells #[.slice xa0 (P.lst Xa).length ka0, .slice xa1 (P.lst Ya).length ka1, .slice (some ⟨ba0, 0, none⟩) n n, .slice (some ⟨ba1, 0, none⟩) n n] 32)) w7.heap.size 32 #[.slice xa0 (P.lst Xa).length ka0, .slice xa1 (P.lst Ya).length ka1, .slice (some ⟨ba0, 0, none⟩) n n, .slice (some ⟨ba1, 0, none⟩) n n] := Box.new _ _ _
      have hgq := World.grownBy_alloc w7 (.cells #[.slice xa0 (P.lst Xa).length ka0, .slice xa1 (P.lst Ya).length ka1, .slice (some ⟨ba0, 0, none⟩) n n, .slice (some ⟨ba1, 0, none⟩) n n] 32) none
      replace BRh := Lib.hid (BRh.out.keep hgq)
      replace BRk := Lib.hid (BRk.out.keep hgq)
      replace Gh := Lib.hid (Gh.out.on (below_of_grown hgq))
      replace Gk := Lib.hid (Gk.out.on (below_of_grown hgq))
      replace W := Lib.hid (W.out.trans ((below_of_grown hgq).mono W.out.size))
      replace Ia0 := Lib.hid (Ia0.out.on (below_of_grown hgq))
      replace Ia1 := Lib.hid (Ia1.out.on (below_of_grown hgq))
      generalize (w7.alloc (.cells #[.slice xa0 (P.lst Xa).length ka0, .slice xa1 (P.lst Ya).length ka1, .slice (some ⟨ba0, 0, none⟩) n n, .slice (some ⟨ba1, 0, none⟩) n n] 32)) = wf at bq BRh BRk Gh Gk W Ia0 Ia1 ⊢
      generalize w7.heap.size = qa at bq ⊢
      have BQa := Lib.hid bq
      clear bq hgq
      have hbb := BRk.out
      have hc0 : wf.cell? ⟨qk, 0, none⟩ = some (.slice (some ⟨koa, 0, none⟩) n kka) := hbb.cell 0 _ rfl
      have hc1 : wf.cell? ⟨qk, 1, none⟩ = some (.slice (some ⟨kob, 0, none⟩) n kkb) := hbb.cell 1 _ rfl
      have hc2 : wf.cell? ⟨qk, 2, none⟩ = some (.slice (some ⟨koc, 0, none⟩) n kkc) := hbb.cell 2 _ rfl
      clear hbb
      go_wp2_with fail
      clear hc0 hc1 hc2
      refine (decomp_any (⟨g.owner, g.prio.map (P.fit g.prio), g.moves⟩ : P.G) HKR.out n HN.out _ wf Gk.out (T.out.on W.out)).mono ?_
      rintro e w8 ⟨Xd, Yd, chd, depd, rd0, rd1, bd0, bd1, rfl, hd, hb⟩
      obtain ⟨xd0, kd0, rfl, -⟩ := own_at hd.zero.1
      obtain ⟨xd1, kd1, rfl, -⟩ := own_at hd.one.1
      have Dd := Lib.hid hd
      have Id0 := Lib.hid hd.zero.ints
      have Id1 := Lib.hid hd.one.ints
      replace BRh := Lib.hid (BRh.out.keep (grown_of_below hb none))
      replace BQa := Lib.hid (BQa.out.keep (grown_of_below hb none))
      replace Gh := Lib.hid (Gh.out.on hb)
      replace Ia0 := Lib.hid (Ia0.out.on hb)
      replace Ia1 := Lib.hid (Ia1.out.on hb)
      replace W := Lib.hid (W.out.trans (hb.mono W.out.size))
      clear hb hd
      go_upto_region 29 with (fail)
      have bq : Box (w8.alloc (.cells #[.slice xd0 (P.lst Xd).length kd0, .slice xd1 (P.lst Yd).length kd1, .slice (some ⟨bd0, 0, none⟩) n n, .slice (some ⟨bd1, 0, none⟩) n n] 32)) w8.heap.size 32 #[.slice xd0 (P.lst Xd).length kd0, .slice xd1 (P.lst Yd).length kd1, .slice (some ⟨bd0, 0, none⟩) n n, .slice (some ⟨bd1, 0, none⟩) n n] := Box.new _ _ _
      have hgq := World.grownBy_alloc w8 (.cells #[.slice xd0 (P.lst Xd).length kd0, .slice xd1 (P.lst Yd).length kd1, .slice (some ⟨bd0, 0, none⟩) n n, .slice (some ⟨bd1, 0, none⟩) n n] 32) none
      replace BRh := Lib.hid (BRh.out.keep hgq)
      replace BQa := Lib.hid (BQa.out.keep hgq)
      replace Gh := Lib.hid (Gh.out.on (below_of_grown hgq))
      replace Ia0 := Lib.hid (Ia0.out.on (below_of_grown hgq))
      replace Ia1 := Lib.hid (Ia1.out.on (below_of_grown hgq))
      replace W := Lib.hid (W.out.trans ((below_of_grown hgq).mono W.out.size))
      replace Id0 := Lib.hid (Id0.out.on (below_of_grown hgq))
      replace Id1 := Lib.hid (Id1.out.on (below_of_grown hgq))
      generalize (w8.alloc (.cells #[.slice xd0 (P.lst Xd).length kd0, .slice xd1 (P.lst Yd).length kd1, .slice (some ⟨bd0, 0, none⟩) n n, .slice (some ⟨bd1, 0, none⟩) n n] 32)) = wh at bq BRh BQa Gh Ia0 Ia1 W Id0 Id1 ⊢
      generalize w8.heap.size = qd at bq ⊢
      have BQd := Lib.hid bq
      clear bq hgq
      have HED := Lib.hid (P.prio_same HR.out HN.out (P.fit_parity g.prio) (fun x y hx hy hxy => P.fit_mono g.prio (prio_pos HR.out hx) hx hxy) (fun i => (P.full_bits HR.out HN.out).1 i) Da.out.ap Dd.out.ap)
      have hbb := BQa.out
      have pc0 : wh.cell? ⟨qa, 0, none⟩ = some (.slice xa0 (P.lst Xa).length ka0) := hbb.cell 0 _ rfl
      have pc1 : wh.cell? ⟨qa, 1, none⟩ = some (.slice xa1 (P.lst Ya).length ka1) := hbb.cell 1 _ rfl
      have pc2 : wh.cell? ⟨qa, 2, none⟩ = some (.slice (some ⟨ba0, 0, none⟩) n n) := hbb.cell 2 _ rfl
      have pc3 : wh.cell? ⟨qa, 3, none⟩ = some (.slice (some ⟨ba1, 0, none⟩) n n) := hbb.cell 3 _ rfl
      clear hbb
      have hbb := BQd.out
      have rc0 : wh.cell? ⟨qd, 0, none⟩ = some (.slice xd0 (P.lst Xd).length kd0) := hbb.cell 0 _ rfl
      have rc1 : wh.cell? ⟨qd, 1, none⟩ = some (.slice xd1 (P.lst Yd).length kd1) := hbb.cell 1 _ rfl
      have rc2 : wh.cell? ⟨qd, 2, none⟩ = some (.slice (some ⟨bd0, 0, none⟩) n n) := hbb.cell 2 _ rfl
      have rc3 : wh.cell? ⟨qd, 3, none⟩ = some (.slice (some ⟨bd1, 0, none⟩) n n) := hbb.cell 3 _ rfl
      clear hbb
      go_wp2_with fail
      refine (alike_any _ _ _ _ _ _ _ _ wh Ia0.out Ia1.out Id0.out Id1.out).mono ?_
      rintro e w9 ⟨rfl, hb⟩
      rw [show (decide (lstI Xa = lstI Xd) && decide (lstI Ya = lstI Yd)) = true by rw [HED.out.1, HED.out.2]; simp]
      replace BRh := Lib.hid (BRh.out.keep (grown_of_below hb none))
      replace BQa := Lib.hid (BQa.out.keep (grown_of_below hb none))
      replace Gh := Lib.hid (Gh.out.on hb)
      replace Ia0 := Lib.hid (Ia0.out.on hb)
      replace Ia1 := Lib.hid (Ia1.out.on hb)
      replace W := Lib.hid (W.out.trans (hb.mono W.out.size))
      clear hb pc0 pc1 pc2 pc3 rc0 rc1 rc2 rc3
      have hbb := BRh.out
      have hc0 : w9.cell? ⟨qh, 0, none⟩ = some (.slice (some ⟨hoa, 0, none⟩) n hka) := hbb.cell 0 _ rfl
      have hc1 : w9.cell? ⟨qh, 1, none⟩ = some (.slice (some ⟨hob, 0, none⟩) n hkb) := hbb.cell 1 _ rfl
      have hc2 : w9.cell? ⟨qh, 2, none⟩ = some (.slice (some ⟨hoc, 0, none⟩) n hkc) := hbb.cell 2 _ rfl
      clear hbb
      go_wp2_with fail
      clear hc0 hc1 hc2
      by_cases h7 : (7 : Int) < hx
      · have f7 : decide ((7 : Int) < hx) = true := decide_eq_true h7
        obtain ⟨i, hi, hi7⟩ := HPS.out.1 h7
        have hw := P.wrong_prio HR.out (f := fun z => z + 2) (i := i) (by rw [HN.out]; exact hi) hi7
        refine (decomp_wrong (⟨g.owner, g.prio.map fun z => z + 2, g.moves⟩ : P.G) hw _ w9 Gh.out).mono ?_
        rintro e wa ⟨rfl, hb⟩
        replace W := Lib.hid (W.out.trans (hb.mono W.out.size))
        clear hb hw hi hi7
        go_upto_region 32 with (fail)
        have bq : Box (wa.alloc (.cells #[.slice none 0 0, .slice none 0 0, .slice none 0 0, .slice none 0 0] 32)) wa.heap.size 32 #[.slice none 0 0, .slice none 0 0, .slice none 0 0, .slice none 0 0] := Box.new _ _ _
        have hgq := World.grownBy_alloc wa (.cells #[.slice none 0 0, .slice none 0 0, .slice none 0 0, .slice none 0 0] 32) none
        replace W := Lib.hid (W.out.trans ((below_of_grown hgq).mono W.out.size))
        generalize (wa.alloc (.cells #[.slice none 0 0, .slice none 0 0, .slice none 0 0, .slice none 0 0] 32)) = wb at bq W ⊢
        generalize wa.heap.size = qb at bq ⊢
        have BQb := Lib.hid bq
        clear bq hgq
        have hbb := BQb.out
        have rc0 : wb.cell? ⟨qb, 0, none⟩ = some (.slice none 0 0) := hbb.cell 0 _ rfl
        have rc1 : wb.cell? ⟨qb, 1, none⟩ = some (.slice none 0 0) := hbb.cell 1 _ rfl
        have rc2 : wb.cell? ⟨qb, 2, none⟩ = some (.slice none 0 0) := hbb.cell 2 _ rfl
        have rc3 : wb.cell? ⟨qb, 3, none⟩ = some (.slice none 0 0) := hbb.cell 3 _ rfl
        clear hbb
        go_wp2_with fail
        exact bodyPost_ret (v := .bool true) (by simp [results, Tryd.results5, go_sem]) rfl ⟨rfl, W.out⟩
      · have f7 : decide ((7 : Int) < hx) = false := decide_eq_false h7
        have HHR := Lib.hid (P.right_prio HR.out (f := fun z => z + 2) fun i hi => by
          have h1 := (HR.out.at i hi).2.1
          have h2 : ¬ (7 : Int) < g.prio.getD i 0 + 2 := fun h => h7 (HPS.out.2 ⟨i, by rw [← HN.out]; exact hi, h⟩)
          show 0 ≤ g.prio.getD i 0 + 2 ∧ g.prio.getD i 0 + 2 ≤ 7
          omega)
        refine (decomp_any (⟨g.owner, g.prio.map fun z => z + 2, g.moves⟩ : P.G) HHR.out n HN.out _ w9 Gh.out (T.out.on W.out)).mono ?_
        rintro e wa ⟨Xb, Yb, chb, depb, rb0, rb1, bb0, bb1, rfl, hd, hb⟩
        obtain ⟨xb0, kb0, rfl, -⟩ := own_at hd.zero.1
        obtain ⟨xb1, kb1, rfl, -⟩ := own_at hd.one.1
        have Db := Lib.hid hd
        have Ib0 := Lib.hid hd.zero.ints
        have Ib1 := Lib.hid hd.one.ints
        replace BQa := Lib.hid (BQa.out.keep (grown_of_below hb none))
        replace Ia0 := Lib.hid (Ia0.out.on hb)
        replace Ia1 := Lib.hid (Ia1.out.on hb)
        replace W := Lib.hid (W.out.trans (hb.mono W.out.size))
        clear hb hd
        go_upto_region 32 with (fail)
        have bq : Box (wa.alloc (.cells #[.slice xb0 (P.lst Xb).length kb0, .slice xb1 (P.lst Yb).length kb1, .slice (some ⟨bb0, 0, none⟩) n n, .slice (some ⟨bb1, 0, none⟩) n n] 32)) wa.heap.size 32 #[.slice xb0 (P.lst Xb).length kb0, .slice xb1 (P.lst Yb).length kb1, .slice (some ⟨bb0, 0, none⟩) n n, .slice (some ⟨bb1, 0, none⟩) n n] := Box.new _ _ _
        have hgq := World.grownBy_alloc wa (.cells #[.slice xb0 (P.lst Xb).length kb0, .slice xb1 (P.lst Yb).length kb1, .slice (some ⟨bb0, 0, none⟩) n n, .slice (some ⟨bb1, 0, none⟩) n n] 32) none
        replace BQa := Lib.hid (BQa.out.keep hgq)
        replace Ia0 := Lib.hid (Ia0.out.on (below_of_grown hgq))
        replace Ia1 := Lib.hid (Ia1.out.on (below_of_grown hgq))
        replace W := Lib.hid (W.out.trans ((below_of_grown hgq).mono W.out.size))
        replace Ib0 := Lib.hid (Ib0.out.on (below_of_grown hgq))
        replace Ib1 := Lib.hid (Ib1.out.on (below_of_grown hgq))
        generalize (wa.alloc (.cells #[.slice xb0 (P.lst Xb).length kb0, .slice xb1 (P.lst Yb).length kb1, .slice (some ⟨bb0, 0, none⟩) n n, .slice (some ⟨bb1, 0, none⟩) n n] 32)) = wb at bq BQa Ia0 Ia1 W Ib0 Ib1 ⊢
        generalize wa.heap.size = qb at bq ⊢
        have BQb := Lib.hid bq
        clear bq hgq
        have HEB := Lib.hid (P.prio_same HR.out HN.out (f := fun z => z + 2) (fun z => by show (z + 2) % 2 = z % 2; omega) (fun x y _ _ hxy => by show x + 2 ≤ y + 2; omega) (fun i => (P.full_bits HR.out HN.out).1 i) Da.out.ap Db.out.ap)
        have hbb := BQa.out
        have pc0 : wb.cell? ⟨qa, 0, none⟩ = some (.slice xa0 (P.lst Xa).length ka0) := hbb.cell 0 _ rfl
        have pc1 : wb.cell? ⟨qa, 1, none⟩ = some (.slice xa1 (P.lst Ya).length ka1) := hbb.cell 1 _ rfl
        have pc2 : wb.cell? ⟨qa, 2, none⟩ = some (.slice (some ⟨ba0, 0, none⟩) n n) := hbb.cell 2 _ rfl
        have pc3 : wb.cell? ⟨qa, 3, none⟩ = some (.slice (some ⟨ba1, 0, none⟩) n n) := hbb.cell 3 _ rfl
        clear hbb
        have hbb := BQb.out
        have rc0 : wb.cell? ⟨qb, 0, none⟩ = some (.slice xb0 (P.lst Xb).length kb0) := hbb.cell 0 _ rfl
        have rc1 : wb.cell? ⟨qb, 1, none⟩ = some (.slice xb1 (P.lst Yb).length kb1) := hbb.cell 1 _ rfl
        have rc2 : wb.cell? ⟨qb, 2, none⟩ = some (.slice (some ⟨bb0, 0, none⟩) n n) := hbb.cell 2 _ rfl
        have rc3 : wb.cell? ⟨qb, 3, none⟩ = some (.slice (some ⟨bb1, 0, none⟩) n n) := hbb.cell 3 _ rfl
        clear hbb
        go_wp2_with fail
        refine (alike_any _ _ _ _ _ _ _ _ wb Ia0.out Ia1.out Ib0.out Ib1.out).mono ?_
        rintro e wz ⟨rfl, hb⟩
        rw [show (decide (lstI Xa = lstI Xb) && decide (lstI Ya = lstI Yb)) = true by rw [HEB.out.1, HEB.out.2]; simp]
        replace W := Lib.hid (W.out.trans (hb.mono W.out.size))
        clear hb
        go_wp2_with fail
        exact bodyPost_ret (v := .bool true) (by simp [results, Tryd.results5, go_sem]) rfl ⟨rfl, W.out⟩
theorem high_law (g : P.G) (v : Value) (w : World) (hv : GameV w v g) (hT : Tab w) : Calls Tryd.prog 5 #[v] w fun e w' => e = .returned (.bool true) ∧ Below w.heap.size w w' := by
  cases hok : g.ok
  · exact high_wrong_ g hok v w hv hT
  · exact high_right_ g ((P.G.ok_iff g).1 hok) v w hv hT
end W
end Go.Proofs.YtpjmboonaciplaaDoor
