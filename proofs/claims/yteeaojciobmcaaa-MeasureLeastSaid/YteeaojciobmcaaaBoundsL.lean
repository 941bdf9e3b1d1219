/- MeasureBounds: the walk. -/
import Derived.Test.YteeaojciobmcaaaShown
import Derived.Test.YteeaojciobmcaaaSolves
import Derived.Test.YteeaojciobmcaaaFrame
import Derived.Lib.QuietBelow
import Derived.Deep.Cut
import Derived.Lib.Hide
import Derived.Deep.QuietTactic
import Derived.BigQuiet
namespace Go.Proofs.Yteeaojciobmcaaa
open Go.RowKit
namespace W

theorem nt_step (prio : List Int) (m k : Nat) (h : m < prio.length) : nt prio (m + 1) k = nt prio m k + (if prio.getD m 0 = 2 * (k : Int) + 1 then 1 else 0) := by
  unfold nt
  rw [take_count prio _ m h]
  split <;> simp
theorem tl_ct (t : P.Tup) (k : Nat) (hk : k < 4) : (tl t)[1 + k]? = some (.int .i64 (ct t k)) := by
  match k, hk with
  | 0, _ | 1, _ | 2, _ | 3, _ => rfl
theorem good_ct {n t : P.Tup} (h : P.Tup.good n t) (k : Nat) (hk : k < 4) : (0 ≤ ct t k ∧ ct t k ≤ ct n k) ∧ (t.top = true → ct t k = 0) := by
  obtain ⟨h1, h2⟩ := h
  refine ⟨?_, fun ht => ?_⟩
  · unfold P.Tup.inR at h1
    match k, hk with
    | 0, _ => exact h1.1
    | 1, _ => exact h1.2.1
    | 2, _ => exact h1.2.2.1
    | 3, _ => exact h1.2.2.2
  · rw [h2 ht]
    match k, hk with
    | 0, _ | 1, _ | 2, _ | 3, _ => rfl
theorem lift_up (g : P.G) (l : List P.Tup) (i : Nat) : 0 ≤ P.Tup.cmp (g.lift l i) (l.getD i .zero) 0 := by
  unfold P.G.lift
  split
  · rename_i h
    rw [P.Tup.cmp_back]
    omega
  · have := (P.Tup.cmp_le (l.getD i .zero) (l.getD i .zero)).2 (P.Tup.le_refl _)
    rw [P.Tup.cmp_back] at this
    omega
theorem liftX_in {g : P.G} (hr : g.Right) {l : List P.Tup} (hl : l.length = g.owner.length) {i : Nat} (hi : i < l.length) : liftX g l (i : Int) = g.lift l i := by
  unfold liftX
  rw [if_pos ⟨by unfold fits; rw [(P.G.ok_iff g).2 hr, hl]; simp, by omega, by omega⟩, Int.toNat_natCast]
set_option maxRecDepth 100000 in
set_option maxHeartbeats 4000000 in
theorem bounds_law (g : P.G) (l : List P.Tup) (v vl : Value) (w : World) (hv : GameV w v g) (hV : TupsV w vl l) (hsz : l.length * 40 ≤ 140737488351232) (hin : ∀ i, i < l.length → Fr.In64 (l.getD i .zero)) : Calls Try.prog 9 #[v, vl] w fun e w' => e = .returned (.bool true) ∧ Below w.heap.size w w' := by
  have HLOW : Hid (∀ j k, k < 4 → -9223372036854775808 ≤ ct (l.getD j .zero) k) := Lib.hid (fun j k hk => by
    rcases Nat.lt_or_ge j l.length with h | h
    · exact (hin j h k hk).1
    · rw [List.getD_eq_getElem?_getD, List.getElem?_eq_none h]
      match k, hk with
      | 0, _ | 1, _ | 2, _ | 3, _ => decide)
  have HSZ := Lib.hid hsz
  have HVL := Lib.hid hV
  have HV := Lib.hid hv
  cases hok : g.ok
  · obtain ⟨a, b, c, rfl, -⟩ := hv
    have hq0 : g.right.2 ≠ 0 := by unfold P.G.ok at hok; exact beq_eq_false_iff_ne.1 hok
    clear hok hV hsz hin
    go_enter Try.func9, Try.ntmps9
    go_wp2_with fail
    have bx0 : Box (w.alloc (.cells #[a, b, c] 33)) (w.heap.size) 33 #[a, b, c] := Box.new w 33 #[a, b, c]
    have hbq : Below w.heap.size w (w.alloc (.cells #[a, b, c] 33)) := (Below.refl _ w).alloc (Nat.le_refl _) _
    have hle0 : w.heap.size ≤ w.heap.size := Nat.le_refl _
    generalize (w.alloc (.cells #[a, b, c] 33)) = w0 at bx0 hbq  ⊢
    have BQg := Lib.hid bx0
    have W := Lib.hid hbq
    have LEg := Lib.hid hle0
    clear hbq hle0 bx0 
    obtain ⟨qg, hqg⟩ : ∃ qg, w.heap.size = qg := ⟨_, rfl⟩
    rw [hqg] at BQg ⊢
    have LEg : Hid (w.heap.size ≤ qg) := Lib.hid (by omega)
    clear hqg
    refine (shown_any w0).mono ?_
    rintro e w1 ⟨rfl, hb⟩
    replace BQg := Lib.hid (BQg.out.keep (grown_of_below hb none))
    replace W := Lib.hid (W.out.trans (hb.mono W.out.size))
    clear hb
    have hbb := BQg.out
    have gc0 : w1.cell? ⟨qg, 0, none⟩ = some a := hbb.cell 0 _ rfl
    have gc1 : w1.cell? ⟨qg, 1, none⟩ = some b := hbb.cell 1 _ rfl
    have gc2 : w1.cell? ⟨qg, 2, none⟩ = some c := hbb.cell 2 _ rfl
    clear hbb
    go_wp2_with fail
    clear gc0 gc1 gc2
    refine (right_any g _ _ (HV.out.on W.out)).mono ?_
    rintro e w2 ⟨rfl, hb⟩
    replace BQg := Lib.hid (BQg.out.keep (grown_of_below hb none))
    replace W := Lib.hid (W.out.trans (hb.mono W.out.size))
    clear hb
    obtain ⟨z, hz⟩ : ∃ z, g.right.2 = z := ⟨_, rfl⟩
    rw [hz] at hq0 ⊢
    have fq : (((z : Nat) : Int) != 0) = true := by rw [bne_iff_ne]; omega
    clear hz hq0
    have hbb := BQg.out
    have gc0 : w2.cell? ⟨qg, 0, none⟩ = some a := hbb.cell 0 _ rfl
    have gc1 : w2.cell? ⟨qg, 1, none⟩ = some b := hbb.cell 1 _ rfl
    have gc2 : w2.cell? ⟨qg, 2, none⟩ = some c := hbb.cell 2 _ rfl
    clear hbb
    go_wp2_with fail
    clear gc0 gc1 gc2
    refine (heavy_any g _ w2 (HV.out.on W.out)).mono ?_
    rintro e w3 ⟨lg, rfl, hb⟩
    replace BQg := Lib.hid (BQg.out.keep (grown_of_below hb none))
    replace W := Lib.hid (W.out.trans (hb.mono W.out.size))
    clear hb
    go_wp2_with fail
    exact bodyPost_ret (v := .bool true) (by simp [results, Try.results9, go_sem]) rfl ⟨rfl, W.out⟩
  · have hr := (P.G.ok_iff g).1 hok
    have hop := hr.prio
    have hmp := hr.moves
    have hmany := hr.many
    have h0 := hr.pos
    obtain ⟨n, hn⟩ : ∃ n, g.owner.length = n := ⟨_, rfl⟩
    rw [hn] at hop hmp hmany h0
    obtain ⟨ba, oa, ka, bb, ob, kb, bc_, oc, kc, rfl, -, hcb, -⟩ := hv.open_ hn hop hmp h0
    have HCB := Lib.hid hcb
    have HPN := Lib.hid hop
    have HR := Lib.hid hr
    have HN := Lib.hid hn
    have hq0 : g.right.2 = 0 := by unfold P.G.ok at hok; exact beq_iff_eq.1 hok
    clear hok hV hsz hin hr hop hmp hn hcb
    go_enter Try.func9, Try.ntmps9
    go_wp2_with fail
    have bx0 : Box (w.alloc (.cells #[.slice (some ⟨ba, oa, none⟩) n ka, .slice (some ⟨bb, ob, none⟩) n kb, .slice (some ⟨bc_, oc, none⟩) n kc] 33)) (w.heap.size) 33 #[.slice (some ⟨ba, oa, none⟩) n ka, .slice (some ⟨bb, ob, none⟩) n kb, .slice (some ⟨bc_, oc, none⟩) n kc] := Box.new w 33 #[.slice (some ⟨ba, oa, none⟩) n ka, .slice (some ⟨bb, ob, none⟩) n kb, .slice (some ⟨bc_, oc, none⟩) n kc]
    have hbq : Below w.heap.size w (w.alloc (.cells #[.slice (some ⟨ba, oa, none⟩) n ka, .slice (some ⟨bb, ob, none⟩) n kb, .slice (some ⟨bc_, oc, none⟩) n kc] 33)) := (Below.refl _ w).alloc (Nat.le_refl _) _
    have hle0 : w.heap.size ≤ w.heap.size := Nat.le_refl _
    generalize (w.alloc (.cells #[.slice (some ⟨ba, oa, none⟩) n ka, .slice (some ⟨bb, ob, none⟩) n kb, .slice (some ⟨bc_, oc, none⟩) n kc] 33)) = w0 at bx0 hbq  ⊢
    have BQg := Lib.hid bx0
    have W := Lib.hid hbq
    have LEg := Lib.hid hle0
    clear hbq hle0 bx0 
    obtain ⟨qg, hqg⟩ : ∃ qg, w.heap.size = qg := ⟨_, rfl⟩
    rw [hqg] at BQg ⊢
    have LEg : Hid (w.heap.size ≤ qg) := Lib.hid (by omega)
    clear hqg
    refine (shown_any w0).mono ?_
    rintro e w1 ⟨rfl, hb⟩
    replace BQg := Lib.hid (BQg.out.keep (grown_of_below hb none))
    replace W := Lib.hid (W.out.trans (hb.mono W.out.size))
    clear hb
    have hbb := BQg.out
    have gc0 : w1.cell? ⟨qg, 0, none⟩ = some (.slice (some ⟨ba, oa, none⟩) n ka) := hbb.cell 0 _ rfl
    have gc1 : w1.cell? ⟨qg, 1, none⟩ = some (.slice (some ⟨bb, ob, none⟩) n kb) := hbb.cell 1 _ rfl
    have gc2 : w1.cell? ⟨qg, 2, none⟩ = some (.slice (some ⟨bc_, oc, none⟩) n kc) := hbb.cell 2 _ rfl
    clear hbb
    go_wp2_with fail
    clear gc0 gc1 gc2
    refine (right_any g _ _ (HV.out.on W.out)).mono ?_
    rintro e w2 ⟨rfl, hb⟩
    replace BQg := Lib.hid (BQg.out.keep (grown_of_below hb none))
    replace W := Lib.hid (W.out.trans (hb.mono W.out.size))
    clear hb
    obtain ⟨z, hz⟩ : ∃ z, g.right.2 = z := ⟨_, rfl⟩
    rw [hz] at hq0 ⊢
    have fq : (((z : Nat) : Int) != 0) = false := by rw [bne_eq_false_iff_eq]; omega
    clear hz hq0
    have hbb := BQg.out
    have gc0 : w2.cell? ⟨qg, 0, none⟩ = some (.slice (some ⟨ba, oa, none⟩) n ka) := hbb.cell 0 _ rfl
    have gc1 : w2.cell? ⟨qg, 1, none⟩ = some (.slice (some ⟨bb, ob, none⟩) n kb) := hbb.cell 1 _ rfl
    have gc2 : w2.cell? ⟨qg, 2, none⟩ = some (.slice (some ⟨bc_, oc, none⟩) n kc) := hbb.cell 2 _ rfl
    clear hbb
    go_wp2_with fail
    clear gc0 gc1 gc2
    refine (heavy_any g _ w2 (HV.out.on W.out)).mono ?_
    rintro e w3 ⟨lg, rfl, hb⟩
    replace BQg := Lib.hid (BQg.out.keep (grown_of_below hb none))
    replace W := Lib.hid (W.out.trans (hb.mono W.out.size))
    clear hb
    cases lg
    · simp only []
      have hbb := BQg.out
      have gc0 : w3.cell? ⟨qg, 0, none⟩ = some (.slice (some ⟨ba, oa, none⟩) n ka) := hbb.cell 0 _ rfl
      have gc1 : w3.cell? ⟨qg, 1, none⟩ = some (.slice (some ⟨bb, ob, none⟩) n kb) := hbb.cell 1 _ rfl
      have gc2 : w3.cell? ⟨qg, 2, none⟩ = some (.slice (some ⟨bc_, oc, none⟩) n kc) := hbb.cell 2 _ rfl
      clear hbb
      go_wp2_with fail
      clear gc0 gc1 gc2
      refine (solve_any g HR.out _ w3 (HV.out.on W.out)).mono ?_
      rintro e w4 ⟨u, rfl, ⟨p, s, rfl, hs, hlo, hbx⟩, hb⟩
      rw [HN.out]
      have HSOL := Lib.hid hs
      have HP := Lib.hid hbx
      have HSL := Lib.hid (show s.length = n by rw [hs.1.1, HN.out])
      replace BQg := Lib.hid (BQg.out.keep (grown_of_below hb none))
      replace W := Lib.hid (W.out.trans (hb.mono W.out.size))
      clear hb hs hlo hbx
      have hVp : ∀ w', Box w' p 26 (flatT s) → TupsV w' (.slice (some ⟨p, 0, none⟩) n n) s := fun w' h => by
        have h := h.tups (by rw [HSL.out]; omega) n
        rw [HSL.out] at h
        exact h
      have HVP := Lib.hid hVp
      clear hVp
      have hbb := BQg.out
      have gc0 : w4.cell? ⟨qg, 0, none⟩ = some (.slice (some ⟨ba, oa, none⟩) n ka) := hbb.cell 0 _ rfl
      have gc1 : w4.cell? ⟨qg, 1, none⟩ = some (.slice (some ⟨bb, ob, none⟩) n kb) := hbb.cell 1 _ rfl
      have gc2 : w4.cell? ⟨qg, 2, none⟩ = some (.slice (some ⟨bc_, oc, none⟩) n kc) := hbb.cell 2 _ rfl
      clear hbb
      go_wp2_with fail
      clear gc0 gc1 gc2
      go_loopw [10] (fun iv wr => ∃ i : Nat, i ≤ n ∧ iv = .int .i64 (i : Int) ∧ Box wr qg 33 #[.slice (some ⟨ba, oa, none⟩) n ka, .slice (some ⟨bb, ob, none⟩) n kb, .slice (some ⟨bc_, oc, none⟩) n kc] ∧ Box wr p 26 (flatT s) ∧ Below w.heap.size w wr) (fun iv _ => n - (intOf iv).toNat)
      case atStart => exact ⟨0, Nat.zero_le _, rfl, BQg.out, HP.out, W.out⟩
      case round =>
        obtain ⟨i, hi, rfl, b1, b2, hb⟩ := hrel
        replace BQg := Lib.hid b1
        replace HP := Lib.hid b2
        replace W := Lib.hid hb
        clear b1 b2 hb
        have hi0 : (0 : Int) ≤ (i : Int) := Int.natCast_nonneg _
        by_cases hlt : i < n
        · have fi : decide ((i : Int) < (n : Int)) = true := decide_eq_true (by omega)
          have hii : (i : Int) < (n : Int) := by omega
          have HLI := Lib.hid (show i < s.length by rw [HSL.out]; exact hlt)
          obtain ⟨t, ht⟩ : ∃ t, s.getD i .zero = t := ⟨_, rfl⟩
          have HT := Lib.hid ht
          have hig : i < g.owner.length := by rw [HN.out]; exact hlt
          have HGD := Lib.hid (show P.Tup.good g.tups t from by rw [← ht]; exact HSOL.out.1.2.1 i hig)
          have HLF := Lib.hid (show liftX g s (i : Int) = t from by
            rw [liftX_in HR.out HSOL.out.1.1 HLI.out, P.lift_same (HSOL.out.2 i hig), ht])
          have hVp := HVP.out
          clear ht hig
          go_upto_region 12 with (fail)
          refine Rt.wp_region_tail 1 (fun idx => match idx with | 0 => (fun v _ _ => v = .agg #[.slice (some ⟨ba, oa, none⟩) n ka, .slice (some ⟨bb, ob, none⟩) n kb, .slice (some ⟨bc_, oc, none⟩) n kc]) | 1 => (fun v _ _ => v = (.slice (some ⟨p, 0, none⟩) n n)) | 2 => (fun v _ _ => v = (.int .i64 (i : Int))) | 3 => (fun v _ _ => v = .agg (tc t)) | 4 => (fun v _ _ => v = (.slice (some ⟨p, 0, none⟩) n n)) | 5 => (fun v _ _ => v = (.int .i64 (i : Int))) | 6 => (fun v _ _ => v = (.pointer (some ⟨p, i * 5, none⟩))) | 7 => (fun v _ _ => v = .agg (tc t)) | _ => fun _ _ _ => True) (fun _ _ _ _ => True) (Rk.allK) 99 (by kernel_rfl) (by rfl) (by kernel_rfl) (by rfl) ?_ ?_ ?_ ?_
          · refine ⟨?_, ?_, ?_, ?_, ?_, ?_, ?_, ?_, trivial⟩
            · intro A w' K vals h hn hT hgk hK0
              have r0 : A.tmps[2]?.getD undef = .pointer (some ⟨qg, 0, none⟩) := Rg.slot h.1
              have bs := BQg.out.keep (Rk.grown_of hgk)
              have cc0 : w'.cell? ⟨qg, 0, none⟩ = some (.slice (some ⟨ba, oa, none⟩) n ka) := bs.cell 0 _ rfl
              have cc1 : w'.cell? ⟨qg, 1, none⟩ = some (.slice (some ⟨bb, ob, none⟩) n kb) := bs.cell 1 _ rfl
              have cc2 : w'.cell? ⟨qg, 2, none⟩ = some (.slice (some ⟨bc_, oc, none⟩) n kc) := bs.cell 2 _ rfl
              clear h hn hT hgk bs
              simp [Oper.wp, execOp, go_sem, r0, cc0, cc1, cc2]
              exact hK0 _ _ (Rk.Keeps.refl _ _) rfl trivial
            · intro A w' K vals h hn hT hgk hK0
              have r0 : A.tmps[9]?.getD undef = .slice (some ⟨p, 0, none⟩) n n := Rg.slot h.1
              clear h hn hT hgk
              simp [Oper.wp, execOp, go_sem, r0]
              exact hK0 _ _ (Rk.Keeps.refl _ _) rfl trivial
            · intro A w' K vals h hn hT hgk hK0
              have r0 : A.tmps[10]?.getD undef = .int .i64 (i : Int) := Rg.slot h.1
              clear h hn hT hgk
              simp [Oper.wp, execOp, go_sem, r0]
              exact hK0 _ _ (Rk.Keeps.refl _ _) rfl trivial
            · intro A w' K vals h hn hT hgk hK0
              have r0 : A.tmps[48]?.getD undef = vals 0 := Rg.slot h.2.1
              have r1 : A.tmps[49]?.getD undef = vals 1 := Rg.slot h.2.2.1
              have r2 : A.tmps[50]?.getD undef = vals 2 := Rg.slot h.2.2.2.1
              have s0 : vals 0 = .agg #[.slice (some ⟨ba, oa, none⟩) n ka, .slice (some ⟨bb, ob, none⟩) n kb, .slice (some ⟨bc_, oc, none⟩) n kc] := hn.1
              have s1 : vals 1 = (.slice (some ⟨p, 0, none⟩) n n) := hn.2.1
              have s2 : vals 2 = (.int .i64 (i : Int)) := hn.2.2.1
              have hb := below_of_grown (Rk.grown_of hgk)
              have hbw := W.out.trans (hb.mono W.out.size)
              clear h hn hT hgk
              simp [Oper.wp, go_sem, r0, r1, r2, s0, s1, s2]
              refine (liftx_any g s (i : Int) (sol_low HSOL.out.1) _ _ w' (HV.out.on hbw) ((hVp w' (HP.out.keep (grown_of_below hb none))))).mono ?_
              rintro e w'' ⟨rfl, hb⟩
              exact hK0 _ _ (Rk.keep_of (grown_of_below hb _)) (congrArg (fun x => Value.agg (tc x)) HLF.out) trivial
            · intro A w' K vals h hn hT hgk hK0
              have r0 : A.tmps[9]?.getD undef = .slice (some ⟨p, 0, none⟩) n n := Rg.slot h.1
              clear h hn hT hgk
              simp [Oper.wp, execOp, go_sem, r0]
              exact hK0 _ _ (Rk.Keeps.refl _ _) rfl trivial
            · intro A w' K vals h hn hT hgk hK0
              have r0 : A.tmps[10]?.getD undef = .int .i64 (i : Int) := Rg.slot h.1
              clear h hn hT hgk
              simp [Oper.wp, execOp, go_sem, r0]
              exact hK0 _ _ (Rk.Keeps.refl _ _) rfl trivial
            · intro A w' K vals h hn hT hgk hK0
              have r0 : A.tmps[52]?.getD undef = vals 4 := Rg.slot h.1
              have s0 : vals 4 = (.slice (some ⟨p, 0, none⟩) n n) := hn.1
              have r1 : A.tmps[53]?.getD undef = vals 5 := Rg.slot h.2.1
              have s1 : vals 5 = (.int .i64 (i : Int)) := hn.2.1
              clear h hn hT hgk
              simp [Oper.wp, execOp, go_sem, r0, r1, s0, s1, hi0, hii]
              exact hK0 _ _ (Rk.Keeps.refl _ _) rfl trivial
            · intro A w' K vals h hn hT hgk hK0
              have r0 : A.tmps[54]?.getD undef = vals 6 := Rg.slot h.1
              have s0 : vals 6 = (.pointer (some ⟨p, i * 5, none⟩)) := hn.1
              have c0 : w'.cell? ⟨p, i * 5, none⟩ = some (.bool t.top) := box_tcell (HP.out.keep (Rk.grown_of hgk)) HLI.out HT.out 0 _ rfl
              have c1 : w'.cell? ⟨p, i * 5 + 1, none⟩ = some (.int .i64 t.a) := box_tcell (HP.out.keep (Rk.grown_of hgk)) HLI.out HT.out 1 _ rfl
              have c2 : w'.cell? ⟨p, i * 5 + 2, none⟩ = some (.int .i64 t.b) := box_tcell (HP.out.keep (Rk.grown_of hgk)) HLI.out HT.out 2 _ rfl
              have c3 : w'.cell? ⟨p, i * 5 + 3, none⟩ = some (.int .i64 t.c) := box_tcell (HP.out.keep (Rk.grown_of hgk)) HLI.out HT.out 3 _ rfl
              have c4 : w'.cell? ⟨p, i * 5 + 4, none⟩ = some (.int .i64 t.d) := box_tcell (HP.out.keep (Rk.grown_of hgk)) HLI.out HT.out 4 _ rfl
              clear h hn hT hgk
              simp [Oper.wp, execOp, go_sem, r0, s0, c0, c1, c2, c3, c4]
              exact hK0 _ _ (Rk.Keeps.refl _ _) rfl trivial
          · refine ⟨?_, ?_, ?_, ?_, ?_, ?_, ?_, ?_, trivial⟩
            · exact fun _ _ _ _ _ _ h => h
            · exact fun _ _ _ _ _ _ h => h
            · exact fun _ _ _ _ _ _ h => h
            · exact fun _ _ _ _ _ _ h => h
            · exact fun _ _ _ _ _ _ h => h
            · exact fun _ _ _ _ _ _ h => h
            · exact fun _ _ _ _ _ _ h => h
            · exact fun _ _ _ _ _ _ h => h
          · exact fun _ _ _ _ _ _ h => h
          · intro vals w8 G hgk hS hG
            have s3 : vals 3 = .agg #[.bool t.top, .int .i64 t.a, .int .i64 t.b, .int .i64 t.c, .int .i64 t.d] := hS.2.2.2.1
            have s7 : vals 7 = .agg #[.bool t.top, .int .i64 t.a, .int .i64 t.b, .int .i64 t.c, .int .i64 t.d] := hS.2.2.2.2.2.2.2.1
            clear hS
            have hb := below_of_grown (Rk.grown_of hgk)
            replace HP := Lib.hid (HP.out.keep (Rk.grown_of hgk))
            replace BQg := Lib.hid (BQg.out.keep (grown_of_below hb none))
            replace W := Lib.hid (W.out.trans (hb.mono W.out.size))
            clear hb hgk
            have he : ∀ w, (binOp .neq 26 (.agg #[.bool t.top, .int .i64 t.a, .int .i64 t.b, .int .i64 t.c, .int .i64 t.d]) (.agg #[.bool t.top, .int .i64 t.a, .int .i64 t.b, .int .i64 t.c, .int .i64 t.d])).run Try.prog w = .ok (.bool false) w := fun w => (tup_neq t t w).trans (by rw [decide_eq_true rfl]; rfl)
            refine hG ?_
            clear hG
            simp only [List.take, List.drop, List.length, Nat.reduceSub, Nat.reduceAdd, Rg.putAll, Act.put, List.setIfInBounds_toArray, List.set_cons_succ, List.set_cons_zero, s3, s7]
            clear s3 s7
            go_upto_region 14 with (fail)
            clear he
            go_wp2_with fail
            obtain ⟨wo, rfl⟩ : ∃ wo : World, wo = wr := ⟨_, rfl⟩
            go_loopw [11] (fun kv wr => ∃ k : Nat, k ≤ 4 ∧ kv = .int .i64 (k : Int) ∧ wr = w8) (fun kv _ => (4 - intOf kv).toNat)
            case atStart => exact ⟨0, by omega, rfl, rfl⟩
            case round =>
              obtain ⟨k, hk, rfl, hw⟩ := hrel
              rw [hw]
              clear hw
              have hk0 : (0 : Int) ≤ (k : Int) := Int.natCast_nonneg _
              by_cases hk4 : k < 4
              · have fk : decide ((k : Int) < 4) = true := decide_eq_true (by omega)
                have hk4i : (k : Int) < 4 := by omega
                go_wp2_with fail
                go_loopw [12, 13] (fun nv mv wr => ∃ m : Nat, m ≤ n ∧ nv = .int .i64 (nt g.prio m k) ∧ mv = .int .i64 (m : Int) ∧ wr = w8) (fun _ mv _ => n - (intOf mv).toNat)
                case atStart => exact ⟨0, Nat.zero_le _, by rw [show nt g.prio 0 k = 0 by simp [nt]], rfl, rfl⟩
                case round =>
                  obtain ⟨m, hm, rfl, rfl, hw⟩ := hrel
                  rw [hw]
                  clear hw
                  have hm0 : (0 : Int) ≤ (m : Int) := Int.natCast_nonneg _
                  have hnt0 := nt_low g.prio m k
                  have hnt1 := nt_le g.prio m n HPN.out k
                  have hbb := BQg.out
                  have gc0 : w8.cell? ⟨qg, 0, none⟩ = some (.slice (some ⟨ba, oa, none⟩) n ka) := hbb.cell 0 _ rfl
                  have gc1 : w8.cell? ⟨qg, 1, none⟩ = some (.slice (some ⟨bb, ob, none⟩) n kb) := hbb.cell 1 _ rfl
                  have gc2 : w8.cell? ⟨qg, 2, none⟩ = some (.slice (some ⟨bc_, oc, none⟩) n kc) := hbb.cell 2 _ rfl
                  clear hbb
                  by_cases hmn : m < n
                  · have fm : decide ((m : Int) < (n : Int)) = true := decide_eq_true (by omega)
                    have hmi : (m : Int) < (n : Int) := by omega
                    have cp := HCB.out w8 W.out m hmn
                    have hs := nt_step g.prio m k (by rw [HPN.out]; exact hmn)
                    have hx0 : (0 : Int) ≤ 2 * (k : Int) + 1 := by omega
                    obtain ⟨z, hz⟩ : ∃ z, g.prio.getD m 0 = z := ⟨_, rfl⟩
                    rw [hz] at cp hs
                    clear hz
                    obtain ⟨y, hy⟩ : ∃ y, nt g.prio m k = y := ⟨_, rfl⟩
                    rw [hy] at hs hnt0 hnt1 ⊢
                    clear hy
                    by_cases hq : z = 2 * (k : Int) + 1
                    · have fq : (z == 2 * (k : Int) + 1) = true := by rw [beq_iff_eq]; exact hq
                      rw [if_pos hq] at hs
                      have HS := Lib.hid hs
                      clear hs
                      go_wp2_with fail
                      clear gc0 gc1 gc2 cp
                      go_roundw
                      case rel => exact ⟨m + 1, by omega, by rw [HS.out], by first | rfl | go_num, by first | trivial | rfl⟩
                      case measure => simp [intOf]; omega
                    · have fq : (z == 2 * (k : Int) + 1) = false := by rw [beq_eq_false_iff_ne]; exact hq
                      rw [if_neg hq, Int.add_zero] at hs
                      have HS := Lib.hid hs
                      clear hs
                      go_wp2_with fail
                      clear gc0 gc1 gc2 cp
                      go_roundw
                      case rel => exact ⟨m + 1, by omega, by rw [HS.out], by first | rfl | go_num, by first | trivial | rfl⟩
                      case measure => simp [intOf]; omega
                  · have fm : decide ((m : Int) < (n : Int)) = false := decide_eq_false (by omega)
                    have hmm : m = n := by omega
                    have hgd := HGD.out
                    have hct := good_ct hgd k hk4
                    rw [tups_ct g k hk4] at hct
                    have hnta := nt_all g.prio n HPN.out k
                    rw [← hmm] at hnta
                    rw [← hnta] at hct
                    have cx := box_tcell HP.out HLI.out HT.out (1 + k) (.int .i64 (ct t k)) (tl_ct t k hk4)
                    have ct0 := box_tcell HP.out HLI.out HT.out 0 (.bool t.top) rfl
                    rw [show i * 5 + (1 + k) = i * 5 + 1 + k by omega] at cx
                    have ct0 : w8.cell? ⟨p, i * 5, none⟩ = some (.bool t.top) := ct0
                    obtain ⟨x, hx⟩ : ∃ x, ct t k = x := ⟨_, rfl⟩
                    rw [hx] at cx hct
                    obtain ⟨y, hy⟩ : ∃ y, nt g.prio m k = y := ⟨_, rfl⟩
                    rw [hy] at hct hnt0 hnt1 ⊢
                    obtain ⟨tp, htp⟩ : ∃ b, t.top = b := ⟨_, rfl⟩
                    rw [htp] at ct0 hct
                    have f1 : decide (x < 0) = false := decide_eq_false (by omega)
                    have f2 : decide (y < x) = false := decide_eq_false (by omega)
                    have f3 : tp = true → (x != 0) = false := fun h => by rw [bne_eq_false_iff_eq]; exact hct.2 h
                    have HCT := Lib.hid hct
                    clear hct hgd hnta hx hy htp
                    cases tp
                    · clear f3
                      go_wp2_with fail
                      clear gc0 gc1 gc2 cx ct0
                      go_roundw
                      case rel => exact ⟨k + 1, by omega, by first | rfl | go_num, by first | trivial | rfl⟩
                      case measure => simp [intOf]; omega
                    · have f4 := f3 rfl
                      clear f3
                      go_wp2_with fail
                      clear gc0 gc1 gc2 cx ct0
                      go_roundw
                      case rel => exact ⟨k + 1, by omega, by first | rfl | go_num, by first | trivial | rfl⟩
                      case measure => simp [intOf]; omega
              · have fk : decide ((k : Int) < 4) = false := decide_eq_false (by omega)
                go_wp2_with fail
                go_roundw
                case rel => exact ⟨i + 1, by omega, by first | rfl | go_num, BQg.out, HP.out, W.out⟩
                case measure => simp [intOf]; omega
        · have fi : decide ((i : Int) < (n : Int)) = false := decide_eq_false (by omega)
          go_wp2_with fail
          refine (tuples_any l HSZ.out _ wr (HVL.out.on W.out)).mono ?_
          rintro e w5 ⟨v', rfl, ho, hb⟩
          obtain ⟨po, pk, rfl⟩ := ho.slice
          have TP := Lib.hid (ho.tups (by have := HSZ.out; omega))
          have hszl := HSZ.out
          replace BQg := Lib.hid (BQg.out.keep (grown_of_below hb none))
          replace W := Lib.hid (W.out.trans (hb.mono W.out.size))
          clear hb ho
          obtain ⟨m, hm⟩ : ∃ m, l.length = m := ⟨_, rfl⟩
          have HM := Lib.hid hm
          rw [hm] at TP hszl ⊢
          clear hm
          by_cases hmn : m = n
          · have fe : (((m : Nat) : Int) != ((n : Nat) : Int)) = false := by rw [bne_eq_false_iff_eq]; omega
            subst hmn
            go_wp2_with fail
            obtain ⟨wo, rfl⟩ : ∃ wo : World, wo = wr := ⟨_, rfl⟩
            go_loopw [15] (fun iv wr => ∃ i : Nat, i ≤ m ∧ iv = .int .i64 (i : Int) ∧ Box wr qg 33 #[.slice (some ⟨ba, oa, none⟩) m ka, .slice (some ⟨bb, ob, none⟩) m kb, .slice (some ⟨bc_, oc, none⟩) m kc] ∧ TupsV wr (.slice po m pk) l ∧ Below w.heap.size w wr) (fun iv _ => m - (intOf iv).toNat)
            case atStart => exact ⟨0, Nat.zero_le _, rfl, BQg.out, TP.out, W.out⟩
            case round =>
              obtain ⟨i, hi, rfl, b1, tp, hb⟩ := hrel
              replace BQg := Lib.hid b1
              replace TP := Lib.hid tp
              replace W := Lib.hid hb
              clear b1 tp hb
              have hi0 : (0 : Int) ≤ (i : Int) := Int.natCast_nonneg _
              by_cases hlt : i < m
              · have fi : decide ((i : Int) < (m : Int)) = true := decide_eq_true (by omega)
                have hii : (i : Int) < (m : Int) := by omega
                obtain ⟨bp, op_, pk2, e9, -, hcp⟩ := TP.out.open_ HM.out (by omega)
                obtain ⟨rfl, rfl⟩ : po = some ⟨bp, op_, none⟩ ∧ pk = pk2 := by injection e9 with h1 h2 h3; exact ⟨h1, h3⟩
                obtain ⟨t, ht⟩ : ∃ t, l.getD i .zero = t := ⟨_, rfl⟩
                obtain ⟨u, hu⟩ : ∃ u, g.lift l i = u := ⟨_, rfl⟩
                have HCP := Lib.hid (fun w' hw' => hcp w' hw' i hlt)
                rw [ht] at HCP
                have HLF := Lib.hid (show liftX g l (i : Int) = u from by rw [liftX_in HR.out (by rw [HM.out, HN.out]) (by rw [HM.out]; exact hlt), hu])
                have hup := lift_up g l i
                rw [ht, hu] at hup
                obtain ⟨cz, hcz⟩ : ∃ c, P.Tup.cmp u t 0 = c := ⟨_, rfl⟩
                rw [hcz] at hup
                have HCZ := Lib.hid hcz
                have fc : decide (cz < 0) = false := decide_eq_false (by omega)
                have hcn : ¬ cz < 0 := by omega
                clear e9 hcp ht hu hcz hup
                go_upto_region 31 with (fail)
                refine Rt.wp_region_tail 1 (fun idx => match idx with | 0 => (fun v _ _ => v = .agg #[.slice (some ⟨ba, oa, none⟩) m ka, .slice (some ⟨bb, ob, none⟩) m kb, .slice (some ⟨bc_, oc, none⟩) m kc]) | 1 => (fun v _ _ => v = (.slice (some ⟨bp, op_, none⟩) m pk)) | 2 => (fun v _ _ => v = (.int .i64 (i : Int))) | 3 => (fun v _ _ => v = .agg (tc u)) | 4 => (fun v _ _ => v = (.slice (some ⟨bp, op_, none⟩) m pk)) | 5 => (fun v _ _ => v = (.int .i64 (i : Int))) | 6 => (fun v _ _ => v = (.pointer (some ⟨bp, op_ + i * 5, none⟩))) | 7 => (fun v _ _ => v = .agg (tc t)) | 8 => (fun v _ _ => v = (.int .i64 cz)) | _ => fun _ _ _ => True) (fun _ _ _ _ => True) (Rk.allK) 99 (by kernel_rfl) (by rfl) (by kernel_rfl) (by rfl) ?_ ?_ ?_ ?_
                · refine ⟨?_, ?_, ?_, ?_, ?_, ?_, ?_, ?_, ?_, trivial⟩
                  · intro A w' K vals h hn hT hgk hK0
                    have r0 : A.tmps[2]?.getD undef = .pointer (some ⟨qg, 0, none⟩) := Rg.slot h.1
                    have bs := BQg.out.keep (Rk.grown_of hgk)
                    have cc0 : w'.cell? ⟨qg, 0, none⟩ = some (.slice (some ⟨ba, oa, none⟩) m ka) := bs.cell 0 _ rfl
                    have cc1 : w'.cell? ⟨qg, 1, none⟩ = some (.slice (some ⟨bb, ob, none⟩) m kb) := bs.cell 1 _ rfl
                    have cc2 : w'.cell? ⟨qg, 2, none⟩ = some (.slice (some ⟨bc_, oc, none⟩) m kc) := bs.cell 2 _ rfl
                    clear h hn hT hgk bs
                    simp [Oper.wp, execOp, go_sem, r0, cc0, cc1, cc2]
                    exact hK0 _ _ (Rk.Keeps.refl _ _) rfl trivial
                  · intro A w' K vals h hn hT hgk hK0
                    have r0 : A.tmps[14]?.getD undef = .slice (some ⟨bp, op_, none⟩) m pk := Rg.slot h.1
                    clear h hn hT hgk
                    simp [Oper.wp, execOp, go_sem, r0]
                    exact hK0 _ _ (Rk.Keeps.refl _ _) rfl trivial
                  · intro A w' K vals h hn hT hgk hK0
                    have r0 : A.tmps[15]?.getD undef = .int .i64 (i : Int) := Rg.slot h.1
                    clear h hn hT hgk
                    simp [Oper.wp, execOp, go_sem, r0]
                    exact hK0 _ _ (Rk.Keeps.refl _ _) rfl trivial
                  · intro A w' K vals h hn hT hgk hK0
                    have r0 : A.tmps[128]?.getD undef = vals 0 := Rg.slot h.2.1
                    have r1 : A.tmps[129]?.getD undef = vals 1 := Rg.slot h.2.2.1
                    have r2 : A.tmps[130]?.getD undef = vals 2 := Rg.slot h.2.2.2.1
                    have s0 : vals 0 = .agg #[.slice (some ⟨ba, oa, none⟩) m ka, .slice (some ⟨bb, ob, none⟩) m kb, .slice (some ⟨bc_, oc, none⟩) m kc] := hn.1
                    have s1 : vals 1 = (.slice (some ⟨bp, op_, none⟩) m pk) := hn.2.1
                    have s2 : vals 2 = (.int .i64 (i : Int)) := hn.2.2.1
                    have hb := below_of_grown (Rk.grown_of hgk)
                    have hbw := W.out.trans (hb.mono W.out.size)
                    clear h hn hT hgk
                    simp [Oper.wp, go_sem, r0, r1, r2, s0, s1, s2]
                    refine (liftx_any g l (i : Int) HLOW.out _ _ w' (HV.out.on hbw) (TP.out.on hb)).mono ?_
                    rintro e w'' ⟨rfl, hb⟩
                    exact hK0 _ _ (Rk.keep_of (grown_of_below hb _)) (congrArg (fun x => Value.agg (tc x)) HLF.out) trivial
                  · intro A w' K vals h hn hT hgk hK0
                    have r0 : A.tmps[14]?.getD undef = .slice (some ⟨bp, op_, none⟩) m pk := Rg.slot h.1
                    clear h hn hT hgk
                    simp [Oper.wp, execOp, go_sem, r0]
                    exact hK0 _ _ (Rk.Keeps.refl _ _) rfl trivial
                  · intro A w' K vals h hn hT hgk hK0
                    have r0 : A.tmps[15]?.getD undef = .int .i64 (i : Int) := Rg.slot h.1
                    clear h hn hT hgk
                    simp [Oper.wp, execOp, go_sem, r0]
                    exact hK0 _ _ (Rk.Keeps.refl _ _) rfl trivial
                  · intro A w' K vals h hn hT hgk hK0
                    have r0 : A.tmps[132]?.getD undef = vals 4 := Rg.slot h.1
                    have s0 : vals 4 = (.slice (some ⟨bp, op_, none⟩) m pk) := hn.1
                    have r1 : A.tmps[133]?.getD undef = vals 5 := Rg.slot h.2.1
                    have s1 : vals 5 = (.int .i64 (i : Int)) := hn.2.1
                    clear h hn hT hgk
                    simp [Oper.wp, execOp, go_sem, r0, r1, s0, s1, hi0, hii]
                    exact hK0 _ _ (Rk.Keeps.refl _ _) rfl trivial
                  · intro A w' K vals h hn hT hgk hK0
                    have r0 : A.tmps[134]?.getD undef = vals 6 := Rg.slot h.1
                    have s0 : vals 6 = (.pointer (some ⟨bp, op_ + i * 5, none⟩)) := hn.1
                    have c0 : w'.cell? ⟨bp, op_ + i * 5, none⟩ = some (.bool t.top) := HCP.out w' (below_of_grown (Rk.grown_of hgk)) 0 _ rfl
                    have c1 : w'.cell? ⟨bp, op_ + i * 5 + 1, none⟩ = some (.int .i64 t.a) := HCP.out w' (below_of_grown (Rk.grown_of hgk)) 1 _ rfl
                    have c2 : w'.cell? ⟨bp, op_ + i * 5 + 2, none⟩ = some (.int .i64 t.b) := HCP.out w' (below_of_grown (Rk.grown_of hgk)) 2 _ rfl
                    have c3 : w'.cell? ⟨bp, op_ + i * 5 + 3, none⟩ = some (.int .i64 t.c) := HCP.out w' (below_of_grown (Rk.grown_of hgk)) 3 _ rfl
                    have c4 : w'.cell? ⟨bp, op_ + i * 5 + 4, none⟩ = some (.int .i64 t.d) := HCP.out w' (below_of_grown (Rk.grown_of hgk)) 4 _ rfl
                    clear h hn hT hgk
                    simp [Oper.wp, execOp, go_sem, r0, s0, c0, c1, c2, c3, c4]
                    exact hK0 _ _ (Rk.Keeps.refl _ _) rfl trivial
                  · intro A w' K vals h hn hT hgk hK0
                    have r0 : A.tmps[131]?.getD undef = vals 3 := Rg.slot h.2.1
                    have r1 : A.tmps[135]?.getD undef = vals 7 := Rg.slot h.2.2.1
                    have s0 : vals 3 = .agg (tc u) := hn.1
                    have s1 : vals 7 = .agg (tc t) := hn.2.1
                    clear h hn hT hgk
                    simp [Oper.wp, go_sem, r0, r1, s0, s1]
                    refine (compare_any u t 0 w').mono ?_
                    rintro e w'' ⟨rfl, hb⟩
                    exact hK0 _ _ (Rk.keep_of (grown_of_below hb _)) (congrArg (Value.int .i64) HCZ.out) trivial
                · refine ⟨?_, ?_, ?_, ?_, ?_, ?_, ?_, ?_, ?_, trivial⟩
                  · exact fun _ _ _ _ _ _ h => h
                  · exact fun _ _ _ _ _ _ h => h
                  · exact fun _ _ _ _ _ _ h => h
                  · exact fun _ _ _ _ _ _ h => h
                  · exact fun _ _ _ _ _ _ h => h
                  · exact fun _ _ _ _ _ _ h => h
                  · exact fun _ _ _ _ _ _ h => h
                  · exact fun _ _ _ _ _ _ h => h
                  · exact fun _ _ _ _ _ _ h => h
                · exact fun _ _ _ _ _ _ h => h
                · intro vals w8 G hgk hS hG
                  have s8 : vals 8 = .int .i64 cz := hS.2.2.2.2.2.2.2.2.1
                  clear hS
                  have hb := below_of_grown (Rk.grown_of hgk)
                  replace BQg := Lib.hid (BQg.out.keep (grown_of_below hb none))
                  replace W := Lib.hid (W.out.trans (hb.mono W.out.size))
                  replace TP := Lib.hid (TP.out.on hb)
                  clear hb hgk
                  refine hG ?_
                  clear hG
                  simp only [List.take, List.drop, List.length, Nat.reduceSub, Nat.reduceAdd, Rg.putAll, Act.put, List.setIfInBounds_toArray, List.set_cons_succ, List.set_cons_zero, s8]
                  clear s8
                  go_wp2_with fail
                  go_roundw
                  case rel => exact ⟨i + 1, by omega, by first | rfl | go_num, BQg.out, TP.out, W.out⟩
                  case measure => simp [intOf]; omega
              · have fi : decide ((i : Int) < (m : Int)) = false := decide_eq_false (by omega)
                go_wp2_with fail
                exact bodyPost_ret (v := .bool true) (by simp [results, Try.results9, go_sem]) rfl ⟨rfl, W.out⟩
          · have fe : (((m : Nat) : Int) != ((n : Nat) : Int)) = true := by rw [bne_iff_ne]; omega
            go_wp2_with fail
            exact bodyPost_ret (v := .bool true) (by simp [results, Try.results9, go_sem]) rfl ⟨rfl, W.out⟩
    · go_wp2_with fail
      exact bodyPost_ret (v := .bool true) (by simp [results, Try.results9, go_sem]) rfl ⟨rfl, W.out⟩
      end W
end Go.Proofs.Yteeaojciobmcaaa
