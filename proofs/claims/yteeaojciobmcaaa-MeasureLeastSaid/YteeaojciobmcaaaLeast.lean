/- MeasureLeast: the walk. -/
import Derived.Test.YteeaojciobmcaaaShown
import Derived.Test.YteeaojciobmcaaaBoundsL
import Derived.Test.YteeaojciobmcaaaFrame
import Derived.Lib.QuietBelow
import Derived.Deep.Cut
import Derived.Deep.CutRange
import Derived.Lib.Hide
import Derived.Deep.QuietTactic
import Derived.BigQuiet
namespace Go.Proofs.Yteeaojciobmcaaa
open Go.RowKit Go.Sort
namespace W

theorem own_tcell {w : World} {lo gp n pk : Nat} {l : List P.Tup} (h : OwnT w lo (.slice (some ⟨gp, 0, none⟩) n pk) l) (hm : l.length = n) {x : Nat} (hx : x < l.length) {t : P.Tup} (ht : l.getD x .zero = t) (j : Nat) (u : Value) (hu : (tl t)[j]? = some u) : w.cell? ⟨gp, x * 5 + j, none⟩ = some u := by
  have hj : j < 5 := (List.getElem?_eq_some_iff.1 hu).1
  have hw : w.ownsRow lo 26 5 (.slice (some ⟨gp, 0, none⟩) n pk) n (flatL l) := by rw [← hm] at h ⊢; exact h
  rw [hw.cellAt (x * 5 + j) (by omega), flatL_at l x j hx hj, ht]
  exact hu
theorem own_tfree {w : World} {lo gp n pk : Nat} {l : List P.Tup} (h : OwnT w lo (.slice (some ⟨gp, 0, none⟩) n pk) l) (j : Nat) : w.frozen? ⟨gp, j, none⟩ = false := by
  have hw : w.ownsRow lo 26 5 (.slice (some ⟨gp, 0, none⟩) n pk) l.length (flatL l) := h
  rcases hw.2 with ⟨e, _⟩ | ⟨g, cap, cur, e, _, hg, _⟩
  · cases e
  · injection e with e1 e2 e3
    injection e1 with e1
    injection e1 with e1
    subst e1
    exact frozen_of_row w gp j cur _ hg
theorem own_tups {w : World} {lo gp n pk : Nat} {l : List P.Tup} (h : OwnT w lo (.slice (some ⟨gp, 0, none⟩) n pk) l) (hm : l.length = n) (hn : n ≤ 17592186043904) : TupsV w (.slice (some ⟨gp, 0, none⟩) n pk) l := h.tups (by omega)
theorem own_setAt {w : World} {lo gp n pk : Nat} {l : List P.Tup} (h : OwnT w lo (.slice (some ⟨gp, 0, none⟩) n pk) l) (hm : l.length = n) (i : Nat) (hi : i < l.length) (t : P.Tup) : OwnT (((((w.setCell ⟨gp, i * 5, none⟩ (.bool t.top)).setCell ⟨gp, i * 5 + 1, none⟩ (.int .i64 t.a)).setCell ⟨gp, i * 5 + 2, none⟩ (.int .i64 t.b)).setCell ⟨gp, i * 5 + 3, none⟩ (.int .i64 t.c)).setCell ⟨gp, i * 5 + 4, none⟩ (.int .i64 t.d)) lo (.slice (some ⟨gp, 0, none⟩) n pk) (l.set i t) := by
  have hw : w.ownsRow lo 26 5 (.slice (some ⟨gp, 0, none⟩) n pk) n (flatL l) := by rw [← hm] at h ⊢; exact h
  unfold OwnT
  rw [List.length_set, hm, ← flatL_set t l i hi]
  exact (((((hw.stored (i * 5) _).1.stored (i * 5 + 1) _).1.stored (i * 5 + 2) _).1.stored (i * 5 + 3) _).1.stored (i * 5 + 4) _).1
theorem rng_low {g : P.G} {l : List P.Tup} (h : P.Rng g l) : ∀ j k, k < 4 → -9223372036854775808 ≤ ct (l.getD j .zero) k := by
  intro j k hk
  rcases Nat.lt_or_ge j g.owner.length with hj | hj
  · have h1 := h.2 j hj
    unfold P.Tup.inR at h1
    match k, hk with
    | 0, _ => show _ ≤ (l.getD j .zero).a; omega
    | 1, _ => show _ ≤ (l.getD j .zero).b; omega
    | 2, _ => show _ ≤ (l.getD j .zero).c; omega
    | 3, _ => show _ ≤ (l.getD j .zero).d; omega
  · rw [List.getD_eq_getElem?_getD, List.getElem?_eq_none (by rw [h.1]; exact hj)]
    match k, hk with
    | 0, _ | 1, _ | 2, _ | 3, _ => decide
theorem rng_lift {g : P.G} (hr : g.Right) {l : List P.Tup} (h : P.Rng g l) {i : Nat} (hi : i < g.owner.length) : P.Rng g (l.set i (g.lift l i)) := by
  refine ⟨by rw [List.length_set]; exact h.1, fun j hj => ?_⟩
  rw [P.getD_set l i j _ (by rw [h.1]; exact hi)]
  split
  · unfold P.G.lift
    split
    · exact (P.choose_good hr h hi).1
    · exact h.2 i hi
  · exact h.2 j hj
theorem inR_of {n t : P.Tup} (h : ∀ k, k < 4 → 0 ≤ ct t k ∧ ct t k ≤ ct n k) : P.Tup.inR n t := ⟨h 0 (by omega), h 1 (by omega), h 2 (by omega), h 3 (by omega)⟩
set_option maxRecDepth 100000 in
set_option maxHeartbeats 8000000 in
theorem least_law (g : P.G) (l : List P.Tup) (v vl : Value) (w : World) (hv : GameV w v g) (hV : TupsV w vl l) (hsz : l.length * 40 ≤ 140737488351232) : Calls Try.prog 10 #[v, vl] w fun e w' => e = .returned (.bool true) ∧ Below w.heap.size w w' := by
  have HSZ := Lib.hid hsz
  have HVL := Lib.hid hV
  have HV := Lib.hid hv
  cases hok : g.ok
  · obtain ⟨a, b, c, rfl, -⟩ := hv
    have hq0 : g.right.2 ≠ 0 := by unfold P.G.ok at hok; exact beq_eq_false_iff_ne.1 hok
    clear hok hV hsz
    go_enter Try.func10, Try.ntmps10
    go_wp2_with fail
    have bx0 : Box (w.alloc (.cells #[a, b, c] 33)) (w.heap.size) 33 #[a, b, c] := Box.new w 33 #[a, b, c]
    have hbq : Below w.heap.size w (w.alloc (.cells #[a, b, c] 33)) := (Below.refl _ w).alloc (Nat.le_refl _) _
    have hle0 : w.heap.size ≤ w.heap.size := Nat.le_refl _
    generalize (w.alloc (.cells #[a, b, c] 33)) = w0 at bx0 hbq  ⊢
    have BQg := Lib.hid bx0
    have W := Lib.hid hbq
    have LEg := Lib.hid hle0
    clear hbq hle0 bx0 
    obtain ⟨qg, hqg⟩ : ∃ qg, w.heap.size = qg := ⟨_, rfl⟩
    rw [hqg] at BQg ⊢
    have LEg : Hid (w.heap.size ≤ qg) := Lib.hid (by omega)
    clear hqg
    refine (shown_any w0).mono ?_
    rintro e w1 ⟨rfl, hb⟩
    replace BQg := Lib.hid (BQg.out.keep (grown_of_below hb none))
    replace W := Lib.hid (W.out.trans (hb.mono W.out.size))
    clear hb
    have hbb := BQg.out
    have gc0 : w1.cell? ⟨qg, 0, none⟩ = some a := hbb.cell 0 _ rfl
    have gc1 : w1.cell? ⟨qg, 1, none⟩ = some b := hbb.cell 1 _ rfl
    have gc2 : w1.cell? ⟨qg, 2, none⟩ = some c := hbb.cell 2 _ rfl
    clear hbb
    go_wp2_with fail
    clear gc0 gc1 gc2
    refine (right_any g _ _ (HV.out.on W.out)).mono ?_
    rintro e w2 ⟨rfl, hb⟩
    replace BQg := Lib.hid (BQg.out.keep (grown_of_below hb none))
    replace W := Lib.hid (W.out.trans (hb.mono W.out.size))
    clear hb
    obtain ⟨z, hz⟩ : ∃ z, g.right.2 = z := ⟨_, rfl⟩
    rw [hz] at hq0 ⊢
    have fq : (((z : Nat) : Int) != 0) = true := by rw [bne_iff_ne]; omega
    clear hz hq0
    have hbb := BQg.out
    have gc0 : w2.cell? ⟨qg, 0, none⟩ = some a := hbb.cell 0 _ rfl
    have gc1 : w2.cell? ⟨qg, 1, none⟩ = some b := hbb.cell 1 _ rfl
    have gc2 : w2.cell? ⟨qg, 2, none⟩ = some c := hbb.cell 2 _ rfl
    clear hbb
    go_wp2_with fail
    clear gc0 gc1 gc2
    refine (heavy_any g _ w2 (HV.out.on W.out)).mono ?_
    rintro e w3 ⟨lg, rfl, hb⟩
    replace BQg := Lib.hid (BQg.out.keep (grown_of_below hb none))
    replace W := Lib.hid (W.out.trans (hb.mono W.out.size))
    clear hb
    go_wp2_with fail
    exact bodyPost_ret (v := .bool true) (by simp [results, Try.results10, go_sem]) rfl ⟨rfl, W.out⟩
  · have hr := (P.G.ok_iff g).1 hok
    have hop := hr.prio
    have hmp := hr.moves
    have hmany := hr.many
    have h0 := hr.pos
    obtain ⟨n, hn⟩ : ∃ n, g.owner.length = n := ⟨_, rfl⟩
    rw [hn] at hop hmp hmany h0
    obtain ⟨ba, oa, ka, bb, ob, kb, bc_, oc, kc, rfl, -, hcb, -⟩ := hv.open_ hn hop hmp h0
    obtain ⟨m, hm⟩ : ∃ m, l.length = m := ⟨_, rfl⟩
    have HMM := Lib.hid hm
    rw [hm] at hsz
    have HCB := Lib.hid hcb
    have HPN := Lib.hid hop
    have HR := Lib.hid hr
    have HN := Lib.hid hn
    have hq0 : g.right.2 = 0 := by unfold P.G.ok at hok; exact beq_iff_eq.1 hok
    rcases (show ∃ x k, vl = .slice x m k by obtain ⟨x, k, h, -⟩ := hV; exact ⟨x, k, by rw [← hm]; exact h⟩) with ⟨lo, lk, rfl⟩
    clear hok hV hr hop hmp hn hcb hm
    go_enter Try.func10, Try.ntmps10
    go_wp2_with fail
    have bx0 : Box (w.alloc (.cells #[.slice (some ⟨ba, oa, none⟩) n ka, .slice (some ⟨bb, ob, none⟩) n kb, .slice (some ⟨bc_, oc, none⟩) n kc] 33)) (w.heap.size) 33 #[.slice (some ⟨ba, oa, none⟩) n ka, .slice (some ⟨bb, ob, none⟩) n kb, .slice (some ⟨bc_, oc, none⟩) n kc] := Box.new w 33 #[.slice (some ⟨ba, oa, none⟩) n ka, .slice (some ⟨bb, ob, none⟩) n kb, .slice (some ⟨bc_, oc, none⟩) n kc]
    have hbq : Below w.heap.size w (w.alloc (.cells #[.slice (some ⟨ba, oa, none⟩) n ka, .slice (some ⟨bb, ob, none⟩) n kb, .slice (some ⟨bc_, oc, none⟩) n kc] 33)) := (Below.refl _ w).alloc (Nat.le_refl _) _
    have hle0 : w.heap.size ≤ w.heap.size := Nat.le_refl _
    generalize (w.alloc (.cells #[.slice (some ⟨ba, oa, none⟩) n ka, .slice (some ⟨bb, ob, none⟩) n kb, .slice (some ⟨bc_, oc, none⟩) n kc] 33)) = w0 at bx0 hbq  ⊢
    have BQg := Lib.hid bx0
    have W := Lib.hid hbq
    have LEg := Lib.hid hle0
    clear hbq hle0 bx0 
    obtain ⟨qg, hqg⟩ : ∃ qg, w.heap.size = qg := ⟨_, rfl⟩
    rw [hqg] at BQg ⊢
    have LEg : Hid (w.heap.size ≤ qg) := Lib.hid (by omega)
    clear hqg
    refine (shown_any w0).mono ?_
    rintro e w1 ⟨rfl, hb⟩
    replace BQg := Lib.hid (BQg.out.keep (grown_of_below hb none))
    replace W := Lib.hid (W.out.trans (hb.mono W.out.size))
    clear hb
    have hbb := BQg.out
    have gc0 : w1.cell? ⟨qg, 0, none⟩ = some (.slice (some ⟨ba, oa, none⟩) n ka) := hbb.cell 0 _ rfl
    have gc1 : w1.cell? ⟨qg, 1, none⟩ = some (.slice (some ⟨bb, ob, none⟩) n kb) := hbb.cell 1 _ rfl
    have gc2 : w1.cell? ⟨qg, 2, none⟩ = some (.slice (some ⟨bc_, oc, none⟩) n kc) := hbb.cell 2 _ rfl
    clear hbb
    go_wp2_with fail
    clear gc0 gc1 gc2
    refine (right_any g _ _ (HV.out.on W.out)).mono ?_
    rintro e w2 ⟨rfl, hb⟩
    replace BQg := Lib.hid (BQg.out.keep (grown_of_below hb none))
    replace W := Lib.hid (W.out.trans (hb.mono W.out.size))
    clear hb
    obtain ⟨z, hz⟩ : ∃ z, g.right.2 = z := ⟨_, rfl⟩
    rw [hz] at hq0 ⊢
    have fq : (((z : Nat) : Int) != 0) = false := by rw [bne_eq_false_iff_eq]; omega
    clear hz hq0
    have hbb := BQg.out
    have gc0 : w2.cell? ⟨qg, 0, none⟩ = some (.slice (some ⟨ba, oa, none⟩) n ka) := hbb.cell 0 _ rfl
    have gc1 : w2.cell? ⟨qg, 1, none⟩ = some (.slice (some ⟨bb, ob, none⟩) n kb) := hbb.cell 1 _ rfl
    have gc2 : w2.cell? ⟨qg, 2, none⟩ = some (.slice (some ⟨bc_, oc, none⟩) n kc) := hbb.cell 2 _ rfl
    clear hbb
    go_wp2_with fail
    clear gc0 gc1 gc2
    refine (heavy_any g _ w2 (HV.out.on W.out)).mono ?_
    rintro e w3 ⟨lg, rfl, hb⟩
    replace BQg := Lib.hid (BQg.out.keep (grown_of_below hb none))
    replace W := Lib.hid (W.out.trans (hb.mono W.out.size))
    clear hb
    cases lg
    · simp only []
      have hbb := BQg.out
      have gc0 : w3.cell? ⟨qg, 0, none⟩ = some (.slice (some ⟨ba, oa, none⟩) n ka) := hbb.cell 0 _ rfl
      have gc1 : w3.cell? ⟨qg, 1, none⟩ = some (.slice (some ⟨bb, ob, none⟩) n kb) := hbb.cell 1 _ rfl
      have gc2 : w3.cell? ⟨qg, 2, none⟩ = some (.slice (some ⟨bc_, oc, none⟩) n kc) := hbb.cell 2 _ rfl
      clear hbb
      by_cases hmn : m = n
      · have fe : (((m : Nat) : Int) != ((n : Nat) : Int)) = false := by rw [bne_eq_false_iff_eq]; omega
        have HMN := Lib.hid hmn
        go_wp2_with fail
        clear gc0 gc1 gc2 hmn
        go_loopw [9] (fun iv wr => ∃ i : Nat, i ≤ m ∧ iv = .int .i64 (i : Int) ∧ (∀ i', i' < i → P.Tup.inR g.tups (l.getD i' .zero)) ∧ wr = w3) (fun iv _ => m - (intOf iv).toNat)
        case atStart => exact ⟨0, Nat.zero_le _, rfl, fun i' h => absurd h (Nat.not_lt_zero i'), rfl⟩
        case round =>
          obtain ⟨i, hi, rfl, hir, hw⟩ := hrel
          rw [hw]
          clear hw
          have HIR := Lib.hid hir
          clear hir
          have hi0 : (0 : Int) ≤ (i : Int) := Int.natCast_nonneg _
          by_cases hlt : i < m
          · have fi : decide ((i : Int) < (m : Int)) = true := decide_eq_true (by omega)
            have hii : (i : Int) < (m : Int) := by omega
            obtain ⟨bl, ol, kl, e9, -, hcl⟩ := HVL.out.open_ HMM.out (by omega)
            obtain ⟨rfl, rfl⟩ : lo = some ⟨bl, ol, none⟩ ∧ lk = kl := by injection e9 with h1 h2 h3; exact ⟨h1, h3⟩
            obtain ⟨t, ht⟩ : ∃ t, l.getD i .zero = t := ⟨_, rfl⟩
            have HCT := Lib.hid (fun w' hw' => hcl w' hw' i hlt)
            rw [ht] at HCT
            have HT := Lib.hid ht
            clear e9 hcl ht
            go_wp2_with fail
            obtain ⟨wo, rfl⟩ : ∃ wo : World, wo = wr := ⟨_, rfl⟩
            go_loopw [10] (fun kv wr => ∃ k : Nat, k ≤ 4 ∧ kv = .int .i64 (k : Int) ∧ (∀ k', k' < k → 0 ≤ ct t k' ∧ ct t k' ≤ ct g.tups k') ∧ wr = w3) (fun kv _ => (4 - intOf kv).toNat)
            case atStart => exact ⟨0, by omega, rfl, fun k' h => absurd h (Nat.not_lt_zero k'), rfl⟩
            case round =>
              obtain ⟨k, hk, rfl, hin, hw⟩ := hrel
              rw [hw]
              clear hw
              have HIN := Lib.hid hin
              clear hin
              have hk0 : (0 : Int) ≤ (k : Int) := Int.natCast_nonneg _
              by_cases hk4 : k < 4
              · have fk : decide ((k : Int) < 4) = true := decide_eq_true (by omega)
                have hk4i : (k : Int) < 4 := by omega
                go_wp2_with fail
                obtain ⟨wo3, rfl⟩ : ∃ wo : World, wo = wr := ⟨_, rfl⟩
                go_loopw [11, 12] (fun nv mv wr => ∃ m : Nat, m ≤ n ∧ nv = .int .i64 (nt g.prio m k) ∧ mv = .int .i64 (m : Int) ∧ wr = w3) (fun _ mv _ => n - (intOf mv).toNat)
                case atStart => exact ⟨0, Nat.zero_le _, by rw [show nt g.prio 0 k = 0 by simp [nt]], rfl, rfl⟩
                case round =>
                  obtain ⟨m, hm, rfl, rfl, hw⟩ := hrel
                  rw [hw]
                  clear hw
                  have hm0 : (0 : Int) ≤ (m : Int) := Int.natCast_nonneg _
                  have hnt0 := nt_low g.prio m k
                  have hnt1 := nt_le g.prio m n HPN.out k
                  have hbb := BQg.out
                  have gc0 : w3.cell? ⟨qg, 0, none⟩ = some (.slice (some ⟨ba, oa, none⟩) n ka) := hbb.cell 0 _ rfl
                  have gc1 : w3.cell? ⟨qg, 1, none⟩ = some (.slice (some ⟨bb, ob, none⟩) n kb) := hbb.cell 1 _ rfl
                  have gc2 : w3.cell? ⟨qg, 2, none⟩ = some (.slice (some ⟨bc_, oc, none⟩) n kc) := hbb.cell 2 _ rfl
                  clear hbb
                  by_cases hmn : m < n
                  · have fm : decide ((m : Int) < (n : Int)) = true := decide_eq_true (by omega)
                    have hmi : (m : Int) < (n : Int) := by omega
                    have cp := HCB.out w3 W.out m hmn
                    have hs := nt_step g.prio m k (by rw [HPN.out]; exact hmn)
                    obtain ⟨z, hz⟩ : ∃ z, g.prio.getD m 0 = z := ⟨_, rfl⟩
                    rw [hz] at cp hs
                    clear hz
                    obtain ⟨y, hy⟩ : ∃ y, nt g.prio m k = y := ⟨_, rfl⟩
                    rw [hy] at hs hnt0 hnt1 ⊢
                    clear hy
                    by_cases hq : z = 2 * (k : Int) + 1
                    · have fq : (z == 2 * (k : Int) + 1) = true := by rw [beq_iff_eq]; exact hq
                      rw [if_pos hq] at hs
                      have HS := Lib.hid hs
                      clear hs
                      go_wp2_with fail
                      clear gc0 gc1 gc2 cp
                      go_roundw
                      case rel => exact ⟨m + 1, by omega, by rw [HS.out], by first | rfl | go_num, by first | trivial | rfl⟩
                      case measure => simp [intOf]; omega
                    · have fq : (z == 2 * (k : Int) + 1) = false := by rw [beq_eq_false_iff_ne]; exact hq
                      rw [if_neg hq, Int.add_zero] at hs
                      have HS := Lib.hid hs
                      clear hs
                      go_wp2_with fail
                      clear gc0 gc1 gc2 cp
                      go_roundw
                      case rel => exact ⟨m + 1, by omega, by rw [HS.out], by first | rfl | go_num, by first | trivial | rfl⟩
                      case measure => simp [intOf]; omega
                  · have fm : decide ((m : Int) < (n : Int)) = false := decide_eq_false (by omega)
                    have hmm : m = n := by omega
                    have hnta := nt_all g.prio n HPN.out k
                    rw [← hmm] at hnta
                    have htc := tups_ct g k hk4
                    rw [← hnta] at htc
                    have cx := HCT.out w3 W.out (1 + k) (.int .i64 (ct t k)) (tl_ct t k hk4)
                    rw [show ol + i * 5 + (1 + k) = ol + i * 5 + 1 + k by omega] at cx
                    obtain ⟨x, hx⟩ : ∃ x, ct t k = x := ⟨_, rfl⟩
                    obtain ⟨y, hy⟩ : ∃ y, nt g.prio m k = y := ⟨_, rfl⟩
                    rw [hx] at cx
                    rw [hy] at htc hnt0 hnt1 ⊢
                    have HX := Lib.hid hx
                    have HTC := Lib.hid htc
                    clear hnta htc hx hy
                    by_cases h1 : x < 0
                    · have f1 : decide (x < 0) = true := decide_eq_true h1
                      go_wp2_with fail
                      exact bodyPost_ret (v := .bool true) (by simp [results, Try.results10, go_sem]) rfl ⟨rfl, W.out⟩
                    · have f1 : decide (x < 0) = false := decide_eq_false h1
                      by_cases h2 : y < x
                      · have f2 : decide (y < x) = true := decide_eq_true h2
                        go_wp2_with fail
                        exact bodyPost_ret (v := .bool true) (by simp [results, Try.results10, go_sem]) rfl ⟨rfl, W.out⟩
                      · have f2 : decide (y < x) = false := decide_eq_false h2
                        have HIN2 := Lib.hid (show ∀ k', k' < k + 1 → 0 ≤ ct t k' ∧ ct t k' ≤ ct g.tups k' from fun k' hk' => by
                          by_cases e : k' = k
                          · rw [e, HX.out, HTC.out]; omega
                          · exact HIN.out k' (by omega))
                        go_wp2_with fail
                        clear gc0 gc1 gc2 cx
                        go_roundw
                        case rel => exact ⟨k + 1, by omega, by first | rfl | go_num, HIN2.out, by first | trivial | rfl⟩
                        case measure => simp [intOf]; omega
              · have fk : decide ((k : Int) < 4) = false := decide_eq_false (by omega)
                have HIR2 := Lib.hid (show ∀ i', i' < i + 1 → P.Tup.inR g.tups (l.getD i' .zero) from fun i' hi' => by
                  by_cases e : i' = i
                  · rw [e, HT.out]
                    exact inR_of fun k' hk' => HIN.out k' (by omega)
                  · exact HIR.out i' (by omega))
                go_wp2_with fail
                go_roundw
                case rel => exact ⟨i + 1, by omega, by first | rfl | go_num, HIR2.out, by first | trivial | rfl⟩
                case measure => simp [intOf]; omega
          · have fi : decide ((i : Int) < (m : Int)) = false := decide_eq_false (by omega)
            have HRG := Lib.hid (show P.Rng g l from ⟨by rw [HMM.out, HN.out, HMN.out], fun i' hi' => HIR.out i' (by rw [HN.out] at hi'; have := HMN.out; omega)⟩)
            have HQL := Lib.hid BQg.out.lt
            go_wp2_with fail
            refine (tuples_any l (by rw [HMM.out]; exact hsz) _ w3 (HVL.out.on W.out)).mono ?_
            rintro e w5 ⟨v', rfl, ho, hb⟩
            have hml : l.length = n := by rw [HMM.out, HMN.out]
            obtain ⟨gp, pk, rfl, hgp, -⟩ := World.ownsRow.form (w := w5) ho (by omega)
            rw [hml] at ho ⊢
            have HO := Lib.hid ho
            have HM0 := Lib.hid hml
            have HGP := Lib.hid (show w.heap.size ≤ gp from Nat.le_trans W.out.size hgp)
            have HQG := Lib.hid (show qg ≠ gp by have := HQL.out; omega)
            replace BQg := Lib.hid (BQg.out.keep (grown_of_below hb none))
            replace W := Lib.hid (W.out.trans (hb.mono W.out.size))
            clear hb ho hml hgp
            obtain ⟨w4, hw4⟩ : ∃ w4 : World, w4 = w3 := ⟨_, rfl⟩
            rw [← hw4] at HO
            clear hw4
            go_wp2_with fail
            obtain ⟨wo, rfl⟩ : ∃ wo : World, wo = wr := ⟨_, rfl⟩
            go_loopw [14] (fun jv wr => ∃ (j : Nat) (l0 : List P.Tup), j ≤ 200000 ∧ jv = .int .i64 (j : Int) ∧ P.Rng g l0 ∧ Box wr qg 33 #[.slice (some ⟨ba, oa, none⟩) n ka, .slice (some ⟨bb, ob, none⟩) n kb, .slice (some ⟨bc_, oc, none⟩) n kc] ∧ OwnT wr w4.heap.size (.slice (some ⟨gp, 0, none⟩) n pk) l0 ∧ Below w.heap.size w wr) (fun jv _ => (200000 - intOf jv).toNat)
            case atStart => exact ⟨0, l, by omega, rfl, HRG.out, BQg.out, HO.out, W.out⟩
            case round =>
              obtain ⟨j, l0, hj, rfl, hrg, b1, ho, hb⟩ := hrel
              have HRG0 := Lib.hid hrg
              replace BQg := Lib.hid b1
              replace HO := Lib.hid ho
              replace W := Lib.hid hb
              replace HM0 := Lib.hid (show l0.length = n by rw [hrg.1, HN.out])
              clear hrg b1 ho hb
              have hj0 : (0 : Int) ≤ (j : Int) := Int.natCast_nonneg _
              by_cases hltj : j < 200000
              · have fj : decide ((j : Int) < 200000) = true := decide_eq_true (by omega)
                obtain ⟨i, hi⟩ : ∃ i, j % n = i := ⟨_, rfl⟩
                have hin : i < n := by rw [← hi]; exact Nat.mod_lt _ h0
                have fr : ((j : Int)).tmod ((n : Nat) : Int) = (i : Int) := by rw [← hi]; rfl
                have hii : (i : Int) < (n : Int) := by omega
                have hi0 : (0 : Int) ≤ (i : Int) := Int.natCast_nonneg _
                have hn0 : ((n : Nat) : Int) ≠ 0 := by omega
                have fn0 : (((n : Nat) : Int) == 0) = false := by rw [beq_eq_false_iff_ne]; exact hn0
                have hbb := BQg.out
                have gc0 : wr.cell? ⟨qg, 0, none⟩ = some (.slice (some ⟨ba, oa, none⟩) n ka) := hbb.cell 0 _ rfl
                have gc1 : wr.cell? ⟨qg, 1, none⟩ = some (.slice (some ⟨bb, ob, none⟩) n kb) := hbb.cell 1 _ rfl
                have gc2 : wr.cell? ⟨qg, 2, none⟩ = some (.slice (some ⟨bc_, oc, none⟩) n kc) := hbb.cell 2 _ rfl
                clear hbb
                go_wp2_with fail
                try rw [fr]
                go_wp2_with fail
                clear gc0 gc1 gc2
                have HTP := Lib.hid (own_tups HO.out HM0.out (by omega))
                refine (liftx_any g l0 (i : Int) (rng_low HRG0.out) _ _ wr (HV.out.on W.out) HTP.out).mono ?_
                rintro e w6 ⟨rfl, hb⟩
                replace HO := Lib.hid (HO.out.grown (grown_of_below hb none))
                replace BQg := Lib.hid (BQg.out.keep (grown_of_below hb none))
                replace W := Lib.hid (W.out.trans (hb.mono W.out.size))
                clear hb
                have HIL := Lib.hid (show i < l0.length by rw [HM0.out]; exact hin)
                obtain ⟨u, hu⟩ : ∃ u, liftX g l0 (i : Int) = u := ⟨_, rfl⟩
                have hul : g.lift l0 i = u := by rw [← hu, liftX_in HR.out HRG0.out.1 HIL.out]
                rw [hu]
                obtain ⟨t, ht⟩ : ∃ t, l0.getD i .zero = t := ⟨_, rfl⟩
                have HT := Lib.hid ht
                have HRG := Lib.hid (rng_lift HR.out HRG0.out (show i < g.owner.length by rw [HN.out]; exact hin))
                rw [hul] at HRG
                clear hu hul ht fr hi
                unfold tc
                have tc0 : w6.cell? ⟨gp, i * 5, none⟩ = some (.bool t.top) := own_tcell HO.out HM0.out HIL.out HT.out 0 _ rfl
                have tf0 : w6.frozen? ⟨gp, i * 5, none⟩ = false := own_tfree HO.out _
                have tc1 : w6.cell? ⟨gp, i * 5 + 1, none⟩ = some (.int .i64 t.a) := own_tcell HO.out HM0.out HIL.out HT.out 1 _ rfl
                have tf1 : w6.frozen? ⟨gp, i * 5 + 1, none⟩ = false := own_tfree HO.out _
                have tc2 : w6.cell? ⟨gp, i * 5 + 2, none⟩ = some (.int .i64 t.b) := own_tcell HO.out HM0.out HIL.out HT.out 2 _ rfl
                have tf2 : w6.frozen? ⟨gp, i * 5 + 2, none⟩ = false := own_tfree HO.out _
                have tc3 : w6.cell? ⟨gp, i * 5 + 3, none⟩ = some (.int .i64 t.c) := own_tcell HO.out HM0.out HIL.out HT.out 3 _ rfl
                have tf3 : w6.frozen? ⟨gp, i * 5 + 3, none⟩ = false := own_tfree HO.out _
                have tc4 : w6.cell? ⟨gp, i * 5 + 4, none⟩ = some (.int .i64 t.d) := own_tcell HO.out HM0.out HIL.out HT.out 4 _ rfl
                have tf4 : w6.frozen? ⟨gp, i * 5 + 4, none⟩ = false := own_tfree HO.out _
                go_upto_region 26 with (fail)
                clear tc0 tf0 tc1 tf1 tc2 tf2 tc3 tf3 tc4 tf4
                have ho2 := own_setAt HO.out HM0.out i HIL.out u
                have hgb : w.heap.size ≤ gp := HGP.out
                have b2 := far5 (q := gp) (j := i) u BQg.out (HQG.out)
                have hb2 : Below w.heap.size w (((((w6.setCell ⟨gp, i * 5, none⟩ (.bool u.top)).setCell ⟨gp, i * 5 + 1, none⟩ (.int .i64 u.a)).setCell ⟨gp, i * 5 + 2, none⟩ (.int .i64 u.b)).setCell ⟨gp, i * 5 + 3, none⟩ (.int .i64 u.c)).setCell ⟨gp, i * 5 + 4, none⟩ (.int .i64 u.d)) := ((((W.out.setCell (p := ⟨gp, _, none⟩) hgb _).setCell (p := ⟨gp, _, none⟩) hgb _).setCell (p := ⟨gp, _, none⟩) hgb _).setCell (p := ⟨gp, _, none⟩) hgb _).setCell (p := ⟨gp, _, none⟩) hgb _
                generalize (((((w6.setCell ⟨gp, i * 5, none⟩ (.bool u.top)).setCell ⟨gp, i * 5 + 1, none⟩ (.int .i64 u.a)).setCell ⟨gp, i * 5 + 2, none⟩ (.int .i64 u.b)).setCell ⟨gp, i * 5 + 3, none⟩ (.int .i64 u.c)).setCell ⟨gp, i * 5 + 4, none⟩ (.int .i64 u.d)) = w7 at ho2 b2 hb2 ⊢
                have HO := Lib.hid ho2
                have BQg := Lib.hid b2
                have W := Lib.hid hb2
                clear ho2 hgb b2 hb2
                obtain ⟨l1, hl1⟩ : ∃ l1, l0.set i u = l1 := ⟨_, rfl⟩
                rw [hl1] at HO HRG
                have HM1 := Lib.hid (show l1.length = n by rw [← hl1, List.length_set]; exact HM0.out)
                clear hl1
                by_cases hlast : i = n - 1
                · have fl : ((i : Int) == (n : Int) - 1) = true := by rw [beq_iff_eq]; omega
                  clear hlast
                  go_wp2_with fail
                  obtain ⟨wo, rfl⟩ : ∃ wo : World, wo = wr := ⟨_, rfl⟩
                  go_loopw [16, 17] (fun bv kv wr => ∃ (k : Nat) (b : Bool), k ≤ n ∧ kv = .int .i64 (k : Int) ∧ bv = .bool b ∧ (b = true → ∀ k', k' < k → P.Rest g l1 k') ∧ Box wr qg 33 #[.slice (some ⟨ba, oa, none⟩) n ka, .slice (some ⟨bb, ob, none⟩) n kb, .slice (some ⟨bc_, oc, none⟩) n kc] ∧ OwnT wr w4.heap.size (.slice (some ⟨gp, 0, none⟩) n pk) l1 ∧ Below w.heap.size w wr) (fun _ kv _ => n - (intOf kv).toNat)
                  case atStart => exact ⟨0, true, Nat.zero_le _, rfl, rfl, fun _ k' h => absurd h (Nat.not_lt_zero k'), BQg.out, HO.out, W.out⟩
                  case round =>
                    obtain ⟨k, b, hk, rfl, rfl, hst, b1, ho, hb⟩ := hrel
                    have HSTL := Lib.hid hst
                    replace BQg := Lib.hid b1
                    replace HO := Lib.hid ho
                    replace W := Lib.hid hb
                    clear hst b1 ho hb
                    have hk0 : (0 : Int) ≤ (k : Int) := Int.natCast_nonneg _
                    by_cases hlt : k < n
                    · have fk : decide ((k : Int) < (n : Int)) = true := decide_eq_true (by omega)
                      have hki : (k : Int) < (n : Int) := by omega
                      cases b
                      · go_wp2_with fail
                        go_roundw
                        case rel => exact ⟨j + 1, l1, by omega, by first | rfl | go_num, HRG.out, BQg.out, HO.out, W.out⟩
                        case measure => simp [intOf]; omega
                      · have hkl : k < l1.length := by rw [HM1.out]; exact hlt
                        have HKL := Lib.hid hkl
                        obtain ⟨t, ht⟩ : ∃ t, l1.getD k .zero = t := ⟨_, rfl⟩
                        obtain ⟨u, hu⟩ : ∃ u, g.lift l1 k = u := ⟨_, rfl⟩
                        have HT := Lib.hid ht
                        have HLE := Lib.hid hu
                        have HLF := Lib.hid (show liftX g l1 (k : Int) = u from by rw [liftX_in HR.out HRG.out.1 hkl, hu])
                        have HTP := Lib.hid (own_tups HO.out HM1.out (by omega))
                        clear hkl ht hu
                        go_upto_region 31 with (fail)
                        refine Rt.wp_region_tail 2 (fun idx => match idx with | 0 => (fun v _ _ => v = .agg #[.slice (some ⟨ba, oa, none⟩) n ka, .slice (some ⟨bb, ob, none⟩) n kb, .slice (some ⟨bc_, oc, none⟩) n kc]) | 1 => (fun v _ _ => v = (.slice (some ⟨gp, 0, none⟩) n pk)) | 2 => (fun v _ _ => v = (.int .i64 (k : Int))) | 3 => (fun v _ _ => v = .agg (tc u)) | 4 => (fun v _ _ => v = (.slice (some ⟨gp, 0, none⟩) n pk)) | 5 => (fun v _ _ => v = (.int .i64 (k : Int))) | 6 => (fun v _ _ => v = (.pointer (some ⟨gp, k * 5, none⟩))) | 7 => (fun v _ _ => v = .agg (tc t)) | _ => fun _ _ _ => True) (fun _ _ _ _ => True) (Rk.allK) 99 (by kernel_rfl) (by rfl) (by kernel_rfl) (by rfl) ?_ ?_ ?_ ?_
                        · refine ⟨?_, ?_, ?_, ?_, ?_, ?_, ?_, ?_, trivial⟩
                          · intro A w' K vals h hn hT hgk hK0
                            have r0 : A.tmps[2]?.getD undef = .pointer (some ⟨qg, 0, none⟩) := Rg.slot h.1
                            have bs := BQg.out.keep (Rk.grown_of hgk)
                            have cc0 : w'.cell? ⟨qg, 0, none⟩ = some (.slice (some ⟨ba, oa, none⟩) n ka) := bs.cell 0 _ rfl
                            have cc1 : w'.cell? ⟨qg, 1, none⟩ = some (.slice (some ⟨bb, ob, none⟩) n kb) := bs.cell 1 _ rfl
                            have cc2 : w'.cell? ⟨qg, 2, none⟩ = some (.slice (some ⟨bc_, oc, none⟩) n kc) := bs.cell 2 _ rfl
                            clear h hn hT hgk bs
                            simp [Oper.wp, execOp, go_sem, r0, cc0, cc1, cc2]
                            exact hK0 _ _ (Rk.Keeps.refl _ _) rfl trivial
                          · intro A w' K vals h hn hT hgk hK0
                            have r0 : A.tmps[13]?.getD undef = .slice (some ⟨gp, 0, none⟩) n pk := Rg.slot h.1
                            clear h hn hT hgk
                            simp [Oper.wp, execOp, go_sem, r0]
                            exact hK0 _ _ (Rk.Keeps.refl _ _) rfl trivial
                          · intro A w' K vals h hn hT hgk hK0
                            have r0 : A.tmps[17]?.getD undef = .int .i64 (k : Int) := Rg.slot h.1
                            clear h hn hT hgk
                            simp [Oper.wp, execOp, go_sem, r0]
                            exact hK0 _ _ (Rk.Keeps.refl _ _) rfl trivial
                          · intro A w' K vals h hn hT hgk hK0
                            have r0 : A.tmps[124]?.getD undef = vals 0 := Rg.slot h.2.1
                            have r1 : A.tmps[125]?.getD undef = vals 1 := Rg.slot h.2.2.1
                            have r2 : A.tmps[126]?.getD undef = vals 2 := Rg.slot h.2.2.2.1
                            have s0 : vals 0 = .agg #[.slice (some ⟨ba, oa, none⟩) n ka, .slice (some ⟨bb, ob, none⟩) n kb, .slice (some ⟨bc_, oc, none⟩) n kc] := hn.1
                            have s1 : vals 1 = (.slice (some ⟨gp, 0, none⟩) n pk) := hn.2.1
                            have s2 : vals 2 = (.int .i64 (k : Int)) := hn.2.2.1
                            have hb := below_of_grown (Rk.grown_of hgk)
                            have hbw := W.out.trans (hb.mono W.out.size)
                            clear h hn hT hgk
                            simp [Oper.wp, go_sem, r0, r1, r2, s0, s1, s2]
                            refine (liftx_any g l1 (k : Int) (rng_low HRG.out) _ _ w' (HV.out.on hbw) (HTP.out.on hb)).mono ?_
                            rintro e w'' ⟨rfl, hb⟩
                            exact hK0 _ _ (Rk.keep_of (grown_of_below hb _)) (congrArg (fun x => Value.agg (tc x)) HLF.out) trivial
                          · intro A w' K vals h hn hT hgk hK0
                            have r0 : A.tmps[13]?.getD undef = .slice (some ⟨gp, 0, none⟩) n pk := Rg.slot h.1
                            clear h hn hT hgk
                            simp [Oper.wp, execOp, go_sem, r0]
                            exact hK0 _ _ (Rk.Keeps.refl _ _) rfl trivial
                          · intro A w' K vals h hn hT hgk hK0
                            have r0 : A.tmps[17]?.getD undef = .int .i64 (k : Int) := Rg.slot h.1
                            clear h hn hT hgk
                            simp [Oper.wp, execOp, go_sem, r0]
                            exact hK0 _ _ (Rk.Keeps.refl _ _) rfl trivial
                          · intro A w' K vals h hn hT hgk hK0
                            have r0 : A.tmps[128]?.getD undef = vals 4 := Rg.slot h.1
                            have s0 : vals 4 = (.slice (some ⟨gp, 0, none⟩) n pk) := hn.1
                            have r1 : A.tmps[129]?.getD undef = vals 5 := Rg.slot h.2.1
                            have s1 : vals 5 = (.int .i64 (k : Int)) := hn.2.1
                            clear h hn hT hgk
                            simp [Oper.wp, execOp, go_sem, r0, r1, s0, s1, hk0, hki]
                            exact hK0 _ _ (Rk.Keeps.refl _ _) rfl trivial
                          · intro A w' K vals h hn hT hgk hK0
                            have r0 : A.tmps[130]?.getD undef = vals 6 := Rg.slot h.1
                            have s0 : vals 6 = (.pointer (some ⟨gp, k * 5, none⟩)) := hn.1
                            have c0 : w'.cell? ⟨gp, k * 5, none⟩ = some (.bool t.top) := own_tcell (HO.out.grown (Rk.grown_of hgk)) HM1.out HKL.out HT.out 0 _ rfl
                            have c1 : w'.cell? ⟨gp, k * 5 + 1, none⟩ = some (.int .i64 t.a) := own_tcell (HO.out.grown (Rk.grown_of hgk)) HM1.out HKL.out HT.out 1 _ rfl
                            have c2 : w'.cell? ⟨gp, k * 5 + 2, none⟩ = some (.int .i64 t.b) := own_tcell (HO.out.grown (Rk.grown_of hgk)) HM1.out HKL.out HT.out 2 _ rfl
                            have c3 : w'.cell? ⟨gp, k * 5 + 3, none⟩ = some (.int .i64 t.c) := own_tcell (HO.out.grown (Rk.grown_of hgk)) HM1.out HKL.out HT.out 3 _ rfl
                            have c4 : w'.cell? ⟨gp, k * 5 + 4, none⟩ = some (.int .i64 t.d) := own_tcell (HO.out.grown (Rk.grown_of hgk)) HM1.out HKL.out HT.out 4 _ rfl
                            clear h hn hT hgk
                            simp [Oper.wp, execOp, go_sem, r0, s0, c0, c1, c2, c3, c4]
                            exact hK0 _ _ (Rk.Keeps.refl _ _) rfl trivial
                        · refine ⟨?_, ?_, ?_, ?_, ?_, ?_, ?_, ?_, trivial⟩
                          · exact fun _ _ _ _ _ _ h => h
                          · exact fun _ _ _ _ _ _ h => h
                          · exact fun _ _ _ _ _ _ h => h
                          · exact fun _ _ _ _ _ _ h => h
                          · exact fun _ _ _ _ _ _ h => h
                          · exact fun _ _ _ _ _ _ h => h
                          · exact fun _ _ _ _ _ _ h => h
                          · exact fun _ _ _ _ _ _ h => h
                        · exact fun _ _ _ _ _ _ h => h
                        · intro vals w8 G hgk hS hG
                          have s3 : vals 3 = .agg #[.bool u.top, .int .i64 u.a, .int .i64 u.b, .int .i64 u.c, .int .i64 u.d] := hS.2.2.2.1
                          have s7 : vals 7 = .agg #[.bool t.top, .int .i64 t.a, .int .i64 t.b, .int .i64 t.c, .int .i64 t.d] := hS.2.2.2.2.2.2.2.1
                          clear hS
                          have hb := below_of_grown (Rk.grown_of hgk)
                          replace HO := Lib.hid (HO.out.grown (Rk.grown_of hgk))
                          replace BQg := Lib.hid (BQg.out.keep (grown_of_below hb none))
                          replace W := Lib.hid (W.out.trans (hb.mono W.out.size))
                          clear hb hgk
                          have he := fun w => tup_eql u t w
                          unfold tc at he
                          have HST := Lib.hid (show decide (u = t) = true → ∀ k', k' < k + 1 → P.Rest g l1 k' from fun h k' hk' => by
                            by_cases e : k' = k
                            · rw [e]
                              refine P.lift_iff.1 ?_
                              rw [HLE.out, HT.out]
                              exact of_decide_eq_true h
                            · exact HSTL.out rfl k' (by omega))
                          refine hG ?_
                          clear hG
                          simp only [List.take, List.drop, List.length, Nat.reduceSub, Nat.reduceAdd, Rg.putAll, Act.put, List.setIfInBounds_toArray, List.set_cons_succ, List.set_cons_zero, s3, s7]
                          clear s3 s7
                          obtain ⟨bb2, hbb2⟩ : ∃ b, decide (u = t) = b := ⟨_, rfl⟩
                          rw [hbb2] at he HST
                          clear hbb2
                          go_wp2_with fail
                          clear he
                          go_roundw
                          case rel => exact ⟨k + 1, bb2, by omega, by first | rfl | go_num, rfl, HST.out, BQg.out, HO.out, W.out⟩
                          case measure => simp [intOf]; omega
                    · have fk : decide ((k : Int) < (n : Int)) = false := decide_eq_false (by omega)
                      cases b
                      · go_wp2_with fail
                        go_roundw
                        case rel => exact ⟨j + 1, l1, by omega, by first | rfl | go_num, HRG.out, BQg.out, HO.out, W.out⟩
                        case measure => simp [intOf]; omega
                      · have HFX := Lib.hid (show P.Fixed g l1 from fun i hi => HSTL.out rfl i (by rw [HN.out] at hi; omega))
                        have hbb := BQg.out
                        have gc0 : wr.cell? ⟨qg, 0, none⟩ = some (.slice (some ⟨ba, oa, none⟩) n ka) := hbb.cell 0 _ rfl
                        have gc1 : wr.cell? ⟨qg, 1, none⟩ = some (.slice (some ⟨bb, ob, none⟩) n kb) := hbb.cell 1 _ rfl
                        have gc2 : wr.cell? ⟨qg, 2, none⟩ = some (.slice (some ⟨bc_, oc, none⟩) n kc) := hbb.cell 2 _ rfl
                        clear hbb
                        go_wp2_with fail
                        clear gc0 gc1 gc2
                        refine (solve_any g HR.out _ wr (HV.out.on W.out)).mono ?_
                        rintro e w7 ⟨uv, rfl, ⟨ps, s, rfl, hs, hlo, hbx⟩, hb⟩
                        rw [HN.out]
                        have HSOL := Lib.hid hs
                        have BQs := Lib.hid hbx
                        have HSL := Lib.hid (show s.length = n by rw [hs.1.1, HN.out])
                        replace HO := Lib.hid (HO.out.grown (grown_of_below hb none))
                        replace BQg := Lib.hid (BQg.out.keep (grown_of_below hb none))
                        replace W := Lib.hid (W.out.trans (hb.mono W.out.size))
                        clear hb hs hlo hbx
                        have HLE2 := Lib.hid (HSOL.out.1.2.2 l1 HRG.out HFX.out)
                        go_wp2_with fail
                        obtain ⟨wo2, rfl⟩ : ∃ wo : World, wo = wr := ⟨_, rfl⟩
                        go_loopw [19] (fun kv wr => ∃ k : Nat, k ≤ n ∧ kv = .int .i64 (k : Int) ∧ OwnT wr w4.heap.size (.slice (some ⟨gp, 0, none⟩) n pk) l1 ∧ Box wr ps 26 (flatT s) ∧ Below w.heap.size w wr) (fun kv _ => n - (intOf kv).toNat)
                        case atStart => exact ⟨0, Nat.zero_le _, rfl, HO.out, BQs.out, W.out⟩
                        case round =>
                          obtain ⟨k, hk, rfl, ho, hbs, hb⟩ := hrel
                          replace HO := Lib.hid ho
                          replace BQs := Lib.hid hbs
                          replace W := Lib.hid hb
                          clear ho hbs hb
                          have hk0 : (0 : Int) ≤ (k : Int) := Int.natCast_nonneg _
                          by_cases hlt : k < n
                          · have fk : decide ((k : Int) < (n : Int)) = true := decide_eq_true (by omega)
                            have hki : (k : Int) < (n : Int) := by omega
                            have hkl : k < l1.length := by rw [HM1.out]; exact hlt
                            have HKL := Lib.hid hkl
                            have HKS := Lib.hid (show k < s.length by rw [HSL.out]; exact hlt)
                            obtain ⟨t, ht⟩ : ∃ t, l1.getD k .zero = t := ⟨_, rfl⟩
                            obtain ⟨u, hu⟩ : ∃ u, s.getD k .zero = u := ⟨_, rfl⟩
                            have hle := HLE2.out k (by rw [HN.out]; exact hlt)
                            rw [ht, hu] at hle
                            have hcmp := (P.Tup.cmp_le u t).2 hle
                            rw [P.Tup.cmp_back t u] at hcmp
                            have HT := Lib.hid ht
                            have HU := Lib.hid hu
                            obtain ⟨cz, hcz⟩ : ∃ c, P.Tup.cmp t u 0 = c := ⟨_, rfl⟩
                            rw [hcz] at hcmp
                            have c1 := fun d os => rCompare wr t u 0 d os
                            rw [hcz] at c1
                            have fc : decide (cz < 0) = false := decide_eq_false (by omega)
                            have fn : (((n : Nat) : Int) != ((n : Nat) : Int)) = false := by rw [bne_eq_false_iff_eq]
                            clear hkl ht hu hle hcmp hcz
                            go_upto_region 37 with (fail)
                            have kp0 : ∀ (d : Nat) (os : Array Obj), (grow (redrawn wr d) os).cell? ⟨gp, k * 5, none⟩ = some (.bool t.top) := fun d os => own_tcell (HO.out.grown (grown_of_below (below_regrown wr d os) none)) HM1.out HKL.out HT.out 0 _ rfl
                            have kp1 : ∀ (d : Nat) (os : Array Obj), (grow (redrawn wr d) os).cell? ⟨gp, k * 5 + 1, none⟩ = some (.int .i64 t.a) := fun d os => own_tcell (HO.out.grown (grown_of_below (below_regrown wr d os) none)) HM1.out HKL.out HT.out 1 _ rfl
                            have kp2 : ∀ (d : Nat) (os : Array Obj), (grow (redrawn wr d) os).cell? ⟨gp, k * 5 + 2, none⟩ = some (.int .i64 t.b) := fun d os => own_tcell (HO.out.grown (grown_of_below (below_regrown wr d os) none)) HM1.out HKL.out HT.out 2 _ rfl
                            have kp3 : ∀ (d : Nat) (os : Array Obj), (grow (redrawn wr d) os).cell? ⟨gp, k * 5 + 3, none⟩ = some (.int .i64 t.c) := fun d os => own_tcell (HO.out.grown (grown_of_below (below_regrown wr d os) none)) HM1.out HKL.out HT.out 3 _ rfl
                            have kp4 : ∀ (d : Nat) (os : Array Obj), (grow (redrawn wr d) os).cell? ⟨gp, k * 5 + 4, none⟩ = some (.int .i64 t.d) := fun d os => own_tcell (HO.out.grown (grown_of_below (below_regrown wr d os) none)) HM1.out HKL.out HT.out 4 _ rfl
                            have ks0 : ∀ (d : Nat) (os : Array Obj), (grow (redrawn wr d) os).cell? ⟨ps, k * 5, none⟩ = some (.bool u.top) := fun d os => box_tcell (BQs.out.keep (grown_of_below (below_regrown wr d os) none)) HKS.out HU.out 0 _ rfl
                            have ks1 : ∀ (d : Nat) (os : Array Obj), (grow (redrawn wr d) os).cell? ⟨ps, k * 5 + 1, none⟩ = some (.int .i64 u.a) := fun d os => box_tcell (BQs.out.keep (grown_of_below (below_regrown wr d os) none)) HKS.out HU.out 1 _ rfl
                            have ks2 : ∀ (d : Nat) (os : Array Obj), (grow (redrawn wr d) os).cell? ⟨ps, k * 5 + 2, none⟩ = some (.int .i64 u.b) := fun d os => box_tcell (BQs.out.keep (grown_of_below (below_regrown wr d os) none)) HKS.out HU.out 2 _ rfl
                            have ks3 : ∀ (d : Nat) (os : Array Obj), (grow (redrawn wr d) os).cell? ⟨ps, k * 5 + 3, none⟩ = some (.int .i64 u.c) := fun d os => box_tcell (BQs.out.keep (grown_of_below (below_regrown wr d os) none)) HKS.out HU.out 3 _ rfl
                            have ks4 : ∀ (d : Nat) (os : Array Obj), (grow (redrawn wr d) os).cell? ⟨ps, k * 5 + 4, none⟩ = some (.int .i64 u.d) := fun d os => box_tcell (BQs.out.keep (grown_of_below (below_regrown wr d os) none)) HKS.out HU.out 4 _ rfl
                            refine wp_region_quiet_below (by kernel_rfl) (by kernel_rfl) ?_
                            repeat (first | go_big_quiet_step (with_reducible exact c1 _ _) | quiet_step (with_reducible exact c1 _ _))
                            refine wpQuiet_nil ?_
                            intro _ hw'
                            obtain ⟨⟨dq, osq⟩, hw''⟩ := hw'
                            subst hw''
                            clear c1 kp0 ks0 kp1 ks1 kp2 ks2 kp3 ks3 kp4 ks4
                            have hb := below_regrown wr dq osq
                            have ho9 := HO.out.grown (grown_of_below hb none)
                            replace BQs := Lib.hid (BQs.out.keep (grown_of_below hb none))
                            replace W := Lib.hid (W.out.trans (hb.mono W.out.size))
                            clear hb
                            generalize (grow (redrawn wr dq) osq) = w9 at ho9 BQs W ⊢
                            go_wp2_with fail
                            go_roundw
                            case rel => exact ⟨k + 1, by omega, by first | rfl | go_num, ho9, BQs.out, W.out⟩
                            case measure => simp [intOf]; omega
                          · have fk : decide ((k : Int) < (n : Int)) = false := decide_eq_false (by omega)
                            go_wp2_with fail
                            exact bodyPost_ret (v := .bool true) (by simp [results, Try.results10, go_sem]) rfl ⟨rfl, W.out⟩
                · have fl : ((i : Int) == (n : Int) - 1) = false := by rw [beq_eq_false_iff_ne]; omega
                  clear hlast
                  go_wp2_with fail
                  go_roundw
                  case rel => exact ⟨j + 1, l1, by omega, by first | rfl | go_num, HRG.out, BQg.out, HO.out, W.out⟩
                  case measure => simp [intOf]; omega
              · have fj : decide ((j : Int) < 200000) = false := decide_eq_false (by omega)
                go_wp2_with fail
                exact bodyPost_ret (v := .bool true) (by simp [results, Try.results10, go_sem]) rfl ⟨rfl, W.out⟩
      · have fe : (((m : Nat) : Int) != ((n : Nat) : Int)) = true := by rw [bne_iff_ne]; omega
        go_wp2_with fail
        exact bodyPost_ret (v := .bool true) (by simp [results, Try.results10, go_sem]) rfl ⟨rfl, W.out⟩
    · go_wp2_with fail
      exact bodyPost_ret (v := .bool true) (by simp [results, Try.results10, go_sem]) rfl ⟨rfl, W.out⟩
      end W
end Go.Proofs.Yteeaojciobmcaaa
