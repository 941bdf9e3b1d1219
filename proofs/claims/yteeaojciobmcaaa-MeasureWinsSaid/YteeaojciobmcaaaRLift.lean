/- Lift: the document's. -/
import Derived.Test.YteeaojciobmcaaaBest
import Derived.Test.YteeaojciobmcaaaIs
import Derived.Test.YteeaojciobmcaaaLiftX
import Derived.Lib.QuietBelow
import Derived.Deep.Cut
import Derived.Lib.Hide
import Derived.Deep.QuietTactic
import Derived.BigQuiet
namespace Go.Proofs.Yteeaojciobmcaaa
open Go.RowKit Go.Sort
namespace W

theorem rRCmp (W : World) (s t : P.Tup) (p : Int) (d : Nat) (os : Array Obj) : Calls Try.prog 15 #[.agg #[.bool s.top, .int .i64 s.a, .int .i64 s.b, .int .i64 s.c, .int .i64 s.d], .agg #[.bool t.top, .int .i64 t.a, .int .i64 t.b, .int .i64 t.c, .int .i64 t.d], .int .i64 p] (grow (redrawn W d) os) fun e w'' => e = .returned (.int .i64 (P.Tup.cmp s t p)) ∧ ∃ p : Regrown, w'' = grow (redrawn W p.d) p.os := Calls.regrown_of (rcompare_any s t p _)
set_option maxRecDepth 100000 in
set_option maxHeartbeats 2000000 in
theorem rlift_any (g : P.G) (l : List P.Tup) (z : Int) (hlow : ∀ j k, k < 4 → -9223372036854775808 ≤ ct (l.getD j .zero) k) (v vl : Value) (w : World) (hv : GameV w v g) (hV : TupsV w vl l) :
    Calls Try.prog 22 #[v, vl, .int .i64 z] w fun e w' => e = .returned (.agg (tc (liftX g l z))) ∧ Below w.heap.size w w' := by
  have HV := Lib.hid hv
  have HVL := Lib.hid hV
  have HLOW := Lib.hid hlow
  obtain ⟨a, b, c, rfl, ha, -⟩ := hv
  obtain ⟨ao, ka, rfl, hza, -⟩ := ha
  obtain ⟨lo, lk, rfl, hzl, -⟩ := hV
  obtain ⟨m, hm⟩ : ∃ m, l.length = m := ⟨_, rfl⟩
  obtain ⟨no, hno⟩ : ∃ m, g.owner.length = m := ⟨_, rfl⟩
  rw [hm] at hzl HVL ⊢
  rw [hno] at hza HV ⊢
  have HM := Lib.hid hm
  have HNO := Lib.hid hno
  clear hm hlow hno
  go_enter Try.func22, Try.ntmps22
  go_wp2_with fail
  rw [show #[.bool false, .int .i64 0, .int .i64 0, .int .i64 0, .int .i64 0] = tc .zero from rfl]
  have bx0 : Box ((w.alloc (.cells #[.slice ao no ka, b, c] 33)).alloc (.cells (tc .zero) 24)) (w.heap.size) 33 #[.slice ao no ka, b, c] := Box.alloc (Box.new w 33 #[.slice ao no ka, b, c]) (.cells (tc .zero) 24)
  have bx1 : Box ((w.alloc (.cells #[.slice ao no ka, b, c] 33)).alloc (.cells (tc .zero) 24)) (w.heap.size + 1) 24 (tc .zero) := by
    have := Box.new (w.alloc (.cells #[.slice ao no ka, b, c] 33)) 24 (tc .zero)
    simpa using this
  have hbq : Below w.heap.size w ((w.alloc (.cells #[.slice ao no ka, b, c] 33)).alloc (.cells (tc .zero) 24)) := ((Below.refl _ w).alloc (Nat.le_refl _) _).alloc (by simp) _
  have lt0 : w.heap.size < w.heap.size + 1 := Nat.lt_succ_self _
  have hle0 : w.heap.size ≤ w.heap.size := Nat.le_refl _
  generalize ((w.alloc (.cells #[.slice ao no ka, b, c] 33)).alloc (.cells (tc .zero) 24)) = w0 at bx0 bx1 hbq  ⊢
  have BQg := Lib.hid bx0
  have BQr := Lib.hid bx1
  have W := Lib.hid hbq
  have LTgr := Lib.hid lt0
  have LEg := Lib.hid hle0
  clear hbq hle0 bx0 bx1 lt0
  generalize w.heap.size + 1 = qr at BQr LTgr ⊢
  obtain ⟨qg, hqg⟩ : ∃ qg, w.heap.size = qg := ⟨_, rfl⟩
  rw [hqg] at BQg LTgr ⊢
  have LEg : Hid (w.heap.size ≤ qg) := Lib.hid (by omega)
  clear hqg
  have LEr := Lib.hid (Nat.le_trans LEg.out (Nat.le_of_lt LTgr.out))
  refine (is_any g _ w0 (HV.out.on W.out)).mono ?_
  rintro e w1 ⟨rfl, hb⟩
  replace BQg := Lib.hid (BQg.out.keep (grown_of_below hb none))
  replace BQr := Lib.hid (BQr.out.keep (grown_of_below hb none))
  replace W := Lib.hid (W.out.trans (hb.mono W.out.size))
  clear hb
  obtain ⟨ok, hok⟩ : ∃ b, g.ok = b := ⟨_, rfl⟩
  have HOK := Lib.hid hok
  rw [hok]
  clear hok
  have hbb := BQg.out
  have gc0 : w1.cell? ⟨qg, 0, none⟩ = some (.slice ao no ka) := hbb.cell 0 _ rfl
  have gc1 : w1.cell? ⟨qg, 1, none⟩ = some b := hbb.cell 1 _ rfl
  have gc2 : w1.cell? ⟨qg, 2, none⟩ = some c := hbb.cell 2 _ rfl
  clear hbb
  cases ok
  · have HF := Lib.hid (show liftX g l z = .zero from if_neg (by unfold fits; rw [HOK.out]; simp))
    have hbb := BQr.out
    have rc0 : w1.cell? ⟨qr, 0, none⟩ = some (.bool false) := hbb.cell 0 _ rfl
    have rc1 : w1.cell? ⟨qr, 1, none⟩ = some (.int .i64 0) := hbb.cell 1 _ rfl
    have rc2 : w1.cell? ⟨qr, 2, none⟩ = some (.int .i64 0) := hbb.cell 2 _ rfl
    have rc3 : w1.cell? ⟨qr, 3, none⟩ = some (.int .i64 0) := hbb.cell 3 _ rfl
    have rc4 : w1.cell? ⟨qr, 4, none⟩ = some (.int .i64 0) := hbb.cell 4 _ rfl
    have rf0 : w1.frozen? ⟨qr, 0, none⟩ = false := hbb.frozen 0
    have rf1 : w1.frozen? ⟨qr, 1, none⟩ = false := hbb.frozen 1
    have rf2 : w1.frozen? ⟨qr, 2, none⟩ = false := hbb.frozen 2
    have rf3 : w1.frozen? ⟨qr, 3, none⟩ = false := hbb.frozen 3
    have rf4 : w1.frozen? ⟨qr, 4, none⟩ = false := hbb.frozen 4
    clear hbb
    go_wp2_with fail
    clear rc0 rf0 rc1 rf1 rc2 rf2 rc3 rf3 rc4 rf4 gc0 gc1 gc2
    have bz : Box (((((w1.setCell ⟨qr, 0, none⟩ (.bool false)).setCell ⟨qr, 1, none⟩ (.int .i64 0)).setCell ⟨qr, 2, none⟩ (.int .i64 0)).setCell ⟨qr, 3, none⟩ (.int .i64 0)).setCell ⟨qr, 4, none⟩ (.int .i64 0)) qr 24 (tc .zero) := BQr.out.stT .zero
    have hbz : Below w.heap.size w (((((w1.setCell ⟨qr, 0, none⟩ (.bool false)).setCell ⟨qr, 1, none⟩ (.int .i64 0)).setCell ⟨qr, 2, none⟩ (.int .i64 0)).setCell ⟨qr, 3, none⟩ (.int .i64 0)).setCell ⟨qr, 4, none⟩ (.int .i64 0)) := below_stT W.out LEr.out .zero
    generalize (((((w1.setCell ⟨qr, 0, none⟩ (.bool false)).setCell ⟨qr, 1, none⟩ (.int .i64 0)).setCell ⟨qr, 2, none⟩ (.int .i64 0)).setCell ⟨qr, 3, none⟩ (.int .i64 0)).setCell ⟨qr, 4, none⟩ (.int .i64 0)) = wz at bz hbz ⊢
    have zc0 : wz.cell? ⟨qr, 0, none⟩ = some (.bool false) := bz.cell 0 _ rfl
    have zc1 : wz.cell? ⟨qr, 1, none⟩ = some (.int .i64 0) := bz.cell 1 _ rfl
    have zc2 : wz.cell? ⟨qr, 2, none⟩ = some (.int .i64 0) := bz.cell 2 _ rfl
    have zc3 : wz.cell? ⟨qr, 3, none⟩ = some (.int .i64 0) := bz.cell 3 _ rfl
    have zc4 : wz.cell? ⟨qr, 4, none⟩ = some (.int .i64 0) := bz.cell 4 _ rfl
    refine bodyPost_ret (v := .agg (tc .zero)) (by simp [results, Try.results22, go_sem, zc0, zc1, zc2, zc3, zc4, tc, P.Tup.zero]) rfl ⟨by rw [HF.out], hbz⟩
  · by_cases hln : m = no
    · have fn : (((m : Nat) : Int) != ((no : Nat) : Int)) = false := by rw [bne_eq_false_iff_eq]; omega
      have HLN := Lib.hid hln
      clear hln
      by_cases h0 : z < 0
      · have f0 : decide (z < 0) = true := decide_eq_true h0
        have HF := Lib.hid (show liftX g l z = .zero from if_neg (by omega))
        have hbb := BQr.out
        have rc0 : w1.cell? ⟨qr, 0, none⟩ = some (.bool false) := hbb.cell 0 _ rfl
        have rc1 : w1.cell? ⟨qr, 1, none⟩ = some (.int .i64 0) := hbb.cell 1 _ rfl
        have rc2 : w1.cell? ⟨qr, 2, none⟩ = some (.int .i64 0) := hbb.cell 2 _ rfl
        have rc3 : w1.cell? ⟨qr, 3, none⟩ = some (.int .i64 0) := hbb.cell 3 _ rfl
        have rc4 : w1.cell? ⟨qr, 4, none⟩ = some (.int .i64 0) := hbb.cell 4 _ rfl
        have rf0 : w1.frozen? ⟨qr, 0, none⟩ = false := hbb.frozen 0
        have rf1 : w1.frozen? ⟨qr, 1, none⟩ = false := hbb.frozen 1
        have rf2 : w1.frozen? ⟨qr, 2, none⟩ = false := hbb.frozen 2
        have rf3 : w1.frozen? ⟨qr, 3, none⟩ = false := hbb.frozen 3
        have rf4 : w1.frozen? ⟨qr, 4, none⟩ = false := hbb.frozen 4
        clear hbb
        go_wp2_with fail
        clear rc0 rf0 rc1 rf1 rc2 rf2 rc3 rf3 rc4 rf4 gc0 gc1 gc2
        have bz : Box (((((w1.setCell ⟨qr, 0, none⟩ (.bool false)).setCell ⟨qr, 1, none⟩ (.int .i64 0)).setCell ⟨qr, 2, none⟩ (.int .i64 0)).setCell ⟨qr, 3, none⟩ (.int .i64 0)).setCell ⟨qr, 4, none⟩ (.int .i64 0)) qr 24 (tc .zero) := BQr.out.stT .zero
        have hbz : Below w.heap.size w (((((w1.setCell ⟨qr, 0, none⟩ (.bool false)).setCell ⟨qr, 1, none⟩ (.int .i64 0)).setCell ⟨qr, 2, none⟩ (.int .i64 0)).setCell ⟨qr, 3, none⟩ (.int .i64 0)).setCell ⟨qr, 4, none⟩ (.int .i64 0)) := below_stT W.out LEr.out .zero
        generalize (((((w1.setCell ⟨qr, 0, none⟩ (.bool false)).setCell ⟨qr, 1, none⟩ (.int .i64 0)).setCell ⟨qr, 2, none⟩ (.int .i64 0)).setCell ⟨qr, 3, none⟩ (.int .i64 0)).setCell ⟨qr, 4, none⟩ (.int .i64 0)) = wz at bz hbz ⊢
        have zc0 : wz.cell? ⟨qr, 0, none⟩ = some (.bool false) := bz.cell 0 _ rfl
        have zc1 : wz.cell? ⟨qr, 1, none⟩ = some (.int .i64 0) := bz.cell 1 _ rfl
        have zc2 : wz.cell? ⟨qr, 2, none⟩ = some (.int .i64 0) := bz.cell 2 _ rfl
        have zc3 : wz.cell? ⟨qr, 3, none⟩ = some (.int .i64 0) := bz.cell 3 _ rfl
        have zc4 : wz.cell? ⟨qr, 4, none⟩ = some (.int .i64 0) := bz.cell 4 _ rfl
        refine bodyPost_ret (v := .agg (tc .zero)) (by simp [results, Try.results22, go_sem, zc0, zc1, zc2, zc3, zc4, tc, P.Tup.zero]) rfl ⟨by rw [HF.out], hbz⟩
      · have f0 : decide (z < 0) = false := decide_eq_false h0
        by_cases h1 : (m : Int) ≤ z
        · have f1 : decide ((m : Int) ≤ z) = true := decide_eq_true h1
          have HF := Lib.hid (show liftX g l z = .zero from if_neg (by rw [HM.out]; omega))
          have hbb := BQr.out
          have rc0 : w1.cell? ⟨qr, 0, none⟩ = some (.bool false) := hbb.cell 0 _ rfl
          have rc1 : w1.cell? ⟨qr, 1, none⟩ = some (.int .i64 0) := hbb.cell 1 _ rfl
          have rc2 : w1.cell? ⟨qr, 2, none⟩ = some (.int .i64 0) := hbb.cell 2 _ rfl
          have rc3 : w1.cell? ⟨qr, 3, none⟩ = some (.int .i64 0) := hbb.cell 3 _ rfl
          have rc4 : w1.cell? ⟨qr, 4, none⟩ = some (.int .i64 0) := hbb.cell 4 _ rfl
          have rf0 : w1.frozen? ⟨qr, 0, none⟩ = false := hbb.frozen 0
          have rf1 : w1.frozen? ⟨qr, 1, none⟩ = false := hbb.frozen 1
          have rf2 : w1.frozen? ⟨qr, 2, none⟩ = false := hbb.frozen 2
          have rf3 : w1.frozen? ⟨qr, 3, none⟩ = false := hbb.frozen 3
          have rf4 : w1.frozen? ⟨qr, 4, none⟩ = false := hbb.frozen 4
          clear hbb
          go_wp2_with fail
          clear rc0 rf0 rc1 rf1 rc2 rf2 rc3 rf3 rc4 rf4 gc0 gc1 gc2
          have bz : Box (((((w1.setCell ⟨qr, 0, none⟩ (.bool false)).setCell ⟨qr, 1, none⟩ (.int .i64 0)).setCell ⟨qr, 2, none⟩ (.int .i64 0)).setCell ⟨qr, 3, none⟩ (.int .i64 0)).setCell ⟨qr, 4, none⟩ (.int .i64 0)) qr 24 (tc .zero) := BQr.out.stT .zero
          have hbz : Below w.heap.size w (((((w1.setCell ⟨qr, 0, none⟩ (.bool false)).setCell ⟨qr, 1, none⟩ (.int .i64 0)).setCell ⟨qr, 2, none⟩ (.int .i64 0)).setCell ⟨qr, 3, none⟩ (.int .i64 0)).setCell ⟨qr, 4, none⟩ (.int .i64 0)) := below_stT W.out LEr.out .zero
          generalize (((((w1.setCell ⟨qr, 0, none⟩ (.bool false)).setCell ⟨qr, 1, none⟩ (.int .i64 0)).setCell ⟨qr, 2, none⟩ (.int .i64 0)).setCell ⟨qr, 3, none⟩ (.int .i64 0)).setCell ⟨qr, 4, none⟩ (.int .i64 0)) = wz at bz hbz ⊢
          have zc0 : wz.cell? ⟨qr, 0, none⟩ = some (.bool false) := bz.cell 0 _ rfl
          have zc1 : wz.cell? ⟨qr, 1, none⟩ = some (.int .i64 0) := bz.cell 1 _ rfl
          have zc2 : wz.cell? ⟨qr, 2, none⟩ = some (.int .i64 0) := bz.cell 2 _ rfl
          have zc3 : wz.cell? ⟨qr, 3, none⟩ = some (.int .i64 0) := bz.cell 3 _ rfl
          have zc4 : wz.cell? ⟨qr, 4, none⟩ = some (.int .i64 0) := bz.cell 4 _ rfl
          refine bodyPost_ret (v := .agg (tc .zero)) (by simp [results, Try.results22, go_sem, zc0, zc1, zc2, zc3, zc4, tc, P.Tup.zero]) rfl ⟨by rw [HF.out], hbz⟩
        · have f1 : decide ((m : Int) ≤ z) = false := decide_eq_false h1
          obtain ⟨i, rfl⟩ := Int.eq_ofNat_of_zero_le (show 0 ≤ z by omega)
          have hfit : fits g l = true := by
            unfold fits
            rw [HOK.out, HM.out, HNO.out, HLN.out]
            simp
          have HR := Lib.hid ((P.G.ok_iff g).1 HOK.out)
          have HLL := Lib.hid (show l.length = g.owner.length by rw [HM.out, HNO.out, HLN.out])
          have HI := Lib.hid (show i < g.owner.length by rw [HNO.out, ← HLN.out]; omega)
          have hi0 : (0 : Int) ≤ (i : Int) := Int.natCast_nonneg _
          have hii : (i : Int) < (m : Int) := by omega
          have HLX := Lib.hid (show liftX g l (i : Int) = g.lift l i by unfold liftX; rw [if_pos ⟨hfit, by omega, by rw [HM.out]; omega⟩, Int.toNat_natCast])
          obtain ⟨bl, ol, kl, e9, hbl, hcl⟩ := HVL.out.open_ HM.out (by omega)
          obtain ⟨rfl, rfl⟩ : lo = some ⟨bl, ol, none⟩ ∧ lk = kl := by injection e9 with h1 h2 h3; exact ⟨h1, h3⟩
          obtain ⟨t, ht⟩ : ∃ t, l.getD i .zero = t := ⟨_, rfl⟩
          have HCL := Lib.hid (fun w' hw' => hcl w' hw' i (by omega))
          rw [ht] at HCL
          have HT := Lib.hid ht
          clear hfit e9 hbl hcl ht
          go_wp2_with fail
          clear gc0 gc1 gc2
          refine (best_any g HR.out l HLL.out HLOW.out i HI.out _ _ w1 (HV.out.on W.out) (HVL.out.on W.out)).mono ?_
          rintro e w2 ⟨rfl, hb⟩
          replace BQg := Lib.hid (BQg.out.keep (grown_of_below hb none))
          replace BQr := Lib.hid (BQr.out.keep (grown_of_below hb none))
          replace W := Lib.hid (W.out.trans (hb.mono W.out.size))
          clear hb
          obtain ⟨u, hu⟩ : ∃ u, (g.choose l i).2 = u := ⟨_, rfl⟩
          rw [hu]
          have HU := Lib.hid hu
          clear hu
          unfold tc
          go_upto_region 5 with (fail)
          have bq : Box (w2.alloc (.cells #[.bool u.top, .int .i64 u.a, .int .i64 u.b, .int .i64 u.c, .int .i64 u.d] 24)) w2.heap.size 24 #[.bool u.top, .int .i64 u.a, .int .i64 u.b, .int .i64 u.c, .int .i64 u.d] := Box.new _ _ _
          have hgq := World.grownBy_alloc w2 (.cells #[.bool u.top, .int .i64 u.a, .int .i64 u.b, .int .i64 u.c, .int .i64 u.d] 24) none
          replace BQg := Lib.hid (BQg.out.keep hgq)
          replace BQr := Lib.hid (BQr.out.keep hgq)
          replace W := Lib.hid (W.out.trans ((below_of_grown hgq).mono W.out.size))
          generalize (w2.alloc (.cells #[.bool u.top, .int .i64 u.a, .int .i64 u.b, .int .i64 u.c, .int .i64 u.d] 24)) = w3 at bq BQg BQr W ⊢
          generalize w2.heap.size = qb at bq ⊢
          have BQb := Lib.hid bq
          clear bq hgq
          have kl0 : ∀ (d : Nat) (os : Array Obj), (grow (redrawn w3 d) os).cell? ⟨bl, ol + i * 5, none⟩ = some (.bool t.top) := fun d os => HCL.out _ (W.out.trans ((below_regrown w3 d os).mono W.out.size)) 0 _ rfl
          have kl1 : ∀ (d : Nat) (os : Array Obj), (grow (redrawn w3 d) os).cell? ⟨bl, ol + i * 5 + 1, none⟩ = some (.int .i64 t.a) := fun d os => HCL.out _ (W.out.trans ((below_regrown w3 d os).mono W.out.size)) 1 _ rfl
          have kl2 : ∀ (d : Nat) (os : Array Obj), (grow (redrawn w3 d) os).cell? ⟨bl, ol + i * 5 + 2, none⟩ = some (.int .i64 t.b) := fun d os => HCL.out _ (W.out.trans ((below_regrown w3 d os).mono W.out.size)) 2 _ rfl
          have kl3 : ∀ (d : Nat) (os : Array Obj), (grow (redrawn w3 d) os).cell? ⟨bl, ol + i * 5 + 3, none⟩ = some (.int .i64 t.c) := fun d os => HCL.out _ (W.out.trans ((below_regrown w3 d os).mono W.out.size)) 3 _ rfl
          have kl4 : ∀ (d : Nat) (os : Array Obj), (grow (redrawn w3 d) os).cell? ⟨bl, ol + i * 5 + 4, none⟩ = some (.int .i64 t.d) := fun d os => HCL.out _ (W.out.trans ((below_regrown w3 d os).mono W.out.size)) 4 _ rfl
          have kb0 : ∀ (d : Nat) (os : Array Obj), (grow (redrawn w3 d) os).cell? ⟨qb, 0, none⟩ = some (.bool u.top) := fun d os => (BQb.out.keep (grown_of_below (below_regrown w3 d os) none)).cell 0 _ rfl
          have kb1 : ∀ (d : Nat) (os : Array Obj), (grow (redrawn w3 d) os).cell? ⟨qb, 1, none⟩ = some (.int .i64 u.a) := fun d os => (BQb.out.keep (grown_of_below (below_regrown w3 d os) none)).cell 1 _ rfl
          have kb2 : ∀ (d : Nat) (os : Array Obj), (grow (redrawn w3 d) os).cell? ⟨qb, 2, none⟩ = some (.int .i64 u.b) := fun d os => (BQb.out.keep (grown_of_below (below_regrown w3 d os) none)).cell 2 _ rfl
          have kb3 : ∀ (d : Nat) (os : Array Obj), (grow (redrawn w3 d) os).cell? ⟨qb, 3, none⟩ = some (.int .i64 u.c) := fun d os => (BQb.out.keep (grown_of_below (below_regrown w3 d os) none)).cell 3 _ rfl
          have kb4 : ∀ (d : Nat) (os : Array Obj), (grow (redrawn w3 d) os).cell? ⟨qb, 4, none⟩ = some (.int .i64 u.d) := fun d os => (BQb.out.keep (grown_of_below (below_regrown w3 d os) none)).cell 4 _ rfl
          have c1 := fun d os => rRCmp w3 t u 0 d os
          refine wp_region_quiet_below (by kernel_rfl) (by kernel_rfl) ?_
          repeat (first | go_big_quiet_step (with_reducible exact c1 _ _) | quiet_step (with_reducible exact c1 _ _))
          refine wpQuiet_nil ?_
          intro _ hw'
          obtain ⟨⟨dq, osq⟩, hw''⟩ := hw'
          subst hw''
          clear c1 kb0 kb1 kb2 kb3 kb4 kl0 kl1 kl2 kl3 kl4
          have hb := below_regrown w3 dq osq
          replace BQg := Lib.hid (BQg.out.keep (grown_of_below hb none))
          replace BQr := Lib.hid (BQr.out.keep (grown_of_below hb none))
          replace W := Lib.hid (W.out.trans (hb.mono W.out.size))
          replace BQb := Lib.hid (BQb.out.keep (grown_of_below hb none))
          clear hb
          generalize (grow (redrawn w3 dq) osq) = w6 at BQg BQr W BQb ⊢
          by_cases hc : P.Tup.cmp t u 0 < 0
          · have fc : decide (0 ≤ P.Tup.cmp t u 0) = false := decide_eq_false (by omega)
            rw [fc]
            have HF := Lib.hid (show liftX g l (i : Int) = u by rw [HLX.out, P.G.lift, HT.out, HU.out, if_pos hc])
            clear hc
            have hbb := BQb.out
            have bc0 : w6.cell? ⟨qb, 0, none⟩ = some (.bool u.top) := hbb.cell 0 _ rfl
            have bc1 : w6.cell? ⟨qb, 1, none⟩ = some (.int .i64 u.a) := hbb.cell 1 _ rfl
            have bc2 : w6.cell? ⟨qb, 2, none⟩ = some (.int .i64 u.b) := hbb.cell 2 _ rfl
            have bc3 : w6.cell? ⟨qb, 3, none⟩ = some (.int .i64 u.c) := hbb.cell 3 _ rfl
            have bc4 : w6.cell? ⟨qb, 4, none⟩ = some (.int .i64 u.d) := hbb.cell 4 _ rfl
            clear hbb
            have hbb := BQr.out
            have rc0 : w6.cell? ⟨qr, 0, none⟩ = some (.bool false) := hbb.cell 0 _ rfl
            have rc1 : w6.cell? ⟨qr, 1, none⟩ = some (.int .i64 0) := hbb.cell 1 _ rfl
            have rc2 : w6.cell? ⟨qr, 2, none⟩ = some (.int .i64 0) := hbb.cell 2 _ rfl
            have rc3 : w6.cell? ⟨qr, 3, none⟩ = some (.int .i64 0) := hbb.cell 3 _ rfl
            have rc4 : w6.cell? ⟨qr, 4, none⟩ = some (.int .i64 0) := hbb.cell 4 _ rfl
            have rf0 : w6.frozen? ⟨qr, 0, none⟩ = false := hbb.frozen 0
            have rf1 : w6.frozen? ⟨qr, 1, none⟩ = false := hbb.frozen 1
            have rf2 : w6.frozen? ⟨qr, 2, none⟩ = false := hbb.frozen 2
            have rf3 : w6.frozen? ⟨qr, 3, none⟩ = false := hbb.frozen 3
            have rf4 : w6.frozen? ⟨qr, 4, none⟩ = false := hbb.frozen 4
            clear hbb
            go_wp2_with fail
            clear rc0 rf0 rc1 rf1 rc2 rf2 rc3 rf3 rc4 rf4
            have bz : Box (((((w6.setCell ⟨qr, 0, none⟩ (.bool u.top)).setCell ⟨qr, 1, none⟩ (.int .i64 u.a)).setCell ⟨qr, 2, none⟩ (.int .i64 u.b)).setCell ⟨qr, 3, none⟩ (.int .i64 u.c)).setCell ⟨qr, 4, none⟩ (.int .i64 u.d)) qr 24 (tc u) := BQr.out.stT u
            have hbz : Below w.heap.size w (((((w6.setCell ⟨qr, 0, none⟩ (.bool u.top)).setCell ⟨qr, 1, none⟩ (.int .i64 u.a)).setCell ⟨qr, 2, none⟩ (.int .i64 u.b)).setCell ⟨qr, 3, none⟩ (.int .i64 u.c)).setCell ⟨qr, 4, none⟩ (.int .i64 u.d)) := below_stT W.out LEr.out u
            generalize (((((w6.setCell ⟨qr, 0, none⟩ (.bool u.top)).setCell ⟨qr, 1, none⟩ (.int .i64 u.a)).setCell ⟨qr, 2, none⟩ (.int .i64 u.b)).setCell ⟨qr, 3, none⟩ (.int .i64 u.c)).setCell ⟨qr, 4, none⟩ (.int .i64 u.d)) = wz at bz hbz ⊢
            have zc0 : wz.cell? ⟨qr, 0, none⟩ = some (.bool u.top) := bz.cell 0 _ rfl
            have zc1 : wz.cell? ⟨qr, 1, none⟩ = some (.int .i64 u.a) := bz.cell 1 _ rfl
            have zc2 : wz.cell? ⟨qr, 2, none⟩ = some (.int .i64 u.b) := bz.cell 2 _ rfl
            have zc3 : wz.cell? ⟨qr, 3, none⟩ = some (.int .i64 u.c) := bz.cell 3 _ rfl
            have zc4 : wz.cell? ⟨qr, 4, none⟩ = some (.int .i64 u.d) := bz.cell 4 _ rfl
            refine bodyPost_ret (v := .agg (tc u)) (by simp [results, Try.results22, go_sem, zc0, zc1, zc2, zc3, zc4, tc]) rfl ⟨by rw [HF.out], hbz⟩
          · have fc : decide (0 ≤ P.Tup.cmp t u 0) = true := decide_eq_true (by omega)
            rw [fc]
            have HF := Lib.hid (show liftX g l (i : Int) = t by rw [HLX.out, P.G.lift, HT.out, HU.out, if_neg hc])
            clear hc
            have kl0 : w6.cell? ⟨bl, ol + i * 5, none⟩ = some (.bool t.top) := HCL.out _ W.out 0 _ rfl
            have kl1 : w6.cell? ⟨bl, ol + i * 5 + 1, none⟩ = some (.int .i64 t.a) := HCL.out _ W.out 1 _ rfl
            have kl2 : w6.cell? ⟨bl, ol + i * 5 + 2, none⟩ = some (.int .i64 t.b) := HCL.out _ W.out 2 _ rfl
            have kl3 : w6.cell? ⟨bl, ol + i * 5 + 3, none⟩ = some (.int .i64 t.c) := HCL.out _ W.out 3 _ rfl
            have kl4 : w6.cell? ⟨bl, ol + i * 5 + 4, none⟩ = some (.int .i64 t.d) := HCL.out _ W.out 4 _ rfl
            have hbb := BQr.out
            have rc0 : w6.cell? ⟨qr, 0, none⟩ = some (.bool false) := hbb.cell 0 _ rfl
            have rc1 : w6.cell? ⟨qr, 1, none⟩ = some (.int .i64 0) := hbb.cell 1 _ rfl
            have rc2 : w6.cell? ⟨qr, 2, none⟩ = some (.int .i64 0) := hbb.cell 2 _ rfl
            have rc3 : w6.cell? ⟨qr, 3, none⟩ = some (.int .i64 0) := hbb.cell 3 _ rfl
            have rc4 : w6.cell? ⟨qr, 4, none⟩ = some (.int .i64 0) := hbb.cell 4 _ rfl
            have rf0 : w6.frozen? ⟨qr, 0, none⟩ = false := hbb.frozen 0
            have rf1 : w6.frozen? ⟨qr, 1, none⟩ = false := hbb.frozen 1
            have rf2 : w6.frozen? ⟨qr, 2, none⟩ = false := hbb.frozen 2
            have rf3 : w6.frozen? ⟨qr, 3, none⟩ = false := hbb.frozen 3
            have rf4 : w6.frozen? ⟨qr, 4, none⟩ = false := hbb.frozen 4
            clear hbb
            go_wp2_with fail
            clear rc0 rf0 rc1 rf1 rc2 rf2 rc3 rf3 rc4 rf4
            have bz : Box (((((w6.setCell ⟨qr, 0, none⟩ (.bool t.top)).setCell ⟨qr, 1, none⟩ (.int .i64 t.a)).setCell ⟨qr, 2, none⟩ (.int .i64 t.b)).setCell ⟨qr, 3, none⟩ (.int .i64 t.c)).setCell ⟨qr, 4, none⟩ (.int .i64 t.d)) qr 24 (tc t) := BQr.out.stT t
            have hbz : Below w.heap.size w (((((w6.setCell ⟨qr, 0, none⟩ (.bool t.top)).setCell ⟨qr, 1, none⟩ (.int .i64 t.a)).setCell ⟨qr, 2, none⟩ (.int .i64 t.b)).setCell ⟨qr, 3, none⟩ (.int .i64 t.c)).setCell ⟨qr, 4, none⟩ (.int .i64 t.d)) := below_stT W.out LEr.out t
            generalize (((((w6.setCell ⟨qr, 0, none⟩ (.bool t.top)).setCell ⟨qr, 1, none⟩ (.int .i64 t.a)).setCell ⟨qr, 2, none⟩ (.int .i64 t.b)).setCell ⟨qr, 3, none⟩ (.int .i64 t.c)).setCell ⟨qr, 4, none⟩ (.int .i64 t.d)) = wz at bz hbz ⊢
            have zc0 : wz.cell? ⟨qr, 0, none⟩ = some (.bool t.top) := bz.cell 0 _ rfl
            have zc1 : wz.cell? ⟨qr, 1, none⟩ = some (.int .i64 t.a) := bz.cell 1 _ rfl
            have zc2 : wz.cell? ⟨qr, 2, none⟩ = some (.int .i64 t.b) := bz.cell 2 _ rfl
            have zc3 : wz.cell? ⟨qr, 3, none⟩ = some (.int .i64 t.c) := bz.cell 3 _ rfl
            have zc4 : wz.cell? ⟨qr, 4, none⟩ = some (.int .i64 t.d) := bz.cell 4 _ rfl
            refine bodyPost_ret (v := .agg (tc t)) (by simp [results, Try.results22, go_sem, zc0, zc1, zc2, zc3, zc4, tc]) rfl ⟨by rw [HF.out], hbz⟩
    · have fn : (((m : Nat) : Int) != ((no : Nat) : Int)) = true := by rw [bne_iff_ne]; omega
      have HF := Lib.hid (show liftX g l z = .zero from if_neg (by unfold fits; rw [HM.out, HNO.out]; simp [hln]))
      clear hln
      have hbb := BQr.out
      have rc0 : w1.cell? ⟨qr, 0, none⟩ = some (.bool false) := hbb.cell 0 _ rfl
      have rc1 : w1.cell? ⟨qr, 1, none⟩ = some (.int .i64 0) := hbb.cell 1 _ rfl
      have rc2 : w1.cell? ⟨qr, 2, none⟩ = some (.int .i64 0) := hbb.cell 2 _ rfl
      have rc3 : w1.cell? ⟨qr, 3, none⟩ = some (.int .i64 0) := hbb.cell 3 _ rfl
      have rc4 : w1.cell? ⟨qr, 4, none⟩ = some (.int .i64 0) := hbb.cell 4 _ rfl
      have rf0 : w1.frozen? ⟨qr, 0, none⟩ = false := hbb.frozen 0
      have rf1 : w1.frozen? ⟨qr, 1, none⟩ = false := hbb.frozen 1
      have rf2 : w1.frozen? ⟨qr, 2, none⟩ = false := hbb.frozen 2
      have rf3 : w1.frozen? ⟨qr, 3, none⟩ = false := hbb.frozen 3
      have rf4 : w1.frozen? ⟨qr, 4, none⟩ = false := hbb.frozen 4
      clear hbb
      go_wp2_with fail
      clear rc0 rf0 rc1 rf1 rc2 rf2 rc3 rf3 rc4 rf4 gc0 gc1 gc2
      have bz : Box (((((w1.setCell ⟨qr, 0, none⟩ (.bool false)).setCell ⟨qr, 1, none⟩ (.int .i64 0)).setCell ⟨qr, 2, none⟩ (.int .i64 0)).setCell ⟨qr, 3, none⟩ (.int .i64 0)).setCell ⟨qr, 4, none⟩ (.int .i64 0)) qr 24 (tc .zero) := BQr.out.stT .zero
      have hbz : Below w.heap.size w (((((w1.setCell ⟨qr, 0, none⟩ (.bool false)).setCell ⟨qr, 1, none⟩ (.int .i64 0)).setCell ⟨qr, 2, none⟩ (.int .i64 0)).setCell ⟨qr, 3, none⟩ (.int .i64 0)).setCell ⟨qr, 4, none⟩ (.int .i64 0)) := below_stT W.out LEr.out .zero
      generalize (((((w1.setCell ⟨qr, 0, none⟩ (.bool false)).setCell ⟨qr, 1, none⟩ (.int .i64 0)).setCell ⟨qr, 2, none⟩ (.int .i64 0)).setCell ⟨qr, 3, none⟩ (.int .i64 0)).setCell ⟨qr, 4, none⟩ (.int .i64 0)) = wz at bz hbz ⊢
      have zc0 : wz.cell? ⟨qr, 0, none⟩ = some (.bool false) := bz.cell 0 _ rfl
      have zc1 : wz.cell? ⟨qr, 1, none⟩ = some (.int .i64 0) := bz.cell 1 _ rfl
      have zc2 : wz.cell? ⟨qr, 2, none⟩ = some (.int .i64 0) := bz.cell 2 _ rfl
      have zc3 : wz.cell? ⟨qr, 3, none⟩ = some (.int .i64 0) := bz.cell 3 _ rfl
      have zc4 : wz.cell? ⟨qr, 4, none⟩ = some (.int .i64 0) := bz.cell 4 _ rfl
      refine bodyPost_ret (v := .agg (tc .zero)) (by simp [results, Try.results22, go_sem, zc0, zc1, zc2, zc3, zc4, tc, P.Tup.zero]) rfl ⟨by rw [HF.out], hbz⟩
end W
end Go.Proofs.Yteeaojciobmcaaa
