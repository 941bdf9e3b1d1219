/- fits; Lift. -/
import Derived.Test.YteeaojciobmcaaaLift
import Derived.Test.YteeaojciobmcaaaRight
import Derived.Deep.Cut
import Derived.Lib.Hide
import Derived.Deep.QuietTactic
import Derived.BigQuiet
namespace Go.Proofs.Yteeaojciobmcaaa
open Go.RowKit
namespace W

/-- Has a right game as many tuples? -/
def fits (g : P.G) (l : List P.Tup) : Bool := g.ok && decide (l.length = g.owner.length)
set_option maxRecDepth 100000 in
set_option maxHeartbeats 1000000 in
theorem fits_any (g : P.G) (l : List P.Tup) (v vl : Value) (w : World) (hv : GameV w v g) (hV : TupsV w vl l) :
    Calls Try.prog 41 #[v, vl] w fun e w' => e = .returned (.bool (fits g l)) ∧ Below w.heap.size w w' := by
  have HV := Lib.hid hv
  obtain ⟨a, b, c, rfl, ⟨ao, ak, rfl, hza, -⟩, -, -⟩ := hv
  obtain ⟨lo, lk, rfl, hzl, -⟩ := hV
  obtain ⟨n, hn⟩ : ∃ n, g.owner.length = n := ⟨_, rfl⟩
  obtain ⟨m, hm⟩ : ∃ m, l.length = m := ⟨_, rfl⟩
  rw [hn] at hza HV ⊢
  rw [hm] at hzl ⊢
  have HN := Lib.hid hn
  have HM := Lib.hid hm
  clear hn hm
  go_enter Try.func41, Try.ntmps41
  go_wp2_with fail
  have bx0 : Box (w.alloc (.cells #[.slice ao n ak, b, c] 33)) (w.heap.size) 33 #[.slice ao n ak, b, c] := Box.new w 33 #[.slice ao n ak, b, c]
  have hbq : Below w.heap.size w (w.alloc (.cells #[.slice ao n ak, b, c] 33)) := (Below.refl _ w).alloc (Nat.le_refl _) _
  have hle0 : w.heap.size ≤ w.heap.size := Nat.le_refl _
  generalize (w.alloc (.cells #[.slice ao n ak, b, c] 33)) = w0 at bx0 hbq  ⊢
  have BQg := Lib.hid bx0
  have W := Lib.hid hbq
  have LEg := Lib.hid hle0
  clear hbq hle0 bx0 
  obtain ⟨qg, hqg⟩ : ∃ qg, w.heap.size = qg := ⟨_, rfl⟩
  rw [hqg] at BQg ⊢
  have LEg : Hid (w.heap.size ≤ qg) := Lib.hid (by omega)
  clear hqg
  refine (right_any g _ _ (HV.out.on W.out)).mono ?_
  rintro e w1 ⟨rfl, hb⟩
  replace BQg := Lib.hid (BQg.out.keep (grown_of_below hb none))
  replace W := Lib.hid (W.out.trans (hb.mono W.out.size))
  clear hb
  have g0 := BQg.out.cell 0 _ rfl
  obtain ⟨z, hz⟩ : ∃ z, g.right.2 = z := ⟨_, rfl⟩
  have HZ := Lib.hid (show g.ok = decide (z = 0) from by rw [← hz]; rfl)
  rw [hz]
  clear hz
  by_cases h0 : z = 0
  · subst h0
    by_cases h1 : m = n
    · have f1 : (((m : Nat) : Int) == ((n : Nat) : Int)) = true := by rw [beq_iff_eq]; omega
      have HF := Lib.hid (show fits g l = true by unfold fits; rw [HZ.out, HM.out, HN.out, decide_eq_true h1]; rfl)
      clear h1
      go_wp2_with fail
      go_ret
      exact ⟨by rw [HF.out]; rfl, W.out⟩
    · have f1 : (((m : Nat) : Int) == ((n : Nat) : Int)) = false := by rw [beq_eq_false_iff_ne]; omega
      have HF := Lib.hid (show fits g l = false by unfold fits; rw [HZ.out, HM.out, HN.out, decide_eq_false h1]; rfl)
      clear h1
      go_wp2_with fail
      go_ret
      exact ⟨by rw [HF.out]; rfl, W.out⟩
  · have f0 : (((z : Nat) : Int) == 0) = false := by rw [beq_eq_false_iff_ne]; omega
    have HF := Lib.hid (show fits g l = false by unfold fits; rw [HZ.out, decide_eq_false h0]; rfl)
    clear h0
    go_wp2_with fail
    go_ret
    exact ⟨by rw [HF.out]; rfl, W.out⟩

/-- What Lift says. -/
def liftX (g : P.G) (l : List P.Tup) (z : Int) : P.Tup := if fits g l = true ∧ 0 ≤ z ∧ z < (l.length : Int) then g.lift l z.toNat else .zero
set_option maxRecDepth 100000 in
set_option maxHeartbeats 1000000 in
theorem liftx_any (g : P.G) (l : List P.Tup) (z : Int) (hlow : ∀ j k, k < 4 → -9223372036854775808 ≤ ct (l.getD j .zero) k) (v vl : Value) (w : World) (hv : GameV w v g) (hV : TupsV w vl l) :
    Calls Try.prog 21 #[v, vl, .int .i64 z] w fun e w' => e = .returned (.agg (tc (liftX g l z))) ∧ Below w.heap.size w w' := by
  have HV := Lib.hid hv
  have HVL := Lib.hid hV
  have HLOW := Lib.hid hlow
  obtain ⟨a, b, c, rfl, -⟩ := hv
  obtain ⟨lo, lk, rfl, hzl, -⟩ := hV
  obtain ⟨m, hm⟩ : ∃ m, l.length = m := ⟨_, rfl⟩
  rw [hm] at hzl HVL ⊢
  have HM := Lib.hid hm
  clear hm hlow
  go_enter Try.func21, Try.ntmps21
  go_wp2_with fail
  rw [show #[.bool false, .int .i64 0, .int .i64 0, .int .i64 0, .int .i64 0] = tc .zero from rfl]
  have bx0 : Box ((w.alloc (.cells #[a, b, c] 33)).alloc (.cells (tc .zero) 26)) (w.heap.size) 33 #[a, b, c] := Box.alloc (Box.new w 33 #[a, b, c]) (.cells (tc .zero) 26)
  have bx1 : Box ((w.alloc (.cells #[a, b, c] 33)).alloc (.cells (tc .zero) 26)) (w.heap.size + 1) 26 (tc .zero) := by
    have := Box.new (w.alloc (.cells #[a, b, c] 33)) 26 (tc .zero)
    simpa using this
  have hbq : Below w.heap.size w ((w.alloc (.cells #[a, b, c] 33)).alloc (.cells (tc .zero) 26)) := ((Below.refl _ w).alloc (Nat.le_refl _) _).alloc (by simp) _
  have lt0 : w.heap.size < w.heap.size + 1 := Nat.lt_succ_self _
  have hle0 : w.heap.size ≤ w.heap.size := Nat.le_refl _
  generalize ((w.alloc (.cells #[a, b, c] 33)).alloc (.cells (tc .zero) 26)) = w0 at bx0 bx1 hbq  ⊢
  have BQg := Lib.hid bx0
  have BQr := Lib.hid bx1
  have W := Lib.hid hbq
  have LTgr := Lib.hid lt0
  have LEg := Lib.hid hle0
  clear hbq hle0 bx0 bx1 lt0
  generalize w.heap.size + 1 = qr at BQr LTgr ⊢
  obtain ⟨qg, hqg⟩ : ∃ qg, w.heap.size = qg := ⟨_, rfl⟩
  rw [hqg] at BQg LTgr ⊢
  have LEg : Hid (w.heap.size ≤ qg) := Lib.hid (by omega)
  clear hqg
  have LEr := Lib.hid (Nat.le_trans LEg.out (Nat.le_of_lt LTgr.out))
  refine (fits_any g l _ _ w0 (HV.out.on W.out) (HVL.out.on W.out)).mono ?_
  rintro e w1 ⟨rfl, hb⟩
  replace BQg := Lib.hid (BQg.out.keep (grown_of_below hb none))
  replace BQr := Lib.hid (BQr.out.keep (grown_of_below hb none))
  replace W := Lib.hid (W.out.trans (hb.mono W.out.size))
  clear hb
  obtain ⟨ok, hok⟩ : ∃ b, fits g l = b := ⟨_, rfl⟩
  have HOK := Lib.hid hok
  rw [hok]
  clear hok
  cases ok
  · have HF := Lib.hid (show liftX g l z = .zero from if_neg (by rw [HOK.out]; simp))
    have hbb := BQr.out
    have rc0 : w1.cell? ⟨qr, 0, none⟩ = some (.bool false) := hbb.cell 0 _ rfl
    have rc1 : w1.cell? ⟨qr, 1, none⟩ = some (.int .i64 0) := hbb.cell 1 _ rfl
    have rc2 : w1.cell? ⟨qr, 2, none⟩ = some (.int .i64 0) := hbb.cell 2 _ rfl
    have rc3 : w1.cell? ⟨qr, 3, none⟩ = some (.int .i64 0) := hbb.cell 3 _ rfl
    have rc4 : w1.cell? ⟨qr, 4, none⟩ = some (.int .i64 0) := hbb.cell 4 _ rfl
    have rf0 : w1.frozen? ⟨qr, 0, none⟩ = false := hbb.frozen 0
    have rf1 : w1.frozen? ⟨qr, 1, none⟩ = false := hbb.frozen 1
    have rf2 : w1.frozen? ⟨qr, 2, none⟩ = false := hbb.frozen 2
    have rf3 : w1.frozen? ⟨qr, 3, none⟩ = false := hbb.frozen 3
    have rf4 : w1.frozen? ⟨qr, 4, none⟩ = false := hbb.frozen 4
    clear hbb
    go_wp2_with fail
    clear rc0 rf0 rc1 rf1 rc2 rf2 rc3 rf3 rc4 rf4
    have bz : Box (((((w1.setCell ⟨qr, 0, none⟩ (.bool false)).setCell ⟨qr, 1, none⟩ (.int .i64 0)).setCell ⟨qr, 2, none⟩ (.int .i64 0)).setCell ⟨qr, 3, none⟩ (.int .i64 0)).setCell ⟨qr, 4, none⟩ (.int .i64 0)) qr 26 (tc .zero) := BQr.out.stT .zero
    have hbz : Below w.heap.size w (((((w1.setCell ⟨qr, 0, none⟩ (.bool false)).setCell ⟨qr, 1, none⟩ (.int .i64 0)).setCell ⟨qr, 2, none⟩ (.int .i64 0)).setCell ⟨qr, 3, none⟩ (.int .i64 0)).setCell ⟨qr, 4, none⟩ (.int .i64 0)) := below_stT W.out LEr.out .zero
    generalize (((((w1.setCell ⟨qr, 0, none⟩ (.bool false)).setCell ⟨qr, 1, none⟩ (.int .i64 0)).setCell ⟨qr, 2, none⟩ (.int .i64 0)).setCell ⟨qr, 3, none⟩ (.int .i64 0)).setCell ⟨qr, 4, none⟩ (.int .i64 0)) = wz at bz hbz ⊢
    have zc0 : wz.cell? ⟨qr, 0, none⟩ = some (.bool false) := bz.cell 0 _ rfl
    have zc1 : wz.cell? ⟨qr, 1, none⟩ = some (.int .i64 0) := bz.cell 1 _ rfl
    have zc2 : wz.cell? ⟨qr, 2, none⟩ = some (.int .i64 0) := bz.cell 2 _ rfl
    have zc3 : wz.cell? ⟨qr, 3, none⟩ = some (.int .i64 0) := bz.cell 3 _ rfl
    have zc4 : wz.cell? ⟨qr, 4, none⟩ = some (.int .i64 0) := bz.cell 4 _ rfl
    refine bodyPost_ret (v := .agg (tc .zero)) (by simp [results, Try.results21, go_sem, zc0, zc1, zc2, zc3, zc4, tc, P.Tup.zero]) rfl ⟨by rw [HF.out], hbz⟩
  · by_cases h0 : z < 0
    · have f0 : decide (z < 0) = true := decide_eq_true h0
      have HF := Lib.hid (show liftX g l z = .zero from if_neg (by omega))
      have hbb := BQr.out
      have rc0 : w1.cell? ⟨qr, 0, none⟩ = some (.bool false) := hbb.cell 0 _ rfl
      have rc1 : w1.cell? ⟨qr, 1, none⟩ = some (.int .i64 0) := hbb.cell 1 _ rfl
      have rc2 : w1.cell? ⟨qr, 2, none⟩ = some (.int .i64 0) := hbb.cell 2 _ rfl
      have rc3 : w1.cell? ⟨qr, 3, none⟩ = some (.int .i64 0) := hbb.cell 3 _ rfl
      have rc4 : w1.cell? ⟨qr, 4, none⟩ = some (.int .i64 0) := hbb.cell 4 _ rfl
      have rf0 : w1.frozen? ⟨qr, 0, none⟩ = false := hbb.frozen 0
      have rf1 : w1.frozen? ⟨qr, 1, none⟩ = false := hbb.frozen 1
      have rf2 : w1.frozen? ⟨qr, 2, none⟩ = false := hbb.frozen 2
      have rf3 : w1.frozen? ⟨qr, 3, none⟩ = false := hbb.frozen 3
      have rf4 : w1.frozen? ⟨qr, 4, none⟩ = false := hbb.frozen 4
      clear hbb
      go_wp2_with fail
      clear rc0 rf0 rc1 rf1 rc2 rf2 rc3 rf3 rc4 rf4
      have bz : Box (((((w1.setCell ⟨qr, 0, none⟩ (.bool false)).setCell ⟨qr, 1, none⟩ (.int .i64 0)).setCell ⟨qr, 2, none⟩ (.int .i64 0)).setCell ⟨qr, 3, none⟩ (.int .i64 0)).setCell ⟨qr, 4, none⟩ (.int .i64 0)) qr 26 (tc .zero) := BQr.out.stT .zero
      have hbz : Below w.heap.size w (((((w1.setCell ⟨qr, 0, none⟩ (.bool false)).setCell ⟨qr, 1, none⟩ (.int .i64 0)).setCell ⟨qr, 2, none⟩ (.int .i64 0)).setCell ⟨qr, 3, none⟩ (.int .i64 0)).setCell ⟨qr, 4, none⟩ (.int .i64 0)) := below_stT W.out LEr.out .zero
      generalize (((((w1.setCell ⟨qr, 0, none⟩ (.bool false)).setCell ⟨qr, 1, none⟩ (.int .i64 0)).setCell ⟨qr, 2, none⟩ (.int .i64 0)).setCell ⟨qr, 3, none⟩ (.int .i64 0)).setCell ⟨qr, 4, none⟩ (.int .i64 0)) = wz at bz hbz ⊢
      have zc0 : wz.cell? ⟨qr, 0, none⟩ = some (.bool false) := bz.cell 0 _ rfl
      have zc1 : wz.cell? ⟨qr, 1, none⟩ = some (.int .i64 0) := bz.cell 1 _ rfl
      have zc2 : wz.cell? ⟨qr, 2, none⟩ = some (.int .i64 0) := bz.cell 2 _ rfl
      have zc3 : wz.cell? ⟨qr, 3, none⟩ = some (.int .i64 0) := bz.cell 3 _ rfl
      have zc4 : wz.cell? ⟨qr, 4, none⟩ = some (.int .i64 0) := bz.cell 4 _ rfl
      refine bodyPost_ret (v := .agg (tc .zero)) (by simp [results, Try.results21, go_sem, zc0, zc1, zc2, zc3, zc4, tc, P.Tup.zero]) rfl ⟨by rw [HF.out], hbz⟩
    · have f0 : decide (z < 0) = false := decide_eq_false h0
      by_cases h1 : (m : Int) ≤ z
      · have f1 : decide ((m : Int) ≤ z) = true := decide_eq_true h1
        have HF := Lib.hid (show liftX g l z = .zero from if_neg (by rw [HM.out]; omega))
        have hbb := BQr.out
        have rc0 : w1.cell? ⟨qr, 0, none⟩ = some (.bool false) := hbb.cell 0 _ rfl
        have rc1 : w1.cell? ⟨qr, 1, none⟩ = some (.int .i64 0) := hbb.cell 1 _ rfl
        have rc2 : w1.cell? ⟨qr, 2, none⟩ = some (.int .i64 0) := hbb.cell 2 _ rfl
        have rc3 : w1.cell? ⟨qr, 3, none⟩ = some (.int .i64 0) := hbb.cell 3 _ rfl
        have rc4 : w1.cell? ⟨qr, 4, none⟩ = some (.int .i64 0) := hbb.cell 4 _ rfl
        have rf0 : w1.frozen? ⟨qr, 0, none⟩ = false := hbb.frozen 0
        have rf1 : w1.frozen? ⟨qr, 1, none⟩ = false := hbb.frozen 1
        have rf2 : w1.frozen? ⟨qr, 2, none⟩ = false := hbb.frozen 2
        have rf3 : w1.frozen? ⟨qr, 3, none⟩ = false := hbb.frozen 3
        have rf4 : w1.frozen? ⟨qr, 4, none⟩ = false := hbb.frozen 4
        clear hbb
        go_wp2_with fail
        clear rc0 rf0 rc1 rf1 rc2 rf2 rc3 rf3 rc4 rf4
        have bz : Box (((((w1.setCell ⟨qr, 0, none⟩ (.bool false)).setCell ⟨qr, 1, none⟩ (.int .i64 0)).setCell ⟨qr, 2, none⟩ (.int .i64 0)).setCell ⟨qr, 3, none⟩ (.int .i64 0)).setCell ⟨qr, 4, none⟩ (.int .i64 0)) qr 26 (tc .zero) := BQr.out.stT .zero
        have hbz : Below w.heap.size w (((((w1.setCell ⟨qr, 0, none⟩ (.bool false)).setCell ⟨qr, 1, none⟩ (.int .i64 0)).setCell ⟨qr, 2, none⟩ (.int .i64 0)).setCell ⟨qr, 3, none⟩ (.int .i64 0)).setCell ⟨qr, 4, none⟩ (.int .i64 0)) := below_stT W.out LEr.out .zero
        generalize (((((w1.setCell ⟨qr, 0, none⟩ (.bool false)).setCell ⟨qr, 1, none⟩ (.int .i64 0)).setCell ⟨qr, 2, none⟩ (.int .i64 0)).setCell ⟨qr, 3, none⟩ (.int .i64 0)).setCell ⟨qr, 4, none⟩ (.int .i64 0)) = wz at bz hbz ⊢
        have zc0 : wz.cell? ⟨qr, 0, none⟩ = some (.bool false) := bz.cell 0 _ rfl
        have zc1 : wz.cell? ⟨qr, 1, none⟩ = some (.int .i64 0) := bz.cell 1 _ rfl
        have zc2 : wz.cell? ⟨qr, 2, none⟩ = some (.int .i64 0) := bz.cell 2 _ rfl
        have zc3 : wz.cell? ⟨qr, 3, none⟩ = some (.int .i64 0) := bz.cell 3 _ rfl
        have zc4 : wz.cell? ⟨qr, 4, none⟩ = some (.int .i64 0) := bz.cell 4 _ rfl
        refine bodyPost_ret (v := .agg (tc .zero)) (by simp [results, Try.results21, go_sem, zc0, zc1, zc2, zc3, zc4, tc, P.Tup.zero]) rfl ⟨by rw [HF.out], hbz⟩
      · have f1 : decide ((m : Int) ≤ z) = false := decide_eq_false h1
        obtain ⟨i, rfl⟩ := Int.eq_ofNat_of_zero_le (show 0 ≤ z by omega)
        have hok2 := HOK.out
        unfold fits at hok2
        rw [Bool.and_eq_true, decide_eq_true_eq, P.G.ok_iff] at hok2
        have HR := Lib.hid hok2.1
        have HLL := Lib.hid hok2.2
        have HI := Lib.hid (show i < g.owner.length by rw [← HLL.out, HM.out]; omega)
        obtain ⟨u, hu⟩ : ∃ u, g.lift l i = u := ⟨_, rfl⟩
        have HU := Lib.hid hu
        have HF := Lib.hid (show liftX g l (i : Int) = u by unfold liftX; rw [if_pos ⟨HOK.out, by omega, by rw [HM.out]; omega⟩, Int.toNat_natCast]; exact hu)
        have HG1 := Lib.hid (HV.out.on W.out)
        have HL1 := Lib.hid (HVL.out.on W.out)
        clear hu hok2 
        go_upto_region 7 with (fail)
        refine Rt.wp_region_tail 1 (fun idx => match idx with | 0 => (fun v _ _ => v = (.agg #[a, b, c])) | 1 => (fun v _ _ => v = (.agg #[a, b, c])) | 2 => (fun v _ _ => v = (.agg (bc g.tups))) | 3 => (fun v _ _ => v = (.slice lo m lk)) | 4 => (fun v _ _ => v = (.int .i64 (i : Int))) | 5 => (fun v _ _ => v = (.agg (tc u))) | _ => fun _ _ _ => True) (fun _ _ _ _ => True) (Rk.allK) 99 (by kernel_rfl) (by rfl) (by kernel_rfl) (by rfl) ?_ ?_ ?_ ?_
        · refine ⟨?_, ?_, ?_, ?_, ?_, ?_, trivial⟩
          · intro A w' K vals h hn hT hgk hK0
            have hg : w1.grownBy w' none := Rk.grown_of hgk
            have hK := fun v u (h1 : w'.grownBy u none) h2 => hK0 v u (Rk.keep_of h1) h2 trivial
            clear hT hgk hK0
            have r0 : A.tmps[3]?.getD undef = .pointer (some ⟨qg, 0, none⟩) := Rg.slot h.1
            have bs := BQg.out.keep hg
            have cc0 : w'.cell? ⟨qg, 0, none⟩ = some a := bs.cell 0 _ rfl
            have cc1 : w'.cell? ⟨qg, 1, none⟩ = some b := bs.cell 1 _ rfl
            have cc2 : w'.cell? ⟨qg, 2, none⟩ = some c := bs.cell 2 _ rfl
            clear h hn hg bs
            simp [Oper.wp, execOp, go_sem, r0, cc0, cc1, cc2]
            exact hK _ _ (Rg.grown_refl _ _) rfl
          · intro A w' K vals h hn hT hgk hK0
            have hg : w1.grownBy w' none := Rk.grown_of hgk
            have hK := fun v u (h1 : w'.grownBy u none) h2 => hK0 v u (Rk.keep_of h1) h2 trivial
            clear hT hgk hK0
            have r0 : A.tmps[3]?.getD undef = .pointer (some ⟨qg, 0, none⟩) := Rg.slot h.1
            have bs := BQg.out.keep hg
            have cc0 : w'.cell? ⟨qg, 0, none⟩ = some a := bs.cell 0 _ rfl
            have cc1 : w'.cell? ⟨qg, 1, none⟩ = some b := bs.cell 1 _ rfl
            have cc2 : w'.cell? ⟨qg, 2, none⟩ = some c := bs.cell 2 _ rfl
            clear h hn hg bs
            simp [Oper.wp, execOp, go_sem, r0, cc0, cc1, cc2]
            exact hK _ _ (Rg.grown_refl _ _) rfl
          · intro A w' K vals h hn hT hgk hK0
            have hg : w1.grownBy w' none := Rk.grown_of hgk
            have hK := fun v u (h1 : w'.grownBy u none) h2 => hK0 v u (Rk.keep_of h1) h2 trivial
            clear hT hgk hK0
            have r0 : A.tmps[23]?.getD undef = vals 1 := Rg.slot h.2.1
            have s0 : vals 1 = (.agg #[a, b, c]) := hn.1
            clear h hn
            simp [Oper.wp, go_sem, r0, s0]
            refine (bounds_any g _ w' (HG1.out.on (below_of_grown hg))).mono ?_
            rintro e w'' ⟨rfl, hb⟩
            exact hK _ _ (grown_of_below hb _) rfl
          · intro A w' K vals h hn hT hgk hK0
            have hg : w1.grownBy w' none := Rk.grown_of hgk
            have hK := fun v u (h1 : w'.grownBy u none) h2 => hK0 v u (Rk.keep_of h1) h2 trivial
            clear hT hgk hK0
            have r0 : A.tmps[1]?.getD undef = (.slice lo m lk) := Rg.slot (h.1)
            clear h hn hg
            simp [Oper.wp, execOp, go_sem, r0]
            exact hK _ _ (Rg.grown_refl _ _) rfl
          · intro A w' K vals h hn hT hgk hK0
            have hg : w1.grownBy w' none := Rk.grown_of hgk
            have hK := fun v u (h1 : w'.grownBy u none) h2 => hK0 v u (Rk.keep_of h1) h2 trivial
            clear hT hgk hK0
            have r0 : A.tmps[2]?.getD undef = (.int .i64 (i : Int)) := Rg.slot (h.1)
            clear h hn hg
            simp [Oper.wp, execOp, go_sem, r0]
            exact hK _ _ (Rg.grown_refl _ _) rfl
          · intro A w' K vals h hn hT hgk hK0
            have hg : w1.grownBy w' none := Rk.grown_of hgk
            have hK := fun v u (h1 : w'.grownBy u none) h2 => hK0 v u (Rk.keep_of h1) h2 trivial
            clear hT hgk hK0
            have r0 : A.tmps[22]?.getD undef = vals 0 := Rg.slot h.2.1
            have r1 : A.tmps[24]?.getD undef = vals 2 := Rg.slot h.2.2.1
            have r2 : A.tmps[25]?.getD undef = vals 3 := Rg.slot h.2.2.2.1
            have r3 : A.tmps[26]?.getD undef = vals 4 := Rg.slot h.2.2.2.2.1
            have s0 : vals 0 = (.agg #[a, b, c]) := hn.1
            have s1 : vals 2 = .agg (bc g.tups) := hn.2.1
            have s2 : vals 3 = (.slice lo m lk) := hn.2.2.1
            have s3 : vals 4 = (.int .i64 (i : Int)) := hn.2.2.2.1
            clear h hn
            simp [Oper.wp, go_sem, r0, r1, r2, r3, s0, s1, s2, s3]
            refine (lift_any g HR.out l HLL.out HLOW.out i HI.out _ _ w' (HG1.out.on (below_of_grown hg)) (HL1.out.on (below_of_grown hg))).mono ?_
            rintro e w'' ⟨rfl, hb⟩
            exact hK _ _ (grown_of_below hb _) (congrArg (fun x => Value.agg (tc x)) HU.out)
        · refine ⟨?_, ?_, ?_, ?_, ?_, ?_, trivial⟩
          · exact fun _ _ _ _ _ _ h => h
          · exact fun _ _ _ _ _ _ h => h
          · exact fun _ _ _ _ _ _ h => h
          · exact fun _ _ _ _ _ _ h => h
          · exact fun _ _ _ _ _ _ h => h
          · exact fun _ _ _ _ _ _ h => h
        · exact fun _ _ _ _ _ _ h => h
        · intro vals w6 G hgk hS hG
          have hg := Rk.grown_of hgk
          have s5 : vals 5 = .agg #[.bool u.top, .int .i64 u.a, .int .i64 u.b, .int .i64 u.c, .int .i64 u.d] := hS.2.2.2.2.2.1
          have hb := below_of_grown hg
          replace BQr := Lib.hid (BQr.out.keep (grown_of_below hb none))
          replace W := Lib.hid (W.out.trans (hb.mono W.out.size))
          clear hS hgk hg hb
          refine hG ?_
          clear hG
          simp only [List.take, List.drop, List.length, Nat.reduceSub, Nat.reduceAdd, Rg.putAll, s5]
          clear s5
          have rc0 : w6.cell? ⟨qr, 0, none⟩ = some (.bool false) := BQr.out.cell 0 _ rfl
          have rc1 : w6.cell? ⟨qr, 1, none⟩ = some (.int .i64 0) := BQr.out.cell 1 _ rfl
          have rc2 : w6.cell? ⟨qr, 2, none⟩ = some (.int .i64 0) := BQr.out.cell 2 _ rfl
          have rc3 : w6.cell? ⟨qr, 3, none⟩ = some (.int .i64 0) := BQr.out.cell 3 _ rfl
          have rc4 : w6.cell? ⟨qr, 4, none⟩ = some (.int .i64 0) := BQr.out.cell 4 _ rfl
          have rf0 : w6.frozen? ⟨qr, 0, none⟩ = false := BQr.out.frozen 0
          have rf1 : w6.frozen? ⟨qr, 1, none⟩ = false := BQr.out.frozen 1
          have rf2 : w6.frozen? ⟨qr, 2, none⟩ = false := BQr.out.frozen 2
          have rf3 : w6.frozen? ⟨qr, 3, none⟩ = false := BQr.out.frozen 3
          have rf4 : w6.frozen? ⟨qr, 4, none⟩ = false := BQr.out.frozen 4
          go_wp2_with fail
          clear rc0 rf0 rc1 rf1 rc2 rf2 rc3 rf3 rc4 rf4
          have bz : Box (((((w6.setCell ⟨qr, 0, none⟩ (.bool u.top)).setCell ⟨qr, 1, none⟩ (.int .i64 u.a)).setCell ⟨qr, 2, none⟩ (.int .i64 u.b)).setCell ⟨qr, 3, none⟩ (.int .i64 u.c)).setCell ⟨qr, 4, none⟩ (.int .i64 u.d)) qr 26 (tc u) := BQr.out.stT u
          have hbz : Below w.heap.size w (((((w6.setCell ⟨qr, 0, none⟩ (.bool u.top)).setCell ⟨qr, 1, none⟩ (.int .i64 u.a)).setCell ⟨qr, 2, none⟩ (.int .i64 u.b)).setCell ⟨qr, 3, none⟩ (.int .i64 u.c)).setCell ⟨qr, 4, none⟩ (.int .i64 u.d)) := below_stT W.out LEr.out u
          generalize (((((w6.setCell ⟨qr, 0, none⟩ (.bool u.top)).setCell ⟨qr, 1, none⟩ (.int .i64 u.a)).setCell ⟨qr, 2, none⟩ (.int .i64 u.b)).setCell ⟨qr, 3, none⟩ (.int .i64 u.c)).setCell ⟨qr, 4, none⟩ (.int .i64 u.d)) = wz at bz hbz ⊢
          have zc0 : wz.cell? ⟨qr, 0, none⟩ = some (.bool u.top) := bz.cell 0 _ rfl
          have zc1 : wz.cell? ⟨qr, 1, none⟩ = some (.int .i64 u.a) := bz.cell 1 _ rfl
          have zc2 : wz.cell? ⟨qr, 2, none⟩ = some (.int .i64 u.b) := bz.cell 2 _ rfl
          have zc3 : wz.cell? ⟨qr, 3, none⟩ = some (.int .i64 u.c) := bz.cell 3 _ rfl
          have zc4 : wz.cell? ⟨qr, 4, none⟩ = some (.int .i64 u.d) := bz.cell 4 _ rfl
          refine bodyPost_ret (v := .agg (tc u)) (by simp [results, Try.results21, go_sem, zc0, zc1, zc2, zc3, zc4, tc]) rfl ⟨by rw [HF.out], hbz⟩
end W
end Go.Proofs.Yteeaojciobmcaaa
