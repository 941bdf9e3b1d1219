/- What a lift makes of a position. -/
import Derived.Test.YteeaojciobmcaaaChoose
import Derived.Lib.QuietBelow
import Derived.Deep.Cut
import Derived.Lib.Hide
import Derived.Deep.QuietTactic
import Derived.BigQuiet
namespace Go.Proofs.Yteeaojciobmcaaa
open Go.RowKit Go.Sort
namespace W

theorem rCompare (W : World) (s t : P.Tup) (p : Int) (d : Nat) (os : Array Obj) : Calls Try.prog 14 #[.agg #[.bool s.top, .int .i64 s.a, .int .i64 s.b, .int .i64 s.c, .int .i64 s.d], .agg #[.bool t.top, .int .i64 t.a, .int .i64 t.b, .int .i64 t.c, .int .i64 t.d], .int .i64 p] (grow (redrawn W d) os) fun e w'' => e = .returned (.int .i64 (P.Tup.cmp s t p)) ∧ ∃ p : Regrown, w'' = grow (redrawn W p.d) p.os := Calls.regrown_of (compare_any s t p _)
set_option maxRecDepth 100000 in
set_option maxHeartbeats 1000000 in
theorem lift_any (g : P.G) (hr : g.Right) (l : List P.Tup) (hll : l.length = g.owner.length) (hlow : ∀ j k, k < 4 → -9223372036854775808 ≤ ct (l.getD j .zero) k) (i : Nat) (hi : i < g.owner.length) (v vl : Value) (w : World) (hv : GameV w v g) (hV : TupsV w vl l) :
    Calls Try.prog 42 #[v, .agg (bc g.tups), vl, .int .i64 (i : Int)] w fun e w' => e = .returned (.agg (tc (g.lift l i))) ∧ Below w.heap.size w w' := by
  have hop := hr.prio
  have hmp := hr.moves
  have hmany := hr.many
  have h0 := hr.pos
  obtain ⟨n, hn⟩ : ∃ n, g.owner.length = n := ⟨_, rfl⟩
  have HLL := Lib.hid hll
  have HI := Lib.hid hi
  rw [hn] at hop hmp hmany h0 hi hll
  have HV := Lib.hid hv
  have HVL := Lib.hid hV
  obtain ⟨a, b, c, rfl, -⟩ := hv
  obtain ⟨bl, ol, kl, rfl, hbl, hcl⟩ := hV.open_ hll h0
  have HCL := Lib.hid hcl
  have HR := Lib.hid hr
  have HN := Lib.hid hn
  have HLOW := Lib.hid hlow
  have LBL := Lib.hid hbl
  have hi0 : (0 : Int) ≤ (i : Int) := Int.natCast_nonneg _
  have hii : (i : Int) < (n : Int) := by omega
  clear hcl hr hn hop hmp hV hlow hbl hll hi
  unfold bc
  go_enter Try.func42, Try.ntmps42
  go_wp2_with fail
  rw [show #[.bool false, .int .i64 0, .int .i64 0, .int .i64 0, .int .i64 0] = tc .zero from rfl, show #[.int .i64 g.tups.a, .int .i64 g.tups.b, .int .i64 g.tups.c, .int .i64 g.tups.d] = bc g.tups from rfl]
  have bx0 : Box (((w.alloc (.cells #[a, b, c] 33)).alloc (.cells (bc g.tups) 22)).alloc (.cells (tc .zero) 26)) (w.heap.size) 33 #[a, b, c] := Box.alloc (Box.alloc (Box.new w 33 #[a, b, c]) (.cells (bc g.tups) 22)) (.cells (tc .zero) 26)
  have bx1 : Box (((w.alloc (.cells #[a, b, c] 33)).alloc (.cells (bc g.tups) 22)).alloc (.cells (tc .zero) 26)) (w.heap.size + 1) 22 (bc g.tups) := by
    have := Box.alloc (Box.new (w.alloc (.cells #[a, b, c] 33)) 22 (bc g.tups)) (.cells (tc .zero) 26)
    simpa using this
  have bx2 : Box (((w.alloc (.cells #[a, b, c] 33)).alloc (.cells (bc g.tups) 22)).alloc (.cells (tc .zero) 26)) (w.heap.size + 1 + 1) 26 (tc .zero) := by
    have := Box.new ((w.alloc (.cells #[a, b, c] 33)).alloc (.cells (bc g.tups) 22)) 26 (tc .zero)
    simpa using this
  have hbq : Below w.heap.size w (((w.alloc (.cells #[a, b, c] 33)).alloc (.cells (bc g.tups) 22)).alloc (.cells (tc .zero) 26)) := (((Below.refl _ w).alloc (Nat.le_refl _) _).alloc (by simp) _).alloc (by simp; omega) _
  have lt0 : w.heap.size < w.heap.size + 1 := Nat.lt_succ_self _
  have lt1 : w.heap.size + 1 < w.heap.size + 1 + 1 := Nat.lt_succ_self _
  have hle0 : w.heap.size ≤ w.heap.size := Nat.le_refl _
  generalize (((w.alloc (.cells #[a, b, c] 33)).alloc (.cells (bc g.tups) 22)).alloc (.cells (tc .zero) 26)) = w0 at bx0 bx1 bx2 hbq  ⊢
  have BQg := Lib.hid bx0
  have BQn := Lib.hid bx1
  have BQr := Lib.hid bx2
  have W := Lib.hid hbq
  have LTgn := Lib.hid lt0
  have LTnr := Lib.hid lt1
  have LEg := Lib.hid hle0
  clear hbq hle0 bx0 bx1 bx2 lt0 lt1
  generalize w.heap.size + 1 + 1 = qr at BQr LTnr ⊢
  generalize w.heap.size + 1 = qn at BQn LTnr LTgn ⊢
  obtain ⟨qg, hqg⟩ : ∃ qg, w.heap.size = qg := ⟨_, rfl⟩
  rw [hqg] at BQg LTgn ⊢
  have LEg : Hid (w.heap.size ≤ qg) := Lib.hid (by omega)
  clear hqg
  have LEn := Lib.hid (Nat.le_trans LEg.out (Nat.le_of_lt LTgn.out))
  have LEr := Lib.hid (Nat.le_trans LEn.out (Nat.le_of_lt LTnr.out))
  refine (choose_any g HR.out l HLL.out HLOW.out i HI.out _ _ w0 (HV.out.on W.out) (HVL.out.on W.out)).mono ?_
  rintro e w1 ⟨rfl, hb⟩
  replace BQg := Lib.hid (BQg.out.keep (grown_of_below hb none))
  replace BQn := Lib.hid (BQn.out.keep (grown_of_below hb none))
  replace BQr := Lib.hid (BQr.out.keep (grown_of_below hb none))
  replace W := Lib.hid (W.out.trans (hb.mono W.out.size))
  clear hb
  obtain ⟨u, hu⟩ : ∃ u, (g.choose l i).2 = u := ⟨_, rfl⟩
  obtain ⟨t, ht⟩ : ∃ t, l.getD i .zero = t := ⟨_, rfl⟩
  rw [hu]
  have HU := Lib.hid hu
  have HT := Lib.hid ht
  clear hu ht
  unfold tc
  go_upto_region 7 with (fail)
  have bq : Box (w1.alloc (.cells #[.bool u.top, .int .i64 u.a, .int .i64 u.b, .int .i64 u.c, .int .i64 u.d] 26)) w1.heap.size 26 #[.bool u.top, .int .i64 u.a, .int .i64 u.b, .int .i64 u.c, .int .i64 u.d] := Box.new _ _ _
  have hgq := World.grownBy_alloc w1 (.cells #[.bool u.top, .int .i64 u.a, .int .i64 u.b, .int .i64 u.c, .int .i64 u.d] 26) none
  replace BQg := Lib.hid (BQg.out.keep hgq)
  replace BQn := Lib.hid (BQn.out.keep hgq)
  replace BQr := Lib.hid (BQr.out.keep hgq)
  replace W := Lib.hid (W.out.trans ((below_of_grown hgq).mono W.out.size))
  generalize (w1.alloc (.cells #[.bool u.top, .int .i64 u.a, .int .i64 u.b, .int .i64 u.c, .int .i64 u.d] 26)) = w2 at bq BQg BQn BQr W ⊢
  generalize w1.heap.size = qm at bq ⊢
  have BQm := Lib.hid bq
  clear bq hgq
  have hcl := HCL.out w2 W.out i (by have := HN.out; have := HI.out; omega)
  rw [HT.out] at hcl
  have kl0 : ∀ (d : Nat) (os : Array Obj), (grow (redrawn w2 d) os).cell? ⟨bl, ol + i * 5, none⟩ = some (.bool t.top) := fun d os => (((below_regrown w2 d os).cell (p := ⟨bl, ol + i * 5, none⟩) (Nat.lt_of_lt_of_le LBL.out W.out.size))).trans (hcl 0 _ rfl)
  have kl1 : ∀ (d : Nat) (os : Array Obj), (grow (redrawn w2 d) os).cell? ⟨bl, ol + i * 5 + 1, none⟩ = some (.int .i64 t.a) := fun d os => (((below_regrown w2 d os).cell (p := ⟨bl, ol + i * 5 + 1, none⟩) (Nat.lt_of_lt_of_le LBL.out W.out.size))).trans (hcl 1 _ rfl)
  have kl2 : ∀ (d : Nat) (os : Array Obj), (grow (redrawn w2 d) os).cell? ⟨bl, ol + i * 5 + 2, none⟩ = some (.int .i64 t.b) := fun d os => (((below_regrown w2 d os).cell (p := ⟨bl, ol + i * 5 + 2, none⟩) (Nat.lt_of_lt_of_le LBL.out W.out.size))).trans (hcl 2 _ rfl)
  have kl3 : ∀ (d : Nat) (os : Array Obj), (grow (redrawn w2 d) os).cell? ⟨bl, ol + i * 5 + 3, none⟩ = some (.int .i64 t.c) := fun d os => (((below_regrown w2 d os).cell (p := ⟨bl, ol + i * 5 + 3, none⟩) (Nat.lt_of_lt_of_le LBL.out W.out.size))).trans (hcl 3 _ rfl)
  have kl4 : ∀ (d : Nat) (os : Array Obj), (grow (redrawn w2 d) os).cell? ⟨bl, ol + i * 5 + 4, none⟩ = some (.int .i64 t.d) := fun d os => (((below_regrown w2 d os).cell (p := ⟨bl, ol + i * 5 + 4, none⟩) (Nat.lt_of_lt_of_le LBL.out W.out.size))).trans (hcl 4 _ rfl)
  clear hcl
  have km0 : ∀ (d : Nat) (os : Array Obj), (grow (redrawn w2 d) os).cell? ⟨qm, 0, none⟩ = some (.bool u.top) := fun d os => (BQm.out.keep (grown_of_below (below_regrown w2 d os) none)).cell 0 _ rfl
  have km1 : ∀ (d : Nat) (os : Array Obj), (grow (redrawn w2 d) os).cell? ⟨qm, 1, none⟩ = some (.int .i64 u.a) := fun d os => (BQm.out.keep (grown_of_below (below_regrown w2 d os) none)).cell 1 _ rfl
  have km2 : ∀ (d : Nat) (os : Array Obj), (grow (redrawn w2 d) os).cell? ⟨qm, 2, none⟩ = some (.int .i64 u.b) := fun d os => (BQm.out.keep (grown_of_below (below_regrown w2 d os) none)).cell 2 _ rfl
  have km3 : ∀ (d : Nat) (os : Array Obj), (grow (redrawn w2 d) os).cell? ⟨qm, 3, none⟩ = some (.int .i64 u.c) := fun d os => (BQm.out.keep (grown_of_below (below_regrown w2 d os) none)).cell 3 _ rfl
  have km4 : ∀ (d : Nat) (os : Array Obj), (grow (redrawn w2 d) os).cell? ⟨qm, 4, none⟩ = some (.int .i64 u.d) := fun d os => (BQm.out.keep (grown_of_below (below_regrown w2 d os) none)).cell 4 _ rfl
  have c1 := fun d os => rCompare w2 t u 0 d os
  refine wp_region_quiet_below (by kernel_rfl) (by kernel_rfl) ?_
  repeat (first | go_big_quiet_step (with_reducible exact c1 _ _) | quiet_step (with_reducible exact c1 _ _))
  refine wpQuiet_nil ?_
  intro _ hw'
  obtain ⟨⟨dq, osq⟩, hw''⟩ := hw'
  subst hw''
  clear c1 km0 km1 km2 km3 km4 kl0 kl1 kl2 kl3 kl4
  have hb := below_regrown w2 dq osq
  replace BQg := Lib.hid (BQg.out.keep (grown_of_below hb none))
  replace BQn := Lib.hid (BQn.out.keep (grown_of_below hb none))
  replace BQr := Lib.hid (BQr.out.keep (grown_of_below hb none))
  replace BQm := Lib.hid (BQm.out.keep (grown_of_below hb none))
  replace W := Lib.hid (W.out.trans (hb.mono W.out.size))
  clear hb
  generalize (grow (redrawn w2 dq) osq) = w6 at BQg BQn BQr BQm W ⊢
  by_cases hc : P.Tup.cmp t u 0 < 0
  · have fc : decide (P.Tup.cmp t u 0 < 0) = true := decide_eq_true hc
    have HF := Lib.hid (show g.lift l i = u by rw [P.G.lift, HT.out, HU.out, if_pos hc])
    have mc0 : w6.cell? ⟨qm, 0, none⟩ = some (.bool u.top) := BQm.out.cell 0 _ rfl
    have mc1 : w6.cell? ⟨qm, 1, none⟩ = some (.int .i64 u.a) := BQm.out.cell 1 _ rfl
    have mc2 : w6.cell? ⟨qm, 2, none⟩ = some (.int .i64 u.b) := BQm.out.cell 2 _ rfl
    have mc3 : w6.cell? ⟨qm, 3, none⟩ = some (.int .i64 u.c) := BQm.out.cell 3 _ rfl
    have mc4 : w6.cell? ⟨qm, 4, none⟩ = some (.int .i64 u.d) := BQm.out.cell 4 _ rfl
    have rc0 : w6.cell? ⟨qr, 0, none⟩ = some (.bool false) := BQr.out.cell 0 _ rfl
    have rc1 : w6.cell? ⟨qr, 1, none⟩ = some (.int .i64 0) := BQr.out.cell 1 _ rfl
    have rc2 : w6.cell? ⟨qr, 2, none⟩ = some (.int .i64 0) := BQr.out.cell 2 _ rfl
    have rc3 : w6.cell? ⟨qr, 3, none⟩ = some (.int .i64 0) := BQr.out.cell 3 _ rfl
    have rc4 : w6.cell? ⟨qr, 4, none⟩ = some (.int .i64 0) := BQr.out.cell 4 _ rfl
    have rf0 : w6.frozen? ⟨qr, 0, none⟩ = false := BQr.out.frozen 0
    have rf1 : w6.frozen? ⟨qr, 1, none⟩ = false := BQr.out.frozen 1
    have rf2 : w6.frozen? ⟨qr, 2, none⟩ = false := BQr.out.frozen 2
    have rf3 : w6.frozen? ⟨qr, 3, none⟩ = false := BQr.out.frozen 3
    have rf4 : w6.frozen? ⟨qr, 4, none⟩ = false := BQr.out.frozen 4
    go_wp2_with fail
    clear rc0 rf0 rc1 rf1 rc2 rf2 rc3 rf3 rc4 rf4
    have bz : Box (((((w6.setCell ⟨qr, 0, none⟩ (.bool u.top)).setCell ⟨qr, 1, none⟩ (.int .i64 u.a)).setCell ⟨qr, 2, none⟩ (.int .i64 u.b)).setCell ⟨qr, 3, none⟩ (.int .i64 u.c)).setCell ⟨qr, 4, none⟩ (.int .i64 u.d)) qr 26 (tc u) := BQr.out.stT u
    have hbz : Below w.heap.size w (((((w6.setCell ⟨qr, 0, none⟩ (.bool u.top)).setCell ⟨qr, 1, none⟩ (.int .i64 u.a)).setCell ⟨qr, 2, none⟩ (.int .i64 u.b)).setCell ⟨qr, 3, none⟩ (.int .i64 u.c)).setCell ⟨qr, 4, none⟩ (.int .i64 u.d)) := below_stT W.out LEr.out u
    generalize (((((w6.setCell ⟨qr, 0, none⟩ (.bool u.top)).setCell ⟨qr, 1, none⟩ (.int .i64 u.a)).setCell ⟨qr, 2, none⟩ (.int .i64 u.b)).setCell ⟨qr, 3, none⟩ (.int .i64 u.c)).setCell ⟨qr, 4, none⟩ (.int .i64 u.d)) = wz at bz hbz ⊢
    have zc0 : wz.cell? ⟨qr, 0, none⟩ = some (.bool u.top) := bz.cell 0 _ rfl
    have zc1 : wz.cell? ⟨qr, 1, none⟩ = some (.int .i64 u.a) := bz.cell 1 _ rfl
    have zc2 : wz.cell? ⟨qr, 2, none⟩ = some (.int .i64 u.b) := bz.cell 2 _ rfl
    have zc3 : wz.cell? ⟨qr, 3, none⟩ = some (.int .i64 u.c) := bz.cell 3 _ rfl
    have zc4 : wz.cell? ⟨qr, 4, none⟩ = some (.int .i64 u.d) := bz.cell 4 _ rfl
    refine bodyPost_ret (v := .agg (tc u)) (by simp [results, Try.results42, go_sem, zc0, zc1, zc2, zc3, zc4, tc]) rfl ⟨by rw [HF.out], hbz⟩
  · have fc : decide (P.Tup.cmp t u 0 < 0) = false := decide_eq_false hc
    have HF := Lib.hid (show g.lift l i = t by rw [P.G.lift, HT.out, HU.out, if_neg hc])
    have hcl := HCL.out w6 W.out i (by have := HN.out; have := HI.out; omega)
    rw [HT.out] at hcl
    have kl0 : w6.cell? ⟨bl, ol + i * 5, none⟩ = some (.bool t.top) := hcl 0 _ rfl
    have kl1 : w6.cell? ⟨bl, ol + i * 5 + 1, none⟩ = some (.int .i64 t.a) := hcl 1 _ rfl
    have kl2 : w6.cell? ⟨bl, ol + i * 5 + 2, none⟩ = some (.int .i64 t.b) := hcl 2 _ rfl
    have kl3 : w6.cell? ⟨bl, ol + i * 5 + 3, none⟩ = some (.int .i64 t.c) := hcl 3 _ rfl
    have kl4 : w6.cell? ⟨bl, ol + i * 5 + 4, none⟩ = some (.int .i64 t.d) := hcl 4 _ rfl
    clear hcl
    have rc0 : w6.cell? ⟨qr, 0, none⟩ = some (.bool false) := BQr.out.cell 0 _ rfl
    have rc1 : w6.cell? ⟨qr, 1, none⟩ = some (.int .i64 0) := BQr.out.cell 1 _ rfl
    have rc2 : w6.cell? ⟨qr, 2, none⟩ = some (.int .i64 0) := BQr.out.cell 2 _ rfl
    have rc3 : w6.cell? ⟨qr, 3, none⟩ = some (.int .i64 0) := BQr.out.cell 3 _ rfl
    have rc4 : w6.cell? ⟨qr, 4, none⟩ = some (.int .i64 0) := BQr.out.cell 4 _ rfl
    have rf0 : w6.frozen? ⟨qr, 0, none⟩ = false := BQr.out.frozen 0
    have rf1 : w6.frozen? ⟨qr, 1, none⟩ = false := BQr.out.frozen 1
    have rf2 : w6.frozen? ⟨qr, 2, none⟩ = false := BQr.out.frozen 2
    have rf3 : w6.frozen? ⟨qr, 3, none⟩ = false := BQr.out.frozen 3
    have rf4 : w6.frozen? ⟨qr, 4, none⟩ = false := BQr.out.frozen 4
    go_wp2_with fail
    clear rc0 rf0 rc1 rf1 rc2 rf2 rc3 rf3 rc4 rf4
    have bz : Box (((((w6.setCell ⟨qr, 0, none⟩ (.bool t.top)).setCell ⟨qr, 1, none⟩ (.int .i64 t.a)).setCell ⟨qr, 2, none⟩ (.int .i64 t.b)).setCell ⟨qr, 3, none⟩ (.int .i64 t.c)).setCell ⟨qr, 4, none⟩ (.int .i64 t.d)) qr 26 (tc t) := BQr.out.stT t
    have hbz : Below w.heap.size w (((((w6.setCell ⟨qr, 0, none⟩ (.bool t.top)).setCell ⟨qr, 1, none⟩ (.int .i64 t.a)).setCell ⟨qr, 2, none⟩ (.int .i64 t.b)).setCell ⟨qr, 3, none⟩ (.int .i64 t.c)).setCell ⟨qr, 4, none⟩ (.int .i64 t.d)) := below_stT W.out LEr.out t
    generalize (((((w6.setCell ⟨qr, 0, none⟩ (.bool t.top)).setCell ⟨qr, 1, none⟩ (.int .i64 t.a)).setCell ⟨qr, 2, none⟩ (.int .i64 t.b)).setCell ⟨qr, 3, none⟩ (.int .i64 t.c)).setCell ⟨qr, 4, none⟩ (.int .i64 t.d)) = wz at bz hbz ⊢
    have zc0 : wz.cell? ⟨qr, 0, none⟩ = some (.bool t.top) := bz.cell 0 _ rfl
    have zc1 : wz.cell? ⟨qr, 1, none⟩ = some (.int .i64 t.a) := bz.cell 1 _ rfl
    have zc2 : wz.cell? ⟨qr, 2, none⟩ = some (.int .i64 t.b) := bz.cell 2 _ rfl
    have zc3 : wz.cell? ⟨qr, 3, none⟩ = some (.int .i64 t.c) := bz.cell 3 _ rfl
    have zc4 : wz.cell? ⟨qr, 4, none⟩ = some (.int .i64 t.d) := bz.cell 4 _ rfl
    refine bodyPost_ret (v := .agg (tc t)) (by simp [results, Try.results42, go_sem, zc0, zc1, zc2, zc3, zc4, tc]) rfl ⟨by rw [HF.out], hbz⟩
end W
end Go.Proofs.Yteeaojciobmcaaa
