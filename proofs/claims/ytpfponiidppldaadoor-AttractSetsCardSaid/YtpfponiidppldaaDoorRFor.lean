/- The document's test of the moves. -/
import Derived.Test.YtpfponiidppldaaDoorMoves
import Derived.Lib.QuietBelow
import Derived.Test.YtpfponiidppldaaDoorEq
import Derived.Test.YtpfponiidppldaaDoorGame
import Derived.Laws.StructEq
import Derived.Test.YtpfponiidppldaaDoorRCopy
import Derived.Test.YtpfponiidppldaaDoorRight
import Derived.Test.YtpfponiidppldaaDoorRRight
import Derived.Test.YtpfponiidppldaaDoorRAtt
import Derived.Test.YtpfponiidppldaaDoorRegionG
import Derived.Deep.Cut
section
namespace Go.Proofs.YtpfponiidppldaaDoor
open Go.RowKit
namespace W

theorem below_drewN {B : Nat} {a w : World} (h : Below B a w) (n : Nat) : Below B a (w.drewN n) := h.trans ⟨rfl, rfl, rfl, Nat.le_refl _, fun _ _ => rfl⟩
set_option maxRecDepth 100000 in
set_option maxHeartbeats 1000000 in
theorem sameints_any (va vb : Value) (xs ys : List Int) (w : World) (ha : Ints w va xs) (hb : Ints w vb ys) :
    Calls Tryd.prog 34 #[va, vb] w fun e w' => e = .returned (.bool (decide (xs = ys))) ∧ Below w.heap.size w w' := by
  obtain ⟨ao, ca, rfl, hza, ha⟩ := ha
  obtain ⟨bo, cb, rfl, hzb, hb⟩ := hb
  have HA := Lib.hid ha
  have HB := Lib.hid hb
  clear ha hb
  by_cases hl : xs.length = ys.length
  · have f0 : (((xs.length : Nat) : Int) != ((ys.length : Nat) : Int)) = false := by rw [bne_eq_false_iff_eq]; omega
    have HL := Lib.hid hl
    clear hl
    go_enter Tryd.func34, Tryd.ntmps34
    go_wp2_with fail
    go_loopw [5] (fun i wr => ∃ j : Nat, j ≤ xs.length ∧ i = .int .i64 j ∧ xs.take j = ys.take j ∧ Below w.heap.size w wr) (fun i _ => xs.length - (intOf i).toNat)
    case atStart => exact ⟨0, Nat.zero_le _, rfl, rfl, Below.refl _ _⟩
    case round =>
      obtain ⟨j, hj, rfl, ht, hbw⟩ := hrel
      have HT := Lib.hid ht
      have HW := Lib.hid hbw
      clear ht hbw
      have hj0 : (0 : Int) ≤ (j : Int) := Int.natCast_nonneg _
      by_cases hlt : j < xs.length
      · have fj : decide ((j : Int) < (xs.length : Int)) = true := decide_eq_true (by omega)
        have hjy : j < ys.length := by rw [← HL.out]; exact hlt
        obtain ⟨ba, oa, rfl, la, ka⟩ := HA.out.resolve_left (fun e => by rw [e] at hlt; exact absurd hlt (Nat.not_lt_zero j))
        obtain ⟨bb, ob, rfl, lb, kb⟩ := HB.out.resolve_left (fun e => by rw [e] at hjy; exact absurd hjy (Nat.not_lt_zero j))
        obtain ⟨x, hx⟩ : ∃ x, xs.getD j 0 = x := ⟨_, rfl⟩
        obtain ⟨y, hy⟩ : ∃ y, ys.getD j 0 = y := ⟨_, rfl⟩
        have c1 : wr.cell? ⟨ba, oa + j, none⟩ = some (.int .i64 x) := by rw [← hx]; exact (HW.out.cell (p := ⟨ba, oa + j, none⟩) la).trans (ka j hlt)
        have c2 : wr.cell? ⟨bb, ob + j, none⟩ = some (.int .i64 y) := by rw [← hy]; exact (HW.out.cell (p := ⟨bb, ob + j, none⟩) lb).trans (kb j hjy)
        have hxg : xs[j]? = some x := by rw [List.getElem?_eq_getElem hlt, ← hx, List.getD_eq_getElem?_getD, List.getElem?_eq_getElem hlt]; rfl
        have hyg : ys[j]? = some y := by rw [List.getElem?_eq_getElem hjy, ← hy, List.getD_eq_getElem?_getD, List.getElem?_eq_getElem hjy]; rfl
        have i1 : (j : Int) < (xs.length : Int) := by omega
        have i2 : (j : Int) < (ys.length : Int) := by omega
        have HXG := Lib.hid hxg
        have HYG := Lib.hid hyg
        clear hxg hyg hx hy ka kb
        by_cases e : x = y
        · have g : (x != y) = false := by rw [bne_eq_false_iff_eq]; exact e
          have HF := Lib.hid (show xs.take (j + 1) = ys.take (j + 1) by rw [List.take_add_one, List.take_add_one, HT.out, HXG.out, HYG.out, e])
          clear e
          go_wp2_with fail
          go_quiet (fail)
          go_wp2_with fail
          go_roundw
          case rel => exact ⟨j + 1, by omega, by go_num, HF.out, below_drewN HW.out _⟩
          case measure => simp [intOf]; omega
        · have g : (x != y) = true := by rw [bne_iff_ne]; exact e
          have HF := Lib.hid (show decide (xs = ys) = false from decide_eq_false (fun h => e (by have := HXG.out; rw [h, HYG.out] at this; exact (Option.some.inj this).symm)))
          clear e
          go_wp2_with fail
          go_quiet (fail)
          go_wp2_with fail
          go_ret
          exact ⟨by rw [HF.out]; rfl, below_drewN HW.out _⟩
      · have fj : decide ((j : Int) < (xs.length : Int)) = false := decide_eq_false (by omega)
        have HF := Lib.hid (show decide (xs = ys) = true from decide_eq_true (by
          have := HT.out
          rw [List.take_of_length_le (by omega), List.take_of_length_le (by have := HL.out; omega)] at this
          exact this))
        go_wp2_with fail
        go_ret
        exact ⟨by rw [HF.out]; rfl, HW.out⟩
  · have f0 : (((xs.length : Nat) : Int) != ((ys.length : Nat) : Int)) = true := by rw [bne_iff_ne]; omega
    have HF := Lib.hid (show decide (xs = ys) = false from decide_eq_false (fun h => hl (by rw [h])))
    clear hl
    go_enter Tryd.func34, Tryd.ntmps34
    go_wp2_with fail
    go_ret
    exact ⟨by rw [HF.out]; rfl, Below.refl _ _⟩
end W
end Go.Proofs.YtpfponiidppldaaDoor
end
section
namespace Go.Proofs.YtpfponiidppldaaDoor
open Go.RowKit
namespace W
open Go.Sort (grow)

theorem gext {g h : P.G} (h1 : g.owner = h.owner) (h2 : g.prio = h.prio) (h3 : g.moves = h.moves) : g = h := by cases g; cases h; simp_all
set_option maxRecDepth 100000 in
set_option maxHeartbeats 1000000 in
theorem samegame_any (g h : P.G) (va vb : Value) (w : World) (ha : GameV w va g) (hb : GameV w vb h) :
    Calls Tryd.prog 17 #[va, vb] w fun e w' => e = .returned (.bool (decide (g = h))) ∧ Below w.heap.size w w' := by
  obtain ⟨a, b, c, rfl, ha1, ha2, ⟨co, cc, rfl, hzc, ha3⟩⟩ := ha
  obtain ⟨a', b', c', rfl, hb1, hb2, ⟨co', cc', rfl, hzc', hb3⟩⟩ := hb
  have HA1 := Lib.hid ha1
  have HA2 := Lib.hid ha2
  have HA3 := Lib.hid ha3
  have HB1 := Lib.hid hb1
  have HB2 := Lib.hid hb2
  have HB3 := Lib.hid hb3
  clear ha1 ha2 ha3 hb1 hb2 hb3
  go_enter Tryd.func17, Tryd.ntmps17
  go_wp2_with fail
  generalize hW : (w.alloc (.cells #[a, b, .slice co g.moves.length cc] 25)).alloc (.cells #[a', b', .slice co' h.moves.length cc'] 25) = w0
  have hb0 : Below w.heap.size w w0 := by rw [← hW]; exact ((Below.refl _ _).alloc (Nat.le_refl _) _).alloc (by simp) _
  have l0 : w.heap.size < w0.heap.size := by rw [← hW]; simp; omega
  have l1 : w.heap.size + 1 < w0.heap.size := by rw [← hW]; simp
  have r0 := heap_alloc2_old w (.cells #[a, b, .slice co g.moves.length cc] 25) (.cells #[a', b', .slice co' h.moves.length cc'] 25)
  have r1 := heap_alloc2_new w (.cells #[a, b, .slice co g.moves.length cc] 25) (.cells #[a', b', .slice co' h.moves.length cc'] 25)
  rw [hW] at r0 r1
  have pa0 : w0.cell? ⟨w.heap.size, 0, none⟩ = some a := by rw [cell_of_row w0 _ 0 _ _ _ r0]; rfl
  have pb0 : w0.cell? ⟨w.heap.size, 1, none⟩ = some b := by rw [cell_of_row w0 _ 1 _ _ _ r0]; rfl
  have pc0 : w0.cell? ⟨w.heap.size, 2, none⟩ = some (.slice co g.moves.length cc) := by rw [cell_of_row w0 _ 2 _ _ _ r0]; rfl
  have qa0 : w0.cell? ⟨w.heap.size + 1, 0, none⟩ = some a' := by rw [cell_of_row w0 _ 0 _ _ _ r1]; rfl
  have qb0 : w0.cell? ⟨w.heap.size + 1, 1, none⟩ = some b' := by rw [cell_of_row w0 _ 1 _ _ _ r1]; rfl
  have qc0 : w0.cell? ⟨w.heap.size + 1, 2, none⟩ = some (.slice co' h.moves.length cc') := by rw [cell_of_row w0 _ 2 _ _ _ r1]; rfl
  have HB0 := Lib.hid hb0
  clear hW r0 r1 hb0
  refine (sameints_any _ _ g.owner h.owner _ (HA1.out.on HB0.out) (HB1.out.on HB0.out)).mono ?_
  rintro e w1 ⟨rfl, hbb1⟩
  have pa1 : w1.cell? ⟨w.heap.size, 0, none⟩ = some a := (hbb1.cell (p := ⟨w.heap.size, 0, none⟩) l0).trans pa0
  have pb1 : w1.cell? ⟨w.heap.size, 1, none⟩ = some b := (hbb1.cell (p := ⟨w.heap.size, 1, none⟩) l0).trans pb0
  have pc1 : w1.cell? ⟨w.heap.size, 2, none⟩ = some (.slice co g.moves.length cc) := (hbb1.cell (p := ⟨w.heap.size, 2, none⟩) l0).trans pc0
  have qa1 : w1.cell? ⟨w.heap.size + 1, 0, none⟩ = some a' := (hbb1.cell (p := ⟨w.heap.size + 1, 0, none⟩) l1).trans qa0
  have qb1 : w1.cell? ⟨w.heap.size + 1, 1, none⟩ = some b' := (hbb1.cell (p := ⟨w.heap.size + 1, 1, none⟩) l1).trans qb0
  have qc1 : w1.cell? ⟨w.heap.size + 1, 2, none⟩ = some (.slice co' h.moves.length cc') := (hbb1.cell (p := ⟨w.heap.size + 1, 2, none⟩) l1).trans qc0
  have HC1 := Lib.hid hbb1
  clear hbb1 pa0 pb0 pc0 qa0 qb0 qc0
  obtain ⟨q1, hq1⟩ : ∃ q, decide (g.owner = h.owner) = q := ⟨_, rfl⟩
  rw [hq1]
  have HQ1 := Lib.hid hq1
  clear hq1
  go_wp2_with fail
  refine (sameints_any _ _ g.prio h.prio _ ((HA2.out.on HB0.out).on HC1.out) ((HB2.out.on HB0.out).on HC1.out)).mono ?_
  rintro e w2 ⟨rfl, hbb2⟩
  have HC2 := Lib.hid (HC1.out.trans (hbb2.mono HC1.out.size))
  have l0' := Nat.lt_of_lt_of_le l0 HC1.out.size
  have l1' := Nat.lt_of_lt_of_le l1 HC1.out.size
  have pa2 : w2.cell? ⟨w.heap.size, 0, none⟩ = some a := (hbb2.cell (p := ⟨w.heap.size, 0, none⟩) l0').trans pa1
  have pb2 : w2.cell? ⟨w.heap.size, 1, none⟩ = some b := (hbb2.cell (p := ⟨w.heap.size, 1, none⟩) l0').trans pb1
  have pc2 : w2.cell? ⟨w.heap.size, 2, none⟩ = some (.slice co g.moves.length cc) := (hbb2.cell (p := ⟨w.heap.size, 2, none⟩) l0').trans pc1
  have qa2 : w2.cell? ⟨w.heap.size + 1, 0, none⟩ = some a' := (hbb2.cell (p := ⟨w.heap.size + 1, 0, none⟩) l1').trans qa1
  have qb2 : w2.cell? ⟨w.heap.size + 1, 1, none⟩ = some b' := (hbb2.cell (p := ⟨w.heap.size + 1, 1, none⟩) l1').trans qb1
  have qc2 : w2.cell? ⟨w.heap.size + 1, 2, none⟩ = some (.slice co' h.moves.length cc') := (hbb2.cell (p := ⟨w.heap.size + 1, 2, none⟩) l1').trans qc1
  clear hbb2 pa1 pb1 pc1 qa1 qb1 qc1 l0' l1'
  obtain ⟨q2, hq2⟩ : ∃ q, decide (g.prio = h.prio) = q := ⟨_, rfl⟩
  rw [hq2]
  have HQ2 := Lib.hid hq2
  clear hq2
  have HD := Lib.hid (HB0.out.trans (HC2.out.mono HB0.out.size))
  cases q1 with
  | false =>
    have HF := Lib.hid (show decide (g = h) = false from decide_eq_false (fun e => of_decide_eq_false HQ1.out (by rw [e])))
    go_wp2_with fail
    go_ret
    exact ⟨by rw [HF.out]; rfl, HD.out⟩
  | true =>
  cases q2 with
  | false =>
    have HF := Lib.hid (show decide (g = h) = false from decide_eq_false (fun e => of_decide_eq_false HQ2.out (by rw [e])))
    go_wp2_with fail
    go_ret
    exact ⟨by rw [HF.out]; rfl, HD.out⟩
  | true =>
  by_cases hml : g.moves.length = h.moves.length
  · have f0 : (((g.moves.length : Nat) : Int) != ((h.moves.length : Nat) : Int)) = false := by rw [bne_eq_false_iff_eq]; omega
    have HML := Lib.hid hml
    clear hml
    have s0 := Nat.lt_of_lt_of_le l0 HC2.out.size
    have s1 := Nat.lt_of_lt_of_le l1 HC2.out.size
    have HP := Lib.hid pc2
    have HQ := Lib.hid qc2
    go_wp2_with fail
    go_loopw [7] (fun i wr => ∃ j : Nat, j ≤ g.moves.length ∧ i = .int .i64 j ∧ g.moves.take j = h.moves.take j ∧ Below w2.heap.size w2 wr) (fun i _ => g.moves.length - (intOf i).toNat)
    case atStart => exact ⟨0, Nat.zero_le _, rfl, rfl, Below.refl _ _⟩
    case round =>
      obtain ⟨j, hj, rfl, ht, hbw⟩ := hrel
      have HT := Lib.hid ht
      have HW := Lib.hid hbw
      clear ht hbw pa2 pb2 pc2 qa2 qb2 qc2
      have hj0 : (0 : Int) ≤ (j : Int) := Int.natCast_nonneg _
      have c0 : wr.cell? ⟨w.heap.size, 2, none⟩ = some (.slice co g.moves.length cc) := (HW.out.cell (p := ⟨w.heap.size, 2, none⟩) s0).trans HP.out
      have c1 : wr.cell? ⟨w.heap.size + 1, 2, none⟩ = some (.slice co' h.moves.length cc') := (HW.out.cell (p := ⟨w.heap.size + 1, 2, none⟩) s1).trans HQ.out
      by_cases hlt : j < g.moves.length
      · have fj : decide ((j : Int) < (g.moves.length : Int)) = true := decide_eq_true (by omega)
        have hjh : j < h.moves.length := by rw [← HML.out]; exact hlt
        obtain ⟨bc, oc, rfl, lc, kc⟩ := HA3.out.resolve_left (fun e => by rw [e] at hlt; exact absurd hlt (Nat.not_lt_zero j))
        obtain ⟨bd, od, rfl, ld, kd⟩ := HB3.out.resolve_left (fun e => by rw [e] at hjh; exact absurd hjh (Nat.not_lt_zero j))
        obtain ⟨l, hl⟩ : ∃ l, g.moves.getD j [] = l := ⟨_, rfl⟩
        obtain ⟨m, hm⟩ : ∃ m, h.moves.getD j [] = m := ⟨_, rfl⟩
        obtain ⟨x, cx, hx⟩ := kc j hlt
        obtain ⟨y, cy, hy⟩ := kd j hjh
        rw [hl] at hx
        rw [hm] at hy
        have hlg : g.moves[j]? = some l := by rw [List.getElem?_eq_getElem hlt, ← hl, List.getD_eq_getElem?_getD, List.getElem?_eq_getElem hlt]; rfl
        have hmg : h.moves[j]? = some m := by rw [List.getElem?_eq_getElem hjh, ← hm, List.getD_eq_getElem?_getD, List.getElem?_eq_getElem hjh]; rfl
        have hall := HD.out.trans (HW.out.mono HD.out.size)
        have k0 := fun d os => cell_regrown c0 d os
        have k1 := fun d os => cell_regrown c1 d os
        have k2 : ∀ d os, (grow (redrawn wr d) os).cell? ⟨bc, oc + j, none⟩ = some x := fun d os => cell_regrown ((hall.cell (p := ⟨bc, oc + j, none⟩) lc).trans cx) d os
        have k3 : ∀ d os, (grow (redrawn wr d) os).cell? ⟨bd, od + j, none⟩ = some y := fun d os => cell_regrown ((hall.cell (p := ⟨bd, od + j, none⟩) ld).trans cy) d os
        have kC : ∀ d os, Calls Tryd.prog 34 #[x, y] (grow (redrawn wr d) os) fun e w'' => e = .returned (.bool (decide (l = m))) ∧ ∃ p : Regrown, w'' = grow (redrawn wr p.d) p.os := fun d os => Calls.regrown_of (sameints_any x y l m _ ((hx.on hall).on (below_regrown wr d os)) ((hy.on hall).on (below_regrown wr d os)))
        have i1 : (j : Int) < (g.moves.length : Int) := by omega
        have i2 : (j : Int) < (h.moves.length : Int) := by omega
        have HLG := Lib.hid hlg
        have HMG := Lib.hid hmg
        obtain ⟨q, hq⟩ : ∃ q, decide (l = m) = q := ⟨_, rfl⟩
        rw [hq] at kC
        have HQQ := Lib.hid hq
        clear hq hlg hmg hl hm hx hy cx cy kc kd hall
        go_wp2_with fail
        clear c0 c1
        refine wp_region_quiet_below (by kernel_rfl) (by kernel_rfl) ?_
        repeat (first | go_big_quiet_step (first | (go_at_call 34; exact kC _ _)) | quiet_step (first | (go_at_call 34; exact kC _ _)))
        refine wpQuiet_nil ?_
        intro _ hw'
        obtain ⟨⟨dq, osq⟩, hw''⟩ := hw'
        subst hw''
        have HR := Lib.hid (below_regrown wr dq osq)
        clear k0 k1 k2 k3 kC
        cases q with
        | true =>
          have HF := Lib.hid (show g.moves.take (j + 1) = h.moves.take (j + 1) by rw [List.take_add_one, List.take_add_one, HT.out, HLG.out, HMG.out, of_decide_eq_true HQQ.out])
          go_wp2_with fail
          go_roundw
          case rel => exact ⟨j + 1, by omega, by go_num, HF.out, HW.out.trans (HR.out.mono HW.out.size)⟩
          case measure => simp [intOf]; omega
        | false =>
          have HF := Lib.hid (show decide (g = h) = false from decide_eq_false (fun e => of_decide_eq_false HQQ.out (by have := HLG.out; rw [e, HMG.out] at this; exact (Option.some.inj this).symm)))
          go_wp2_with fail
          go_ret
          exact ⟨by rw [HF.out]; rfl, HD.out.trans ((HW.out.trans (HR.out.mono HW.out.size)).mono HD.out.size)⟩
      · have fj : decide ((j : Int) < (g.moves.length : Int)) = false := decide_eq_false (by omega)
        have HF := Lib.hid (show decide (g = h) = true from decide_eq_true (gext (of_decide_eq_true HQ1.out) (of_decide_eq_true HQ2.out) (by
          have := HT.out
          rw [List.take_of_length_le (by omega), List.take_of_length_le (by have := HML.out; omega)] at this
          exact this)))
        go_wp2_with fail
        go_ret
        exact ⟨by rw [HF.out]; rfl, HD.out.trans (HW.out.mono HD.out.size)⟩
  · have f0 : (((g.moves.length : Nat) : Int) != ((h.moves.length : Nat) : Int)) = true := by rw [bne_iff_ne]; omega
    have HF := Lib.hid (show decide (g = h) = false from decide_eq_false (fun e => hml (by rw [e])))
    clear hml
    go_wp2_with fail
    go_ret
    exact ⟨by rw [HF.out]; rfl, HD.out⟩
end W
end Go.Proofs.YtpfponiidppldaaDoor
end
section
namespace Go.Proofs.YtpfponiidppldaaDoor
open Go.RowKit
namespace W
theorem set_neq (s t : BitVec 256) (w : World) : (binOp .neq 28 (.agg #[.int .u64 (P.wrd s 0), .int .u64 (P.wrd s 1), .int .u64 (P.wrd s 2), .int .u64 (P.wrd s 3)]) (.agg #[.int .u64 (P.wrd t 0), .int .u64 (P.wrd t 1), .int .u64 (P.wrd t 2), .int .u64 (P.wrd t 3)])).run Tryd.prog w = .ok (.bool (!decide (s = t))) w := by
  have h := set_eq s t w
  rw [run_eql_struct] at h
  rw [run_neq_struct]
  cases he : (Op.equalIn 10000 28 (.agg #[.int .u64 (P.wrd s 0), .int .u64 (P.wrd s 1), .int .u64 (P.wrd s 2), .int .u64 (P.wrd s 3)]) (.agg #[.int .u64 (P.wrd t 0), .int .u64 (P.wrd t 1), .int .u64 (P.wrd t 2), .int .u64 (P.wrd t 3)])).run Tryd.prog w with
  | ok b w' =>
    rw [he] at h
    simp only [Result.andThen_ok, Result.ok.injEq, Value.bool.injEq] at h ⊢
    rw [h.1, h.2]
    exact ⟨rfl, rfl⟩
  | _ => rw [he] at h; simp [Result.andThen] at h
theorem right_zero {g : P.G} (h : g.Right) : g.right = (0, 0) := by
  have key : ∀ (f i : Nat), (∀ j, i ≤ j → j < i + f → g.check j = 0) → g.first f i = (0, 0) := by
    intro f
    induction f with
    | zero => intro i _; rfl
    | succ f ih =>
      intro i hc
      rw [P.G.first_ok (hc i (Nat.le_refl _) (by omega))]
      exact ih (i + 1) fun j h1 h2 => hc j (by omega) (by omega)
  unfold P.G.right
  rw [if_neg (by have := h.prio; have := h.moves; omega), if_neg (by have := h.pos; have := h.many; omega)]
  exact key _ 0 fun j _ hj => h.each j (by omega)
theorem wrd_none (j : Nat) (hj : j < 4) : P.wrd 0#256 j = 0 := by
  match j, hj with
  | 0, _ | 1, _ | 2, _ | 3, _ => decide +kernel
end W
end Go.Proofs.YtpfponiidppldaaDoor
end
section
namespace Go.Proofs.YtpfponiidppldaaDoor
open Go.RowKit
namespace W

set_option maxRecDepth 100000 in
set_option maxHeartbeats 1000000 in
theorem index_any (v : Value) (zs : List Int) (z : Int) (w : World) (hv : Ints w v zs) : Calls Tryd.prog 41 #[v, .int .i64 z] w fun e w' => e = .returned (.int .i64 (P.indexFrom z zs 0)) ∧ w = w' := by
  obtain ⟨ao, cap, rfl, hz, hc⟩ := hv
  have HC := Lib.hid hc
  clear hc
  obtain ⟨n, hn⟩ : ∃ n, zs.length = n := ⟨_, rfl⟩
  rw [hn] at hz ⊢
  have HN := Lib.hid hn
  clear hn
  go_enter Tryd.func41, Tryd.ntmps41
  go_wp2_with fail
  go_loopw [8] (fun i wr => ∃ j : Nat, j ≤ n ∧ i = .int .i64 j ∧ P.indexFrom z zs 0 = P.indexFrom z (zs.drop j) j ∧ wr = w) (fun i _ => n - (intOf i).toNat)
  case atStart => exact ⟨0, Nat.zero_le _, rfl, rfl, by first | trivial | rfl⟩
  case round =>
    obtain ⟨j, hj, rfl, he, hw⟩ := hrel
    obtain rfl : w = wr := hw.symm
    have HE := Lib.hid he
    clear he hw
    have hj0 : (0 : Int) ≤ (j : Int) := Int.natCast_nonneg _
    by_cases hlt : j < n
    · have fj : decide ((j : Int) < (n : Int)) = true := decide_eq_true (by omega)
      have hjl : j < zs.length := by rw [HN.out]; exact hlt
      obtain ⟨b, off, rfl, hb, hcell⟩ := HC.out.resolve_left (fun e => by rw [e] at hjl; exact absurd hjl (Nat.not_lt_zero j))
      have hcj := hcell j hjl
      have hd : zs.drop j = zs.getD j 0 :: zs.drop (j + 1) := by
        rw [List.drop_eq_getElem_cons hjl]
        congr 1
        rw [List.getD_eq_getElem?_getD, List.getElem?_eq_getElem hjl]
        rfl
      generalize zs.getD j 0 = x at hcj hd
      have HD := Lib.hid hd
      clear hd hjl hcell
      by_cases e : x = z
      · have g : (z == x) = true := by rw [beq_iff_eq]; exact e.symm
        have HF := Lib.hid (show P.indexFrom z zs 0 = (j : Int) by rw [HE.out, HD.out, P.indexFrom, if_pos e])
        clear e
        go_wp2_with fail
        go_ret
        exact ⟨by rw [HF.out]; rfl, rfl⟩
      · have g : (z == x) = false := by rw [beq_eq_false_iff_ne]; exact Ne.symm e
        have HF := Lib.hid (show P.indexFrom z zs 0 = P.indexFrom z (zs.drop (j + 1)) (j + 1) by rw [HE.out, HD.out, P.indexFrom, if_neg e])
        clear e
        go_wp2_with fail
        go_roundw
        case rel => exact ⟨j + 1, by omega, by go_num, HF.out, by first | trivial | rfl⟩
        case measure => simp [intOf]; omega
    · have fj : decide ((j : Int) < (n : Int)) = false := decide_eq_false (by omega)
      have HF := Lib.hid (show P.indexFrom z zs 0 = -1 by rw [HE.out, List.drop_eq_nil_of_le (by rw [HN.out]; omega)]; rfl)
      go_wp2_with fail
      go_ret
      exact ⟨by rw [HF.out]; rfl, rfl⟩

set_option maxRecDepth 100000 in
set_option maxHeartbeats 1000000 in
theorem contains_any (v : Value) (zs : List Int) (z : Int) (w : World) (hv : Ints w v zs) : Calls Tryd.prog 37 #[v, .int .i64 z] w fun e w' => e = .returned (.bool (decide (z ∈ zs))) ∧ w = w' := by
  have HF := Lib.hid (P.indexFrom_mem z zs 0)
  go_enter Tryd.func37, Tryd.ntmps37
  go_wp2_with fail
  refine (index_any v zs z _ hv).mono ?_
  rintro e w' ⟨rfl, rfl⟩
  go_wp2_with fail
  go_ret
  exact ⟨by rw [← HF.out]; rfl, rfl⟩
set_option maxRecDepth 100000 in
set_option maxHeartbeats 1000000 in
theorem is_any (g : P.G) (v : Value) (w : World) (hv : GameV w v g) : Calls Tryd.prog 10 #[v] w fun e w' => e = .returned (.bool g.ok) ∧ Below w.heap.size w w' := by
  have HV := Lib.hid hv
  obtain ⟨a, b, c, rfl, ⟨ao, ca, rfl, hza, ha⟩, ⟨bo, cb, rfl, hzb, hb⟩, ⟨co, cc, rfl, hzc, hc⟩⟩ := hv
  clear ha hb hc hza hzb hzc
  go_enter Tryd.func10, Tryd.ntmps10
  go_wp2_with fail
  refine (rright_any g _ _ (HV.out.on ((Below.refl _ w).alloc (Nat.le_refl _) _))).mono ?_
  rintro e w' ⟨rfl, hb⟩
  have HB := Lib.hid hb
  clear hb
  by_cases h0 : g.right.2 = 0
  · have g1 : (((g.right.2 : Nat) : Int) == 0) = true := by rw [beq_iff_eq]; omega
    have HF := Lib.hid (show g.ok = true by unfold P.G.ok; rw [beq_iff_eq]; exact h0)
    clear h0
    go_wp2_with fail
    go_ret
    exact ⟨by rw [HF.out]; rfl, ((Below.refl _ w).alloc (Nat.le_refl _) _).trans (HB.out.mono (by simp))⟩
  · have g1 : (((g.right.2 : Nat) : Int) == 0) = false := by rw [beq_eq_false_iff_ne]; omega
    have HF := Lib.hid (show g.ok = false by unfold P.G.ok; rw [beq_eq_false_iff_ne]; exact h0)
    clear h0
    go_wp2_with fail
    go_ret
    exact ⟨by rw [HF.out]; rfl, ((Below.refl _ w).alloc (Nat.le_refl _) _).trans (HB.out.mono (by simp))⟩
end W
end Go.Proofs.YtpfponiidppldaaDoor
end
section
namespace Go.Proofs.YtpfponiidppldaaDoor
open Go.RowKit Go.Sort
namespace W

/-- Is a position closed: would it be done? -/
def closedB (g : P.G) (I : BitVec 256) (p : Int) (vf : Nat → Int) (d : Nat → Bool) (i : Nat) (m : Int) : Bool := !(P.has I m && (!decide (g.owner.getD i 0 = p) || decide (m = vf i))) || d m.toNat
theorem closed_iff {g : P.G} (hr : g.Right) (I : BitVec 256) (p : Int) (vf : Nat → Int) (d : Nat → Bool) (i : Nat) (hi : i < g.owner.length) : (g.moves.getD i []).all (closedB g I p vf d i) = true ↔ ∀ m : Nat, (m : Int) ∈ g.moves.getD i [] → I.getLsbD m = true → (g.owner.getD i 0 ≠ p ∨ (m : Int) = vf i) → d m = true := by
  rw [List.all_eq_true]
  have hrise := (hr.at i hi).2.2.2.2
  constructor
  · intro h m hm h1 h2
    have := h (m : Int) hm
    unfold closedB at this
    rw [P.nat_has, h1, Int.toNat_natCast] at this
    have h3 : (!decide (g.owner.getD i 0 = p) || decide ((m : Int) = vf i)) = true := by
      rcases h2 with h2 | h2
      · rw [decide_eq_false h2]; rfl
      · rw [decide_eq_true h2]; simp
    rw [h3] at this
    simpa using this
  · intro h m hm
    have hb := P.rise_bounds hrise m hm
    obtain ⟨k, rfl⟩ := Int.eq_ofNat_of_zero_le (show 0 ≤ m by omega)
    unfold closedB
    rw [P.nat_has, Int.toNat_natCast]
    cases h1 : I.getLsbD k
    · rfl
    · by_cases h2 : g.owner.getD i 0 = p
      · by_cases h3 : (k : Int) = vf i
        · rw [h k hm h1 (.inr h3)]; simp
        · rw [decide_eq_true h2, decide_eq_false h3]; rfl
      · rw [h k hm h1 (.inl h2)]; simp
structure RelF3 (w3 : World) (g : P.G) (I : BitVec 256) (p : Int) (To A : BitVec 256) (vf : Nat → Int) (lo n pd : Nat) (mv : Value) (wr : World) (d : Nat → Bool) (m : Bool) : Prop where
  own : OwnB wr lo (.slice (some ⟨pd, 0, none⟩) n n) n d
  more : mv = .bool m
  base : ∀ i, i < n → A.getLsbD i = false ∨ To.getLsbD i = true → d i = true
  rest : m = false → ∀ i, i < n → (g.moves.getD i []).all (closedB g I p vf d i) = true → d i = true
  below : Below pd w3 wr
theorem count_put {n : Nat} {d : Nat → Bool} {i : Nat} (hi : i < n) (h : d i = false) : ((List.range n).filter d).length < ((List.range n).filter (fun y => if y = i then true else d y)).length := by
  obtain ⟨h2, h3⟩ := P.filter_lt d (fun y => if y = i then true else d y) (List.range n) fun x _ hx => by
    by_cases e : x = i
    · rw [if_pos e]
    · rw [if_neg e]; exact hx
  rcases Nat.lt_or_eq_of_le h2 with h4 | h4
  · exact h4
  · have := h3 h4 i (List.mem_range.2 hi) (by rw [if_pos rfl])
    rw [h] at this
    cases this
theorem count_congr {n : Nat} {d e : Nat → Bool} (h : ∀ y, y < n → d y = e y) : ((List.range n).filter d).length = ((List.range n).filter e).length := by
  congr 1
  apply List.filter_congr
  intro y hy
  exact h y (List.mem_range.1 hy)
theorem all_take_succ {l : List Int} {k : Nat} {m : Int} {q : Int → Bool} (h : l.take (k + 1) = l.take k ++ [m]) : (l.take (k + 1)).all q = ((l.take k).all q && q m) := by rw [h, List.all_append]; simp
theorem mem_take_succ {l : List Int} {k : Nat} {m z : Int} (h : l.take (k + 1) = l.take k ++ [m]) : decide (z ∈ l.take (k + 1)) = (decide (z ∈ l.take k) || decide (m = z)) := by
  rw [h, Bool.eq_iff_iff, Bool.or_eq_true, decide_eq_true_eq, decide_eq_true_eq, decide_eq_true_eq, List.mem_append, List.mem_singleton]
  constructor
  · rintro (h | h)
    · exact .inl h
    · exact .inr h.symm
  · rintro (h | h)
    · exact .inl h
    · exact .inr h.symm

set_option maxRecDepth 100000 in
set_option maxHeartbeats 8000000 in
theorem forces_any (g : P.G) (hr : g.Right) (I To A : BitVec 256) (p : Int) (Q : List Nat) (ou vf : Nat → Int) (hrd : P.Round g I p To A Q ou vf Q.length 0) (v vi vt va vm : Value) (w : World) (hv : GameV w v g) (hI : Bl w vi g.owner.length (fun i => I.getLsbD i)) (hT : Bl w vt g.owner.length (fun i => To.getLsbD i)) (hA : Bl w va g.owner.length (fun i => A.getLsbD i)) (hM : Ints w vm (P.rowOf g.owner.length vf)) :
    Calls Tryd.prog 15 #[v, vi, .int .i64 p, vt, va, vm] w fun e w' => e = .returned (.bool true) ∧ Below w.heap.size w w' := by
  have HV := Lib.hid hv
  have HRD := Lib.hid hrd
  have hop := hr.prio
  have hmp := hr.moves
  have hmany := hr.many
  have h0 := hr.pos
  obtain ⟨n, hn⟩ : ∃ n, g.owner.length = n := ⟨_, rfl⟩
  rw [hn] at hop hmp hmany h0 hI hT hA hM
  obtain ⟨ba, oa, ka, bb, ob, kb, bc, oc, kc, rfl, hca, -, hcc⟩ := hv.open_ hn hop hmp h0
  have HCA := Lib.hid hca
  have HCC := Lib.hid hcc
  have HR := Lib.hid hr
  have HN := Lib.hid hn
  clear hca hcc hr hn hop hmp hv
  obtain ⟨bi, ki, rfl, hbi, hci⟩ := hI
  obtain ⟨bt, kt, rfl, hbt, hct⟩ := hT
  obtain ⟨bA, kA, rfl, hbA, hcA⟩ := hA
  obtain ⟨vo, kv, rfl, -, hmc⟩ := hM
  rw [P.rowOf_len] at hmc ⊢
  obtain ⟨bv, ov, rfl, hbv, hcv⟩ := hmc.resolve_left (fun e => by have := congrArg List.length e; rw [P.rowOf_len] at this; simp at this; omega)
  have CI := Lib.hid hci
  have CT := Lib.hid hct
  have CA := Lib.hid hcA
  have CV_ := Lib.hid (show ∀ j, j < n → w.cell? ⟨bv, ov + j, none⟩ = some (.int .i64 (vf j)) from fun j hj => by
    rw [hcv j hj, List.getD_eq_getElem?_getD, P.rowOf_at vf hj]
    rfl)
  have LBI := Lib.hid hbi
  have LBT := Lib.hid hbt
  have LBA := Lib.hid hbA
  have LBV := Lib.hid hbv
  clear hbi hbt hci hct hbA hcA hbv hcv hmc hrd
  have fn : ((n : Int) != (n : Int)) = false := by rw [bne_eq_false_iff_eq]
  go_enter Tryd.func15, Tryd.ntmps15
  go_upto_region 1 with (fail)
  have bx0 : Box (w.alloc (.cells #[.slice (some ⟨ba, oa, none⟩) n ka, .slice (some ⟨bb, ob, none⟩) n kb, .slice (some ⟨bc, oc, none⟩) n kc] 25)) (w.heap.size) 25 #[.slice (some ⟨ba, oa, none⟩) n ka, .slice (some ⟨bb, ob, none⟩) n kb, .slice (some ⟨bc, oc, none⟩) n kc] := Box.new w 25 #[.slice (some ⟨ba, oa, none⟩) n ka, .slice (some ⟨bb, ob, none⟩) n kb, .slice (some ⟨bc, oc, none⟩) n kc]
  have hbq : Below w.heap.size w (w.alloc (.cells #[.slice (some ⟨ba, oa, none⟩) n ka, .slice (some ⟨bb, ob, none⟩) n kb, .slice (some ⟨bc, oc, none⟩) n kc] 25)) := (Below.refl _ w).alloc (Nat.le_refl _) _
  have hle0 : w.heap.size ≤ w.heap.size := Nat.le_refl _
  generalize (w.alloc (.cells #[.slice (some ⟨ba, oa, none⟩) n ka, .slice (some ⟨bb, ob, none⟩) n kb, .slice (some ⟨bc, oc, none⟩) n kc] 25)) = w0 at bx0 hbq  ⊢
  have BQg := Lib.hid bx0
  have W := Lib.hid hbq
  have LEg := Lib.hid hle0
  clear hbq hle0 bx0 
  obtain ⟨qg, hqg⟩ : ∃ qg, w.heap.size = qg := ⟨_, rfl⟩
  rw [hqg] at BQg ⊢
  have LEg : Hid (w.heap.size ≤ qg) := Lib.hid (by omega)
  clear hqg
  have HQG := Lib.hid BQg.out.lt
  have hbb := BQg.out
  have gc0 : w0.cell? ⟨qg, 0, none⟩ = some (.slice (some ⟨ba, oa, none⟩) n ka) := hbb.cell 0 _ rfl
  have gc1 : w0.cell? ⟨qg, 1, none⟩ = some (.slice (some ⟨bb, ob, none⟩) n kb) := hbb.cell 1 _ rfl
  have gc2 : w0.cell? ⟨qg, 2, none⟩ = some (.slice (some ⟨bc, oc, none⟩) n kc) := hbb.cell 2 _ rfl
  clear hbb
  go_wp2_with (refine wpl_make elBool rfl (.tmp 32) (.tmp 32) rfl n rfl rfl (by omega) (by omega) ?_; intro w3 hown1 hg1 hs1)
  obtain ⟨pd, hpd⟩ : ∃ pd, w0.heap.size = pd := ⟨_, rfl⟩
  obtain ⟨lo, hlo⟩ : ∃ lo, w0.heap.size = lo := ⟨_, rfl⟩
  have hown2 := OwnB.made hown1
  have hlo2 : OwnB w3 lo (.slice (some ⟨pd, 0, none⟩) n n) n (fun _ => false) := by rw [← hlo, ← hpd]; exact hown2
  rw [hpd] at HQG ⊢
  have HD00 := Lib.hid hlo2
  have LPD : Hid (w.heap.size ≤ pd ∧ pd < w3.heap.size) := Lib.hid ⟨by have := W.out.size; omega, by omega⟩
  have BQ3 := Lib.hid (show ∀ wv : World, Below pd w3 wv → Box wv qg 25 #[.slice (some ⟨ba, oa, none⟩) n ka, .slice (some ⟨bb, ob, none⟩) n kb, .slice (some ⟨bc, oc, none⟩) n kc] from fun wv h => by
    have h1 := BQg.out.keep hg1
    unfold Box at h1 ⊢
    rw [h.block _ HQG.out]
    exact h1)
  have W3 := Lib.hid (W.out.trans ((below_of_grown hg1).mono W.out.size))
  clear hown1 hown2 hlo2 hg1 hs1 gc0 gc1 gc2 hpd hlo BQg W fn
  go_wp2_with fail
  go_loopw [15] (fun iv wr => ∃ i : Nat, i ≤ n ∧ iv = .int .i64 (i : Int) ∧ OwnB wr lo (.slice (some ⟨pd, 0, none⟩) n n) n (fun y => decide (y < i) && (!A.getLsbD y || To.getLsbD y)) ∧ Below pd w3 wr) (fun iv _ => n - (intOf iv).toNat)
  case atStart => exact ⟨0, Nat.zero_le _, rfl, HD00.out.congr (fun y _ => by simp), Below.refl _ _⟩
  case round =>
    obtain ⟨i, hi, rfl, ho, hb⟩ := hrel
    have HO := Lib.hid ho
    have HB := Lib.hid hb
    clear ho hb
    have hi0 : (0 : Int) ≤ (i : Int) := Int.natCast_nonneg _
    have HBW := Lib.hid (W3.out.trans (HB.out.mono (by have h1 := LPD.out; omega)))
    by_cases hlt : i < n
    · have fi : decide ((i : Int) < (n : Int)) = true := decide_eq_true (by omega)
      have hii : (i : Int) < (n : Int) := by omega
      obtain ⟨cd, fd⟩ := HO.out.cell hlt
      have cA := (HBW.out.cell (p := ⟨bA, i, none⟩) LBA.out).trans (CA.out i hlt)
      have cT := (HBW.out.cell (p := ⟨bt, i, none⟩) LBT.out).trans (CT.out i hlt)
      have hco := HCA.out w (Below.refl _ _) i hlt
      have co := (HBW.out.cell (p := ⟨ba, oa + i, none⟩) (cell_lt hco)).trans hco
      have hbb := BQ3.out wr HB.out
      have gc0 : wr.cell? ⟨qg, 0, none⟩ = some (.slice (some ⟨ba, oa, none⟩) n ka) := hbb.cell 0 _ rfl
      have gc1 : wr.cell? ⟨qg, 1, none⟩ = some (.slice (some ⟨bb, ob, none⟩) n kb) := hbb.cell 1 _ rfl
      have gc2 : wr.cell? ⟨qg, 2, none⟩ = some (.slice (some ⟨bc, oc, none⟩) n kc) := hbb.cell 2 _ rfl
      clear hbb hco
      cases hbA : A.getLsbD i
      · rw [hbA] at cA
        have HNO := Lib.hid (show vf i = -1 from HRD.out.nones i (.inl fun h => by rw [(HRD.out.bits i).2 h] at hbA; cases hbA))
        obtain ⟨bT, hbT⟩ : ∃ b, To.getLsbD i = b := ⟨_, rfl⟩
        rw [hbT] at cT
        have HO2 := Lib.hid (show OwnB (wr.setCell ⟨pd, i, none⟩ (.bool true)) lo (.slice (some ⟨pd, 0, none⟩) n n) n (fun y => decide (y < i + 1) && (!A.getLsbD y || To.getLsbD y)) from (HO.out.put i true).congr fun y _ => by
          by_cases e : y = i
          · subst e; rw [if_pos rfl, decide_eq_true (by omega), Bool.true_and, hbA]; rfl
          · rw [if_neg e]
            congr 1
            rw [Bool.eq_iff_iff, decide_eq_true_eq, decide_eq_true_eq]
            omega)
        have HB2 := Lib.hid (HB.out.setCell (p := ⟨pd, i, none⟩) (Nat.le_refl pd) (.bool true))
        clear hbA hbT
        go_upto_region 10 with (fail)
        clear cd fd
        generalize (wr.setCell ⟨pd, i, none⟩ (.bool true)) = w5 at HO2 HB2 ⊢
        have HBW5 := Lib.hid (W3.out.trans (HB2.out.mono (by have h1 := LPD.out; omega)))
        have cv := (HBW5.out.cell (p := ⟨bv, ov + i, none⟩) LBV.out).trans (CV_.out i hlt)
        rw [HNO.out] at cv
        go_wp2_with fail
        go_roundw
        case rel => exact ⟨i + 1, by omega, by go_num, HO2.out, HB2.out⟩
        case measure => simp [intOf]; omega
      · rw [hbA] at cA
        cases hbT : To.getLsbD i
        · rw [hbT] at cT
          have HO2 := Lib.hid (show OwnB (wr.setCell ⟨pd, i, none⟩ (.bool false)) lo (.slice (some ⟨pd, 0, none⟩) n n) n (fun y => decide (y < i + 1) && (!A.getLsbD y || To.getLsbD y)) from (HO.out.put i false).congr fun y _ => by
            by_cases e : y = i
            · subst e; rw [if_pos rfl, decide_eq_true (by omega), Bool.true_and, hbA, hbT]; rfl
            · rw [if_neg e]
              congr 1
              rw [Bool.eq_iff_iff, decide_eq_true_eq, decide_eq_true_eq]
              omega)
          have HB2 := Lib.hid (HB.out.setCell (p := ⟨pd, i, none⟩) (Nat.le_refl pd) (.bool false))
          obtain ⟨zo, hzo⟩ : ∃ z, g.owner.getD i 0 = z := ⟨_, rfl⟩
          rw [hzo] at co
          by_cases hzp : zo = p
          · have fz : (zo == p) = true := beq_iff_eq.2 hzp
            have HYES := Lib.hid (show ∃ mq : Nat, vf i = (mq : Int) ∧ A.getLsbD mq = true ∧ I.getLsbD mq = true ∧ (mq : Int) ∈ g.moves.getD i [] ∧ mq < n from by
              obtain ⟨kq, hkq, e⟩ := List.mem_iff_getElem.1 ((HRD.out.bits i).1 hbA)
              obtain ⟨mq, l, h1, h2, h3, h4⟩ := HRD.out.leads kq i (List.getElem?_eq_some_iff.2 ⟨hkq, e⟩) hbT (hzo.trans hzp)
              have h5 := List.mem_of_getElem? h2
              have h6 := (HRD.out.sub mq h5).bound
              exact ⟨mq, h1, (HRD.out.bits mq).2 h5, h6.2, h4, by rw [← HN.out]; exact h6.1⟩)
            clear hbA hbT hzo hzp
            go_upto_region 10 with (fail)
            clear cd fd
            generalize (wr.setCell ⟨pd, i, none⟩ (.bool false)) = w5 at HO2 HB2 ⊢
            have HBW := Lib.hid (W3.out.trans (HB2.out.mono (by have h1 := LPD.out; omega)))
            have cv := (HBW.out.cell (p := ⟨bv, ov + i, none⟩) LBV.out).trans (CV_.out i hlt)
            obtain ⟨mq, hmv, hmA, hmI, hmm, hmq⟩ := HYES.out
            rw [hmv] at cv
            clear co gc0 gc1 gc2
            have hat := HR.out.at i (by rw [HN.out]; exact hlt)
            obtain ⟨xv, hcx, hxv⟩ := HCC.out w (Below.refl _ _) i hlt
            have hco := HCA.out w (Below.refl _ _) i hlt
            obtain ⟨ms, hms⟩ : ∃ ms, g.moves.getD i [] = ms := ⟨_, rfl⟩
            obtain ⟨zo, hzo⟩ : ∃ z, g.owner.getD i 0 = z := ⟨_, rfl⟩
            rw [hms] at hxv hat
            rw [hzo] at hco
            obtain ⟨-, -, -, hne, hrise⟩ := hat
            rw [HN.out] at hrise
            have hlen : ms.length ≤ 200 := P.rise_len hrise hmany
            obtain ⟨mo, mk, rfl, -, hmc⟩ := hxv
            obtain ⟨bm, om, rfl, hbm, hmc⟩ := hmc.resolve_left hne
            have HRISE := Lib.hid hrise
            have HMS := Lib.hid hms
            have HZO := Lib.hid hzo
            have HMC := Lib.hid hmc
            have LBM := Lib.hid hbm
            have cx := (HBW.out.cell (p := ⟨bc, oc + i, none⟩) (cell_lt hcx)).trans hcx
            have co := (HBW.out.cell (p := ⟨ba, oa + i, none⟩) (cell_lt hco)).trans hco
            clear hne hrise hms hzo hmc hcx hco hbm
            have hbb := BQ3.out w5 HB2.out
            have gc0 : w5.cell? ⟨qg, 0, none⟩ = some (.slice (some ⟨ba, oa, none⟩) n ka) := hbb.cell 0 _ rfl
            have gc1 : w5.cell? ⟨qg, 1, none⟩ = some (.slice (some ⟨bb, ob, none⟩) n kb) := hbb.cell 1 _ rfl
            have gc2 : w5.cell? ⟨qg, 2, none⟩ = some (.slice (some ⟨bc, oc, none⟩) n kc) := hbb.cell 2 _ rfl
            clear hbb
            have hmq0 : (0 : Int) ≤ (mq : Int) := Int.natCast_nonneg _
            have hmqi : (mq : Int) < (n : Int) := by omega
            rw [HMS.out] at hmm
            have HMM := Lib.hid hmm
            have cI := (HBW.out.cell (p := ⟨bi, mq, none⟩) LBI.out).trans (CI.out mq hmq)
            have cA := (HBW.out.cell (p := ⟨bA, mq, none⟩) LBA.out).trans (CA.out mq hmq)
            rw [hmI] at cI
            rw [hmA] at cA
            clear hmv hmA hmI hmm
            go_wp2_with fail
            go_loopw [17, 18] (fun ev kv wr => ∃ k : Nat, k ≤ ms.length ∧ ev = .bool (decide ((mq : Int) ∈ ms.take k)) ∧ kv = .int .i64 (k : Int) ∧ Below w5.heap.size w5 wr) (fun _ kv _ => ms.length - (intOf kv).toNat)
            case atStart => exact ⟨0, Nat.zero_le _, by simp, rfl, Below.refl _ _⟩
            case round =>
              obtain ⟨k, hk, rfl, rfl, hbr⟩ := hrel
              have HBR := Lib.hid hbr
              have HBWR := Lib.hid (HBW.out.trans (hbr.mono HBW.out.size))
              clear hbr
              have hk0 : (0 : Int) ≤ (k : Int) := Int.natCast_nonneg _
              have st := fun (b j : Nat) (u : Value) (h : w5.cell? ⟨b, j, none⟩ = some u) => (HBR.out.cell (p := ⟨b, j, none⟩) (cell_lt h)).trans h
              have cx := st _ _ _ cx
              have cv := st _ _ _ cv
              have gc0 := st _ _ _ gc0
              have gc1 := st _ _ _ gc1
              have gc2 := st _ _ _ gc2
              have cI := st _ _ _ cI
              have cA := st _ _ _ cA
              clear st
              obtain ⟨ek, hek⟩ : ∃ e, decide ((mq : Int) ∈ ms.take k) = e := ⟨_, rfl⟩
              rw [hek]
              have HAK := Lib.hid hek
              clear hek
              by_cases hlk : k < ms.length
              · have fk : decide ((k : Int) < (ms.length : Int)) = true := decide_eq_true (by omega)
                have hki : (k : Int) < (ms.length : Int) := by omega
                have hcell := HMC.out k hlk
                have hmb := P.rise_bounds HRISE.out (ms.getD k 0) (by rw [List.getD_eq_getElem?_getD, List.getElem?_eq_getElem hlk]; exact List.getElem_mem hlk)
                have htake : ms.take (k + 1) = ms.take k ++ [ms.getD k 0] := by
                  rw [List.take_succ_eq_append_getElem hlk, List.getD_eq_getElem?_getD, List.getElem?_eq_getElem hlk]
                  rfl
                obtain ⟨mz, hmz⟩ : ∃ mz, ms.getD k 0 = mz := ⟨_, rfl⟩
                rw [hmz] at hcell hmb htake
                obtain ⟨mn, rfl⟩ := Int.eq_ofNat_of_zero_le (show 0 ≤ mz by omega)
                have hmn : mn < n := by omega
                have hmi : (mn : Int) < (n : Int) := by omega
                have hm0 : (0 : Int) ≤ (mn : Int) := Int.natCast_nonneg _
                have HT := Lib.hid htake
                have cm := (HBWR.out.cell (p := ⟨bm, om + k, none⟩) LBM.out).trans hcell
                clear hcell hmb htake hmz
                obtain ⟨wo, rfl⟩ : ∃ wo : World, wo = wr := ⟨_, rfl⟩
                go_upto_region 17 with (fail)
                have xg0 := fun d os => cell_regrown gc0 d os
                have xg1 := fun d os => cell_regrown gc1 d os
                have xg2 := fun d os => cell_regrown gc2 d os
                have xcx := fun d os => cell_regrown cx d os
                have xcv := fun d os => cell_regrown cv d os
                have xcm := fun d os => cell_regrown cm d os
                cases ek
                · by_cases he : (mn : Int) = (mq : Int)
                  · have fe : ((mn : Int) == (mq : Int)) = true := by rw [beq_iff_eq]; exact he
                    have HA2 := Lib.hid (show decide ((mq : Int) ∈ ms.take (k + 1)) = true from by rw [mem_take_succ HT.out, HAK.out, decide_eq_true he]; rfl)
                    clear he
                    refine wp_region_quiet_below (by kernel_rfl) (by kernel_rfl) ?_
                    repeat (first | go_big_quiet_step (fail) | quiet_step (fail))
                    refine wpQuiet_nil ?_
                    intro _ hw'
                    obtain ⟨⟨dq, osq⟩, hw''⟩ := hw'
                    subst hw''
                    clear xg0 xg1 xg2 xcx xcv xcm
                    have HBX := Lib.hid (HBR.out.trans ((below_regrown wo dq osq).mono HBR.out.size))
                    generalize (grow (redrawn wo dq) osq) = wx at HBX ⊢
                    go_wp2_with fail
                    go_roundw
                    case rel => exact ⟨k + 1, by omega, by rw [HA2.out], by go_num, HBX.out⟩
                    case measure => simp [intOf]; omega
                  · have fe : ((mn : Int) == (mq : Int)) = false := by rw [beq_eq_false_iff_ne]; exact he
                    have HA2 := Lib.hid (show decide ((mq : Int) ∈ ms.take (k + 1)) = false from by rw [mem_take_succ HT.out, HAK.out, decide_eq_false he]; rfl)
                    clear he
                    refine wp_region_quiet_below (by kernel_rfl) (by kernel_rfl) ?_
                    repeat (first | go_big_quiet_step (fail) | quiet_step (fail))
                    refine wpQuiet_nil ?_
                    intro _ hw'
                    obtain ⟨⟨dq, osq⟩, hw''⟩ := hw'
                    subst hw''
                    clear xg0 xg1 xg2 xcx xcv xcm
                    have HBX := Lib.hid (HBR.out.trans ((below_regrown wo dq osq).mono HBR.out.size))
                    generalize (grow (redrawn wo dq) osq) = wx at HBX ⊢
                    go_wp2_with fail
                    go_roundw
                    case rel => exact ⟨k + 1, by omega, by rw [HA2.out], by go_num, HBX.out⟩
                    case measure => simp [intOf]; omega
                · have HA2 := Lib.hid (show decide ((mq : Int) ∈ ms.take (k + 1)) = true from by rw [mem_take_succ HT.out, HAK.out]; rfl)
                  refine wp_region_quiet_below (by kernel_rfl) (by kernel_rfl) ?_
                  repeat (first | go_big_quiet_step (fail) | quiet_step (fail))
                  refine wpQuiet_nil ?_
                  intro _ hw'
                  obtain ⟨⟨dq, osq⟩, hw''⟩ := hw'
                  subst hw''
                  clear xg0 xg1 xg2 xcx xcv xcm
                  have HBX := Lib.hid (HBR.out.trans ((below_regrown wo dq osq).mono HBR.out.size))
                  generalize (grow (redrawn wo dq) osq) = wx at HBX ⊢
                  go_wp2_with fail
                  go_roundw
                  case rel => exact ⟨k + 1, by omega, by rw [HA2.out], by go_num, HBX.out⟩
                  case measure => simp [intOf]; omega
              · have fk : decide ((k : Int) < (ms.length : Int)) = false := decide_eq_false (by omega)
                obtain rfl : ek = true := by
                  have h := HAK.out
                  rw [List.take_of_length_le (by omega), decide_eq_true HMM.out] at h
                  exact h.symm
                have HO3 := Lib.hid (show OwnB wr lo (.slice (some ⟨pd, 0, none⟩) n n) n (fun y => decide (y < i + 1) && (!A.getLsbD y || To.getLsbD y)) from own_grown HO2.out (grown_of_below HBR.out none))
                have HB3 := Lib.hid (HB2.out.trans (HBR.out.mono (by have h1 := LPD.out; have h2 := HB2.out.size; omega)))
                go_wp2_with fail
                go_roundw
                case rel => exact ⟨i + 1, by omega, by go_num, HO3.out, HB3.out⟩
                case measure => simp [intOf]; omega
          · have fz : (zo == p) = false := beq_eq_false_iff_ne.2 hzp
            have HNO := Lib.hid (show vf i = -1 from HRD.out.nones i (.inr (.inr (fun h => hzp (hzo.symm.trans h)))))
            clear hbA hbT hzo hzp
            go_upto_region 10 with (fail)
            clear cd fd
            generalize (wr.setCell ⟨pd, i, none⟩ (.bool false)) = w5 at HO2 HB2 ⊢
            have HBW5 := Lib.hid (W3.out.trans (HB2.out.mono (by have h1 := LPD.out; omega)))
            have cv := (HBW5.out.cell (p := ⟨bv, ov + i, none⟩) LBV.out).trans (CV_.out i hlt)
            rw [HNO.out] at cv
            go_wp2_with fail
            go_roundw
            case rel => exact ⟨i + 1, by omega, by go_num, HO2.out, HB2.out⟩
            case measure => simp [intOf]; omega
        · rw [hbT] at cT
          have HO2 := Lib.hid (show OwnB (wr.setCell ⟨pd, i, none⟩ (.bool true)) lo (.slice (some ⟨pd, 0, none⟩) n n) n (fun y => decide (y < i + 1) && (!A.getLsbD y || To.getLsbD y)) from (HO.out.put i true).congr fun y _ => by
            by_cases e : y = i
            · subst e; rw [if_pos rfl, decide_eq_true (by omega), Bool.true_and, hbA, hbT]; rfl
            · rw [if_neg e]
              congr 1
              rw [Bool.eq_iff_iff, decide_eq_true_eq, decide_eq_true_eq]
              omega)
          have HB2 := Lib.hid (HB.out.setCell (p := ⟨pd, i, none⟩) (Nat.le_refl pd) (.bool true))
          have HNO := Lib.hid (show vf i = -1 from HRD.out.nones i (.inr (.inl hbT)))
          clear hbA hbT
          go_upto_region 10 with (fail)
          clear cd fd
          generalize (wr.setCell ⟨pd, i, none⟩ (.bool true)) = w5 at HO2 HB2 ⊢
          have HBW5 := Lib.hid (W3.out.trans (HB2.out.mono (by have h1 := LPD.out; omega)))
          have cv := (HBW5.out.cell (p := ⟨bv, ov + i, none⟩) LBV.out).trans (CV_.out i hlt)
          rw [HNO.out] at cv
          go_wp2_with fail
          go_roundw
          case rel => exact ⟨i + 1, by omega, by go_num, HO2.out, HB2.out⟩
          case measure => simp [intOf]; omega
    · have fi : decide ((i : Int) < (n : Int)) = false := decide_eq_false (by omega)
      have HD0 := Lib.hid (HO.out.congr (h := fun y => !A.getLsbD y || To.getLsbD y) (fun y hy => by rw [decide_eq_true (show y < i by omega), Bool.true_and]))
      have W3 := Lib.hid HBW.out
      have BQ3 := Lib.hid (fun (wv : World) (h : Below pd wr wv) => BQ3.out wv (HB.out.trans h))
      have LPD : Hid (w.heap.size ≤ pd ∧ pd < wr.heap.size) := Lib.hid ⟨LPD.out.1, Nat.lt_of_lt_of_le LPD.out.2 HB.out.size⟩
      obtain ⟨w3, rfl⟩ : ∃ w3 : World, w3 = wr := ⟨_, rfl⟩
      clear HO HB HBW
      go_wp2_with fail
      go_loopw [19] (fun mv wr => ∃ d m, RelF3 w3 g I p To A vf lo n pd mv wr d m) (fun mv wr => 2 * (n - truesAt wr (.slice (some ⟨pd, 0, none⟩) n n) n) + isT mv)
      case atStart =>
        refine ⟨_, true, HD0.out, rfl, fun i hi h => ?_, fun h => (by cases h), Below.refl _ _⟩
        rcases h with h | h
        · rw [h]; rfl
        · rw [h]; simp
      case round =>
        obtain ⟨d0, m, hR⟩ := hrel
        obtain rfl := hR.more
        have HR3 := Lib.hid hR
        clear hR
        cases m with
        | false =>
          have HALL := Lib.hid (show ∀ x, x < n → d0 x = true from by
            have h := HRD.out.forced d0 (fun x hx h => HR3.out.base x (by rwa [HN.out] at hx) h) (fun x hx h => HR3.out.rest rfl x (by rwa [HN.out] at hx) ((closed_iff HR.out I p vf d0 x hx).2 h))
            rwa [HN.out] at h)
          obtain ⟨wz, rfl⟩ : ∃ wz : World, wz = wr := ⟨_, rfl⟩
          go_wp2_with fail
          go_loopw [24] (fun iv wr => ∃ k : Nat, k ≤ n ∧ iv = .int .i64 (k : Int) ∧ wr = wz) (fun iv _ => n - (intOf iv).toNat)
          case atStart => exact ⟨0, Nat.zero_le _, rfl, by first | trivial | rfl⟩
          case round =>
            obtain ⟨k, hk, rfl, hw⟩ := hrel
            obtain rfl : wz = wr := hw.symm
            clear hw
            have hk0 : (0 : Int) ≤ (k : Int) := Int.natCast_nonneg _
            by_cases hlt : k < n
            · have fk : decide ((k : Int) < (n : Int)) = true := decide_eq_true (by omega)
              have hki : (k : Int) < (n : Int) := by omega
              have cd := (HR3.out.own.cell hlt).1
              rw [HALL.out k hlt] at cd
              go_wp2_with fail
              go_roundw
              case rel => exact ⟨k + 1, by omega, by go_num, by first | trivial | rfl⟩
              case measure => simp [intOf]; omega
            · have fk : decide ((k : Int) < (n : Int)) = false := decide_eq_false (by omega)
              have HBW := Lib.hid (W3.out.trans (HR3.out.below.mono (by have h1 := LPD.out; omega)))
              have hbb := BQ3.out wz HR3.out.below
              have gc0 : wz.cell? ⟨qg, 0, none⟩ = some (.slice (some ⟨ba, oa, none⟩) n ka) := hbb.cell 0 _ rfl
              have gc1 : wz.cell? ⟨qg, 1, none⟩ = some (.slice (some ⟨bb, ob, none⟩) n kb) := hbb.cell 1 _ rfl
              have gc2 : wz.cell? ⟨qg, 2, none⟩ = some (.slice (some ⟨bc, oc, none⟩) n kc) := hbb.cell 2 _ rfl
              clear hbb
              go_wp2_with fail
              refine (is_any g _ _ (HV.out.on HBW.out)).mono ?_
              rintro e wl ⟨rfl, hb⟩
              have HBL := Lib.hid (HBW.out.trans (hb.mono HBW.out.size))
              clear hb
              rw [(P.G.ok_iff g).2 HR.out]
              go_wp2_with fail
              go_ret
              exact ⟨rfl, HBL.out⟩
        | true =>
          have HC1 := Lib.hid (truesAt_bl (HR3.out.own.bl h0))
          obtain ⟨w4, rfl⟩ : ∃ w4 : World, w4 = wr := ⟨_, rfl⟩
          go_wp2_with fail
          go_loopw [19, 20] (fun mv iv wr => ∃ (i : Nat) (d : Nat → Bool) (m : Bool), i ≤ n ∧ iv = .int .i64 (i : Int) ∧ mv = .bool m ∧ OwnB wr lo (.slice (some ⟨pd, 0, none⟩) n n) n d ∧ (∀ y, d0 y = true → d y = true) ∧ (m = false → (∀ y, d y = d0 y) ∧ ∀ y, y < i → (g.moves.getD y []).all (closedB g I p vf d0 y) = true → d0 y = true) ∧ (m = true → ((List.range n).filter d0).length < ((List.range n).filter d).length) ∧ Below pd w3 wr) (fun _ iv _ => n - (intOf iv).toNat)
          case atStart => exact ⟨0, d0, false, Nat.zero_le _, rfl, rfl, HR3.out.own, fun _ h => h, fun _ => ⟨fun _ => rfl, fun y hy => absurd hy (Nat.not_lt_zero y)⟩, fun h => (by cases h), HR3.out.below⟩
          case round =>
            obtain ⟨i, d, m, hi, rfl, rfl, ho, hsub, hmf, hmt, hb⟩ := hrel
            have HO := Lib.hid ho
            have HSUB := Lib.hid hsub
            have HMF := Lib.hid hmf
            have HMT := Lib.hid hmt
            have HB := Lib.hid hb
            clear ho hsub hmf hmt hb
            have hi0 : (0 : Int) ≤ (i : Int) := Int.natCast_nonneg _
            have HBW := Lib.hid (W3.out.trans (HB.out.mono (by have h1 := LPD.out; omega)))
            by_cases hlt : i < n
            · have fi : decide ((i : Int) < (n : Int)) = true := decide_eq_true (by omega)
              have hii : (i : Int) < (n : Int) := by omega
              obtain ⟨cd, fd⟩ := HO.out.cell hlt
              cases hdi : d i
              · rw [hdi] at cd
                have hat := HR.out.at i (by rw [HN.out]; exact hlt)
                obtain ⟨xv, hcx, hxv⟩ := HCC.out w (Below.refl _ _) i hlt
                have hco := HCA.out w (Below.refl _ _) i hlt
                obtain ⟨ms, hms⟩ : ∃ ms, g.moves.getD i [] = ms := ⟨_, rfl⟩
                obtain ⟨zo, hzo⟩ : ∃ z, g.owner.getD i 0 = z := ⟨_, rfl⟩
                rw [hms] at hxv hat
                rw [hzo] at hco
                obtain ⟨-, -, -, hne, hrise⟩ := hat
                rw [HN.out] at hrise
                have hlen : ms.length ≤ 200 := P.rise_len hrise hmany
                obtain ⟨mo, mk, rfl, -, hmc⟩ := hxv
                obtain ⟨bm, om, rfl, hbm, hmc⟩ := hmc.resolve_left hne
                have HRISE := Lib.hid hrise
                have HMS := Lib.hid hms
                have HZO := Lib.hid hzo
                have HMC := Lib.hid hmc
                have LBM := Lib.hid hbm
                have cx := (HBW.out.cell (p := ⟨bc, oc + i, none⟩) (cell_lt hcx)).trans hcx
                have co := (HBW.out.cell (p := ⟨ba, oa + i, none⟩) (cell_lt hco)).trans hco
                clear hne hrise hms hzo hmc hcx hco hbm
                have hbb := BQ3.out wr HB.out
                have gc0 : wr.cell? ⟨qg, 0, none⟩ = some (.slice (some ⟨ba, oa, none⟩) n ka) := hbb.cell 0 _ rfl
                have gc1 : wr.cell? ⟨qg, 1, none⟩ = some (.slice (some ⟨bb, ob, none⟩) n kb) := hbb.cell 1 _ rfl
                have gc2 : wr.cell? ⟨qg, 2, none⟩ = some (.slice (some ⟨bc, oc, none⟩) n kc) := hbb.cell 2 _ rfl
                clear hbb
                have cv := (HBW.out.cell (p := ⟨bv, ov + i, none⟩) LBV.out).trans (CV_.out i hlt)
                obtain ⟨vi_, hvi⟩ : ∃ z, vf i = z := ⟨_, rfl⟩
                rw [hvi] at cv
                have HVI := Lib.hid hvi
                have HDI := Lib.hid hdi
                clear hvi hdi
                go_wp2_with fail
                obtain ⟨w5, rfl⟩ : ∃ w5 : World, w5 = wr := ⟨_, rfl⟩
                have cd0 := cd
                go_loopw [21, 22] (fun ev kv wr => ∃ k : Nat, k ≤ ms.length ∧ ev = .bool ((ms.take k).all (closedB g I p vf d i)) ∧ kv = .int .i64 (k : Int) ∧ wr = w5) (fun _ kv _ => ms.length - (intOf kv).toNat)
                case atStart => exact ⟨0, Nat.zero_le _, by simp, rfl, by first | trivial | rfl⟩
                case round =>
                  clear cd0
                  obtain ⟨k, hk, rfl, rfl, hw⟩ := hrel
                  obtain rfl : w5 = wr := hw.symm
                  clear hw
                  have hk0 : (0 : Int) ≤ (k : Int) := Int.natCast_nonneg _
                  obtain ⟨ek, hek⟩ : ∃ e, (ms.take k).all (closedB g I p vf d i) = e := ⟨_, rfl⟩
                  rw [hek]
                  have HAK := Lib.hid hek
                  clear hek
                  by_cases hlk : k < ms.length
                  · have fk : decide ((k : Int) < (ms.length : Int)) = true := decide_eq_true (by omega)
                    have hki : (k : Int) < (ms.length : Int) := by omega
                    have hcell := HMC.out k hlk
                    have hmb := P.rise_bounds HRISE.out (ms.getD k 0) (by rw [List.getD_eq_getElem?_getD, List.getElem?_eq_getElem hlk]; exact List.getElem_mem hlk)
                    have htake : ms.take (k + 1) = ms.take k ++ [ms.getD k 0] := by
                      rw [List.take_succ_eq_append_getElem hlk, List.getD_eq_getElem?_getD, List.getElem?_eq_getElem hlk]
                      rfl
                    obtain ⟨mz, hmz⟩ : ∃ mz, ms.getD k 0 = mz := ⟨_, rfl⟩
                    rw [hmz] at hcell hmb htake
                    obtain ⟨mn, rfl⟩ := Int.eq_ofNat_of_zero_le (show 0 ≤ mz by omega)
                    have hmn : mn < n := by omega
                    have hmi : (mn : Int) < (n : Int) := by omega
                    have hm0 : (0 : Int) ≤ (mn : Int) := Int.natCast_nonneg _
                    have HT := Lib.hid htake
                    have cm := (HBW.out.cell (p := ⟨bm, om + k, none⟩) LBM.out).trans hcell
                    clear hcell hmb htake hmz
                    have ci := (HBW.out.cell (p := ⟨bi, mn, none⟩) LBI.out).trans (CI.out mn hmn)
                    clear cd fd
                    obtain ⟨cd, -⟩ := HO.out.cell hmn
                    cases ek
                    · by_cases h1 : I.getLsbD mn = true
                      · rw [h1] at ci
                        by_cases h2 : zo = p
                        · have fz : (zo != p) = false := by rw [bne_eq_false_iff_eq]; exact h2
                          by_cases h3 : (mn : Int) = vi_
                          · have fv : ((mn : Int) == vi_) = true := by rw [beq_iff_eq]; exact h3
                            cases hdm : d mn
                            · rw [hdm] at cd
                              have hcb : closedB g I p vf d i (mn : Int) = false := by unfold closedB; rw [P.nat_has, h1, HZO.out, HVI.out, decide_eq_true h2, decide_eq_true h3, Int.toNat_natCast, hdm]; rfl
                              have HA2 := Lib.hid (show ((ms.take (k + 1)).all (closedB g I p vf d i)) = false from by rw [all_take_succ HT.out, HAK.out, hcb]; rfl)
                              clear hcb h1 h2 h3 hdm
                              go_wp2_with fail
                              go_roundw
                              case rel => exact ⟨k + 1, by omega, by rw [HA2.out], by go_num, by first | trivial | rfl⟩
                              case measure => simp [intOf]; omega
                            · rw [hdm] at cd
                              have hcb : closedB g I p vf d i (mn : Int) = true := by unfold closedB; rw [Int.toNat_natCast, hdm, Bool.or_true]
                              have HA2 := Lib.hid (show ((ms.take (k + 1)).all (closedB g I p vf d i)) = false from by rw [all_take_succ HT.out, HAK.out, hcb]; rfl)
                              clear hcb h1 h2 h3 hdm
                              go_wp2_with fail
                              go_roundw
                              case rel => exact ⟨k + 1, by omega, by rw [HA2.out], by go_num, by first | trivial | rfl⟩
                              case measure => simp [intOf]; omega
                          · have fv : ((mn : Int) == vi_) = false := by rw [beq_eq_false_iff_ne]; exact h3
                            have hcb : closedB g I p vf d i (mn : Int) = true := by unfold closedB; rw [P.nat_has, h1, HZO.out, HVI.out, decide_eq_true h2, decide_eq_false h3]; rfl
                            have HA2 := Lib.hid (show ((ms.take (k + 1)).all (closedB g I p vf d i)) = false from by rw [all_take_succ HT.out, HAK.out, hcb]; rfl)
                            clear hcb h1 h2 h3
                            go_wp2_with fail
                            go_roundw
                            case rel => exact ⟨k + 1, by omega, by rw [HA2.out], by go_num, by first | trivial | rfl⟩
                            case measure => simp [intOf]; omega
                        · have fz : (zo != p) = true := bne_iff_ne.2 h2
                          cases hdm : d mn
                          · rw [hdm] at cd
                            have hcb : closedB g I p vf d i (mn : Int) = false := by unfold closedB; rw [P.nat_has, h1, HZO.out, decide_eq_false h2, Int.toNat_natCast, hdm]; rfl
                            have HA2 := Lib.hid (show ((ms.take (k + 1)).all (closedB g I p vf d i)) = false from by rw [all_take_succ HT.out, HAK.out, hcb]; rfl)
                            clear hcb h1 h2 hdm
                            go_wp2_with fail
                            go_roundw
                            case rel => exact ⟨k + 1, by omega, by rw [HA2.out], by go_num, by first | trivial | rfl⟩
                            case measure => simp [intOf]; omega
                          · rw [hdm] at cd
                            have hcb : closedB g I p vf d i (mn : Int) = true := by unfold closedB; rw [Int.toNat_natCast, hdm, Bool.or_true]
                            have HA2 := Lib.hid (show ((ms.take (k + 1)).all (closedB g I p vf d i)) = false from by rw [all_take_succ HT.out, HAK.out, hcb]; rfl)
                            clear hcb h1 h2 hdm
                            go_wp2_with fail
                            go_roundw
                            case rel => exact ⟨k + 1, by omega, by rw [HA2.out], by go_num, by first | trivial | rfl⟩
                            case measure => simp [intOf]; omega
                      · have h1 : I.getLsbD mn = false := by simpa using h1
                        rw [h1] at ci
                        have hcb : closedB g I p vf d i (mn : Int) = true := by unfold closedB; rw [P.nat_has, h1]; rfl
                        have HA2 := Lib.hid (show ((ms.take (k + 1)).all (closedB g I p vf d i)) = false from by rw [all_take_succ HT.out, HAK.out, hcb]; rfl)
                        clear hcb h1
                        go_wp2_with fail
                        go_roundw
                        case rel => exact ⟨k + 1, by omega, by rw [HA2.out], by go_num, by first | trivial | rfl⟩
                        case measure => simp [intOf]; omega
                    · by_cases h1 : I.getLsbD mn = true
                      · rw [h1] at ci
                        by_cases h2 : zo = p
                        · have fz : (zo != p) = false := by rw [bne_eq_false_iff_eq]; exact h2
                          by_cases h3 : (mn : Int) = vi_
                          · have fv : ((mn : Int) == vi_) = true := by rw [beq_iff_eq]; exact h3
                            cases hdm : d mn
                            · rw [hdm] at cd
                              have hcb : closedB g I p vf d i (mn : Int) = false := by unfold closedB; rw [P.nat_has, h1, HZO.out, HVI.out, decide_eq_true h2, decide_eq_true h3, Int.toNat_natCast, hdm]; rfl
                              have HA2 := Lib.hid (show ((ms.take (k + 1)).all (closedB g I p vf d i)) = false from by rw [all_take_succ HT.out, HAK.out, hcb]; rfl)
                              clear hcb h1 h2 h3 hdm
                              go_wp2_with fail
                              go_roundw
                              case rel => exact ⟨k + 1, by omega, by rw [HA2.out], by go_num, by first | trivial | rfl⟩
                              case measure => simp [intOf]; omega
                            · rw [hdm] at cd
                              have hcb : closedB g I p vf d i (mn : Int) = true := by unfold closedB; rw [Int.toNat_natCast, hdm, Bool.or_true]
                              have HA2 := Lib.hid (show ((ms.take (k + 1)).all (closedB g I p vf d i)) = true from by rw [all_take_succ HT.out, HAK.out, hcb]; rfl)
                              clear hcb h1 h2 h3 hdm
                              go_wp2_with fail
                              go_roundw
                              case rel => exact ⟨k + 1, by omega, by rw [HA2.out], by go_num, by first | trivial | rfl⟩
                              case measure => simp [intOf]; omega
                          · have fv : ((mn : Int) == vi_) = false := by rw [beq_eq_false_iff_ne]; exact h3
                            have hcb : closedB g I p vf d i (mn : Int) = true := by unfold closedB; rw [P.nat_has, h1, HZO.out, HVI.out, decide_eq_true h2, decide_eq_false h3]; rfl
                            have HA2 := Lib.hid (show ((ms.take (k + 1)).all (closedB g I p vf d i)) = true from by rw [all_take_succ HT.out, HAK.out, hcb]; rfl)
                            clear hcb h1 h2 h3
                            go_wp2_with fail
                            go_roundw
                            case rel => exact ⟨k + 1, by omega, by rw [HA2.out], by go_num, by first | trivial | rfl⟩
                            case measure => simp [intOf]; omega
                        · have fz : (zo != p) = true := bne_iff_ne.2 h2
                          cases hdm : d mn
                          · rw [hdm] at cd
                            have hcb : closedB g I p vf d i (mn : Int) = false := by unfold closedB; rw [P.nat_has, h1, HZO.out, decide_eq_false h2, Int.toNat_natCast, hdm]; rfl
                            have HA2 := Lib.hid (show ((ms.take (k + 1)).all (closedB g I p vf d i)) = false from by rw [all_take_succ HT.out, HAK.out, hcb]; rfl)
                            clear hcb h1 h2 hdm
                            go_wp2_with fail
                            go_roundw
                            case rel => exact ⟨k + 1, by omega, by rw [HA2.out], by go_num, by first | trivial | rfl⟩
                            case measure => simp [intOf]; omega
                          · rw [hdm] at cd
                            have hcb : closedB g I p vf d i (mn : Int) = true := by unfold closedB; rw [Int.toNat_natCast, hdm, Bool.or_true]
                            have HA2 := Lib.hid (show ((ms.take (k + 1)).all (closedB g I p vf d i)) = true from by rw [all_take_succ HT.out, HAK.out, hcb]; rfl)
                            clear hcb h1 h2 hdm
                            go_wp2_with fail
                            go_roundw
                            case rel => exact ⟨k + 1, by omega, by rw [HA2.out], by go_num, by first | trivial | rfl⟩
                            case measure => simp [intOf]; omega
                      · have h1 : I.getLsbD mn = false := by simpa using h1
                        rw [h1] at ci
                        have hcb : closedB g I p vf d i (mn : Int) = true := by unfold closedB; rw [P.nat_has, h1]; rfl
                        have HA2 := Lib.hid (show ((ms.take (k + 1)).all (closedB g I p vf d i)) = true from by rw [all_take_succ HT.out, HAK.out, hcb]; rfl)
                        clear hcb h1
                        go_wp2_with fail
                        go_roundw
                        case rel => exact ⟨k + 1, by omega, by rw [HA2.out], by go_num, by first | trivial | rfl⟩
                        case measure => simp [intOf]; omega
                  · have fk : decide ((k : Int) < (ms.length : Int)) = false := decide_eq_false (by omega)
                    have hke : ms.all (closedB g I p vf d i) = ek := by rw [← HAK.out, List.take_of_length_le (by omega)]
                    have HKE := Lib.hid hke
                    clear hke
                    cases ek with
                    | false =>
                      have HN1 := Lib.hid (show m = false → (∀ y, d y = d0 y) ∧ ∀ y, y < i + 1 → (g.moves.getD y []).all (closedB g I p vf d0 y) = true → d0 y = true from fun hm => ⟨(HMF.out hm).1, fun y hy hc => by
                        rcases Nat.lt_or_eq_of_le (Nat.le_of_lt_succ hy) with h | h
                        · exact (HMF.out hm).2 y h hc
                        · subst h
                          have hdd : d = d0 := funext (HMF.out hm).1
                          rw [← hdd, HMS.out, HKE.out] at hc
                          cases hc⟩)
                      go_wp2_with fail
                      go_roundw
                      case rel => exact ⟨i + 1, d, m, by omega, by go_num, rfl, HO.out, HSUB.out, HN1.out, HMT.out, HB.out⟩
                      case measure => simp [intOf]; omega
                    | true =>
                      have HO2 := Lib.hid (HO.out.put i true)
                      have HB2 := Lib.hid (HB.out.setCell (p := ⟨pd, i, none⟩) (Nat.le_refl pd) (.bool true))
                      have HS2 := Lib.hid (show ∀ y, d0 y = true → (if y = i then true else d y) = true from fun y hy => by
                        by_cases e : y = i
                        · rw [if_pos e]
                        · rw [if_neg e]; exact HSUB.out y hy)
                      have HM2 := Lib.hid (show ((List.range n).filter d0).length < ((List.range n).filter (fun y => if y = i then true else d y)).length from by
                        have h1 := count_put hlt HDI.out
                        cases m with
                        | false =>
                          have h2 : ((List.range n).filter d0).length = ((List.range n).filter d).length := count_congr fun y _ => ((HMF.out rfl).1 y).symm
                          omega
                        | true =>
                          have h2 := HMT.out rfl
                          omega)
                      go_wp2_with fail
                      go_roundw
                      case rel => exact ⟨i + 1, _, true, by omega, by go_num, rfl, HO2.out, HS2.out, fun h => (by cases h), fun _ => HM2.out, HB2.out⟩
                      case measure => simp [intOf]; omega
              · rw [hdi] at cd
                have HN1 := Lib.hid (show m = false → (∀ y, d y = d0 y) ∧ ∀ y, y < i + 1 → (g.moves.getD y []).all (closedB g I p vf d0 y) = true → d0 y = true from fun hm => ⟨(HMF.out hm).1, fun y hy hc => by
                  rcases Nat.lt_or_eq_of_le (Nat.le_of_lt_succ hy) with h | h
                  · exact (HMF.out hm).2 y h hc
                  · subst h
                    rw [← (HMF.out hm).1]; exact hdi⟩)
                clear hdi
                go_wp2_with fail
                go_roundw
                case rel => exact ⟨i + 1, d, m, by omega, by go_num, rfl, HO.out, HSUB.out, HN1.out, HMT.out, HB.out⟩
                case measure => simp [intOf]; omega
            · have fi : decide ((i : Int) < (n : Int)) = false := decide_eq_false (by omega)
              have hin : i = n := by omega
              have HRR := Lib.hid (show RelF3 w3 g I p To A vf lo n pd (.bool m) wr d m from ⟨HO.out, rfl, fun y hy h => HSUB.out y (HR3.out.base y hy h), fun hm y hy hc => by
                have h := HMF.out hm
                have hdd : d = d0 := funext h.1
                rw [hdd] at hc ⊢
                exact h.2 y (by omega) hc, HB.out⟩)
              have HME := Lib.hid (show 2 * (n - truesAt wr (.slice (some ⟨pd, 0, none⟩) n n) n) + isT (.bool m) < 2 * (n - truesAt w4 (.slice (some ⟨pd, 0, none⟩) n n) n) + isT (.bool true) from by
                rw [HC1.out, truesAt_bl (HO.out.bl h0)]
                have h1 : ((List.range n).filter d).length ≤ n := Nat.le_trans (List.length_filter_le _ _) (by rw [List.length_range]; exact Nat.le_refl n)
                cases m with
                | true =>
                  have h4 := HMT.out rfl
                  show 2 * _ + 1 < 2 * _ + 1
                  omega
                | false =>
                  rw [show ((List.range n).filter d).length = ((List.range n).filter d0).length from count_congr fun y _ => (HMF.out rfl).1 y]
                  show 2 * _ + 0 < 2 * _ + 1
                  omega)
              clear hin
              go_wp2_with fail
              go_roundw
              case rel => exact ⟨_, _, HRR.out⟩
              case measure => exact HME.out
end W
end Go.Proofs.YtpfponiidppldaaDoor
end
