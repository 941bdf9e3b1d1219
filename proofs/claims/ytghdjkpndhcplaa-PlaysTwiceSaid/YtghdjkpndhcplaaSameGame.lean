/- Two games that are the same: the document's answer. -/
import Derived.Test.YtghdjkpndhcplaaSame
import Derived.Lib.QuietBelow
namespace Go.Proofs.Ytghdjkpndhcplaa
open Go.RowKit
namespace W
open Go.Sort (grow)

theorem gext {g h : P.G} (h1 : g.owner = h.owner) (h2 : g.prio = h.prio) (h3 : g.moves = h.moves) : g = h := by cases g; cases h; simp_all
set_option maxRecDepth 100000 in
set_option maxHeartbeats 1000000 in
theorem samegame_any (g h : P.G) (va vb : Value) (w : World) (ha : GameV w va g) (hb : GameV w vb h) :
    Calls Try.prog 11 #[va, vb] w fun e w' => e = .returned (.bool (decide (g = h))) ∧ Below w.heap.size w w' := by
  obtain ⟨a, b, c, rfl, ha1, ha2, ⟨co, cc, rfl, hzc, ha3⟩⟩ := ha
  obtain ⟨a', b', c', rfl, hb1, hb2, ⟨co', cc', rfl, hzc', hb3⟩⟩ := hb
  have HA1 := Lib.hid ha1
  have HA2 := Lib.hid ha2
  have HA3 := Lib.hid ha3
  have HB1 := Lib.hid hb1
  have HB2 := Lib.hid hb2
  have HB3 := Lib.hid hb3
  clear ha1 ha2 ha3 hb1 hb2 hb3
  go_enter Try.func11, Try.ntmps11
  go_wp2_with fail
  generalize hW : (w.alloc (.cells #[a, b, .slice co g.moves.length cc] 25)).alloc (.cells #[a', b', .slice co' h.moves.length cc'] 25) = w0
  have hb0 : Below w.heap.size w w0 := by rw [← hW]; exact ((Below.refl _ _).alloc (Nat.le_refl _) _).alloc (by simp) _
  have l0 : w.heap.size < w0.heap.size := by rw [← hW]; simp; omega
  have l1 : w.heap.size + 1 < w0.heap.size := by rw [← hW]; simp
  have r0 := heap_alloc2_old w (.cells #[a, b, .slice co g.moves.length cc] 25) (.cells #[a', b', .slice co' h.moves.length cc'] 25)
  have r1 := heap_alloc2_new w (.cells #[a, b, .slice co g.moves.length cc] 25) (.cells #[a', b', .slice co' h.moves.length cc'] 25)
  rw [hW] at r0 r1
  have pa0 : w0.cell? ⟨w.heap.size, 0, none⟩ = some a := by rw [cell_of_row w0 _ 0 _ _ _ r0]; rfl
  have pb0 : w0.cell? ⟨w.heap.size, 1, none⟩ = some b := by rw [cell_of_row w0 _ 1 _ _ _ r0]; rfl
  have pc0 : w0.cell? ⟨w.heap.size, 2, none⟩ = some (.slice co g.moves.length cc) := by rw [cell_of_row w0 _ 2 _ _ _ r0]; rfl
  have qa0 : w0.cell? ⟨w.heap.size + 1, 0, none⟩ = some a' := by rw [cell_of_row w0 _ 0 _ _ _ r1]; rfl
  have qb0 : w0.cell? ⟨w.heap.size + 1, 1, none⟩ = some b' := by rw [cell_of_row w0 _ 1 _ _ _ r1]; rfl
  have qc0 : w0.cell? ⟨w.heap.size + 1, 2, none⟩ = some (.slice co' h.moves.length cc') := by rw [cell_of_row w0 _ 2 _ _ _ r1]; rfl
  have HB0 := Lib.hid hb0
  clear hW r0 r1 hb0
  refine (sameints_any _ _ g.owner h.owner _ (HA1.out.on HB0.out) (HB1.out.on HB0.out)).mono ?_
  rintro e w1 ⟨rfl, hbb1⟩
  have pa1 : w1.cell? ⟨w.heap.size, 0, none⟩ = some a := (hbb1.cell (p := ⟨w.heap.size, 0, none⟩) l0).trans pa0
  have pb1 : w1.cell? ⟨w.heap.size, 1, none⟩ = some b := (hbb1.cell (p := ⟨w.heap.size, 1, none⟩) l0).trans pb0
  have pc1 : w1.cell? ⟨w.heap.size, 2, none⟩ = some (.slice co g.moves.length cc) := (hbb1.cell (p := ⟨w.heap.size, 2, none⟩) l0).trans pc0
  have qa1 : w1.cell? ⟨w.heap.size + 1, 0, none⟩ = some a' := (hbb1.cell (p := ⟨w.heap.size + 1, 0, none⟩) l1).trans qa0
  have qb1 : w1.cell? ⟨w.heap.size + 1, 1, none⟩ = some b' := (hbb1.cell (p := ⟨w.heap.size + 1, 1, none⟩) l1).trans qb0
  have qc1 : w1.cell? ⟨w.heap.size + 1, 2, none⟩ = some (.slice co' h.moves.length cc') := (hbb1.cell (p := ⟨w.heap.size + 1, 2, none⟩) l1).trans qc0
  have HC1 := Lib.hid hbb1
  clear hbb1 pa0 pb0 pc0 qa0 qb0 qc0
  obtain ⟨q1, hq1⟩ : ∃ q, decide (g.owner = h.owner) = q := ⟨_, rfl⟩
  rw [hq1]
  have HQ1 := Lib.hid hq1
  clear hq1
  go_wp2_with fail
  refine (sameints_any _ _ g.prio h.prio _ ((HA2.out.on HB0.out).on HC1.out) ((HB2.out.on HB0.out).on HC1.out)).mono ?_
  rintro e w2 ⟨rfl, hbb2⟩
  have HC2 := Lib.hid (HC1.out.trans (hbb2.mono HC1.out.size))
  have l0' := Nat.lt_of_lt_of_le l0 HC1.out.size
  have l1' := Nat.lt_of_lt_of_le l1 HC1.out.size
  have pa2 : w2.cell? ⟨w.heap.size, 0, none⟩ = some a := (hbb2.cell (p := ⟨w.heap.size, 0, none⟩) l0').trans pa1
  have pb2 : w2.cell? ⟨w.heap.size, 1, none⟩ = some b := (hbb2.cell (p := ⟨w.heap.size, 1, none⟩) l0').trans pb1
  have pc2 : w2.cell? ⟨w.heap.size, 2, none⟩ = some (.slice co g.moves.length cc) := (hbb2.cell (p := ⟨w.heap.size, 2, none⟩) l0').trans pc1
  have qa2 : w2.cell? ⟨w.heap.size + 1, 0, none⟩ = some a' := (hbb2.cell (p := ⟨w.heap.size + 1, 0, none⟩) l1').trans qa1
  have qb2 : w2.cell? ⟨w.heap.size + 1, 1, none⟩ = some b' := (hbb2.cell (p := ⟨w.heap.size + 1, 1, none⟩) l1').trans qb1
  have qc2 : w2.cell? ⟨w.heap.size + 1, 2, none⟩ = some (.slice co' h.moves.length cc') := (hbb2.cell (p := ⟨w.heap.size + 1, 2, none⟩) l1').trans qc1
  clear hbb2 pa1 pb1 pc1 qa1 qb1 qc1 l0' l1'
  obtain ⟨q2, hq2⟩ : ∃ q, decide (g.prio = h.prio) = q := ⟨_, rfl⟩
  rw [hq2]
  have HQ2 := Lib.hid hq2
  clear hq2
  have HD := Lib.hid (HB0.out.trans (HC2.out.mono HB0.out.size))
  cases q1 with
  | false =>
    have HF := Lib.hid (show decide (g = h) = false from decide_eq_false (fun e => of_decide_eq_false HQ1.out (by rw [e])))
    go_wp2_with fail
    go_ret
    exact ⟨by rw [HF.out]; rfl, HD.out⟩
  | true =>
  cases q2 with
  | false =>
    have HF := Lib.hid (show decide (g = h) = false from decide_eq_false (fun e => of_decide_eq_false HQ2.out (by rw [e])))
    go_wp2_with fail
    go_ret
    exact ⟨by rw [HF.out]; rfl, HD.out⟩
  | true =>
  by_cases hml : g.moves.length = h.moves.length
  · have f0 : (((g.moves.length : Nat) : Int) != ((h.moves.length : Nat) : Int)) = false := by rw [bne_eq_false_iff_eq]; omega
    have HML := Lib.hid hml
    clear hml
    have s0 := Nat.lt_of_lt_of_le l0 HC2.out.size
    have s1 := Nat.lt_of_lt_of_le l1 HC2.out.size
    have HP := Lib.hid pc2
    have HQ := Lib.hid qc2
    go_wp2_with fail
    go_loopw [7] (fun i wr => ∃ j : Nat, j ≤ g.moves.length ∧ i = .int .i64 j ∧ g.moves.take j = h.moves.take j ∧ Below w2.heap.size w2 wr) (fun i _ => g.moves.length - (intOf i).toNat)
    case atStart => exact ⟨0, Nat.zero_le _, rfl, rfl, Below.refl _ _⟩
    case round =>
      obtain ⟨j, hj, rfl, ht, hbw⟩ := hrel
      have HT := Lib.hid ht
      have HW := Lib.hid hbw
      clear ht hbw pa2 pb2 pc2 qa2 qb2 qc2
      have hj0 : (0 : Int) ≤ (j : Int) := Int.natCast_nonneg _
      have c0 : wr.cell? ⟨w.heap.size, 2, none⟩ = some (.slice co g.moves.length cc) := (HW.out.cell (p := ⟨w.heap.size, 2, none⟩) s0).trans HP.out
      have c1 : wr.cell? ⟨w.heap.size + 1, 2, none⟩ = some (.slice co' h.moves.length cc') := (HW.out.cell (p := ⟨w.heap.size + 1, 2, none⟩) s1).trans HQ.out
      by_cases hlt : j < g.moves.length
      · have fj : decide ((j : Int) < (g.moves.length : Int)) = true := decide_eq_true (by omega)
        have hjh : j < h.moves.length := by rw [← HML.out]; exact hlt
        obtain ⟨bc, oc, rfl, lc, kc⟩ := HA3.out.resolve_left (fun e => by rw [e] at hlt; exact absurd hlt (Nat.not_lt_zero j))
        obtain ⟨bd, od, rfl, ld, kd⟩ := HB3.out.resolve_left (fun e => by rw [e] at hjh; exact absurd hjh (Nat.not_lt_zero j))
        obtain ⟨l, hl⟩ : ∃ l, g.moves.getD j [] = l := ⟨_, rfl⟩
        obtain ⟨m, hm⟩ : ∃ m, h.moves.getD j [] = m := ⟨_, rfl⟩
        obtain ⟨x, cx, hx⟩ := kc j hlt
        obtain ⟨y, cy, hy⟩ := kd j hjh
        rw [hl] at hx
        rw [hm] at hy
        have hlg : g.moves[j]? = some l := by rw [List.getElem?_eq_getElem hlt, ← hl, List.getD_eq_getElem?_getD, List.getElem?_eq_getElem hlt]; rfl
        have hmg : h.moves[j]? = some m := by rw [List.getElem?_eq_getElem hjh, ← hm, List.getD_eq_getElem?_getD, List.getElem?_eq_getElem hjh]; rfl
        have hall := HD.out.trans (HW.out.mono HD.out.size)
        have k0 := fun d os => cell_regrown c0 d os
        have k1 := fun d os => cell_regrown c1 d os
        have k2 : ∀ d os, (grow (redrawn wr d) os).cell? ⟨bc, oc + j, none⟩ = some x := fun d os => cell_regrown ((hall.cell (p := ⟨bc, oc + j, none⟩) lc).trans cx) d os
        have k3 : ∀ d os, (grow (redrawn wr d) os).cell? ⟨bd, od + j, none⟩ = some y := fun d os => cell_regrown ((hall.cell (p := ⟨bd, od + j, none⟩) ld).trans cy) d os
        have kC : ∀ d os, Calls Try.prog 12 #[x, y] (grow (redrawn wr d) os) fun e w'' => e = .returned (.bool (decide (l = m))) ∧ ∃ p : Regrown, w'' = grow (redrawn wr p.d) p.os := fun d os => Calls.regrown_of (sameints_any x y l m _ ((hx.on hall).on (below_regrown wr d os)) ((hy.on hall).on (below_regrown wr d os)))
        have i1 : (j : Int) < (g.moves.length : Int) := by omega
        have i2 : (j : Int) < (h.moves.length : Int) := by omega
        have HLG := Lib.hid hlg
        have HMG := Lib.hid hmg
        obtain ⟨q, hq⟩ : ∃ q, decide (l = m) = q := ⟨_, rfl⟩
        rw [hq] at kC
        have HQQ := Lib.hid hq
        clear hq hlg hmg hl hm hx hy cx cy kc kd hall
        go_wp2_with fail
        clear c0 c1
        refine wp_region_quiet_below (by kernel_rfl) (by kernel_rfl) ?_
        repeat (first | go_big_quiet_step (first | (go_at_call 12; exact kC _ _)) | quiet_step (first | (go_at_call 12; exact kC _ _)))
        refine wpQuiet_nil ?_
        intro _ hw'
        obtain ⟨⟨dq, osq⟩, hw''⟩ := hw'
        subst hw''
        have HR := Lib.hid (below_regrown wr dq osq)
        clear k0 k1 k2 k3 kC
        cases q with
        | true =>
          have HF := Lib.hid (show g.moves.take (j + 1) = h.moves.take (j + 1) by rw [List.take_add_one, List.take_add_one, HT.out, HLG.out, HMG.out, of_decide_eq_true HQQ.out])
          go_wp2_with fail
          go_roundw
          case rel => exact ⟨j + 1, by omega, by go_num, HF.out, HW.out.trans (HR.out.mono HW.out.size)⟩
          case measure => simp [intOf]; omega
        | false =>
          have HF := Lib.hid (show decide (g = h) = false from decide_eq_false (fun e => of_decide_eq_false HQQ.out (by have := HLG.out; rw [e, HMG.out] at this; exact (Option.some.inj this).symm)))
          go_wp2_with fail
          go_ret
          exact ⟨by rw [HF.out]; rfl, HD.out.trans ((HW.out.trans (HR.out.mono HW.out.size)).mono HD.out.size)⟩
      · have fj : decide ((j : Int) < (g.moves.length : Int)) = false := decide_eq_false (by omega)
        have HF := Lib.hid (show decide (g = h) = true from decide_eq_true (gext (of_decide_eq_true HQ1.out) (of_decide_eq_true HQ2.out) (by
          have := HT.out
          rw [List.take_of_length_le (by omega), List.take_of_length_le (by have := HML.out; omega)] at this
          exact this)))
        go_wp2_with fail
        go_ret
        exact ⟨by rw [HF.out]; rfl, HD.out.trans (HW.out.mono HD.out.size)⟩
  · have f0 : (((g.moves.length : Nat) : Int) != ((h.moves.length : Nat) : Int)) = true := by rw [bne_iff_ne]; omega
    have HF := Lib.hid (show decide (g = h) = false from decide_eq_false (fun e => hml (by rw [e])))
    clear hml
    go_wp2_with fail
    go_ret
    exact ⟨by rw [HF.out]; rfl, HD.out⟩
end W
end Go.Proofs.Ytghdjkpndhcplaa
