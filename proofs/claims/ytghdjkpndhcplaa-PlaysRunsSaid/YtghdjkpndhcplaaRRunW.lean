/- The document's Run: the walk. -/
import Derived.Test.YtghdjkpndhcplaaStdQ
import Derived.Test.YtghdjkpndhcplaaToldW
import Derived.Test.YtghdjkpndhcplaaGoes
import Derived.Test.YtghdjkpndhcplaaIs
import Derived.Test.YtghdjkpndhcplaaMoveW
import Derived.Deep.Cut
import Derived.Lib.Hide
import Derived.Deep.QuietTactic
import Derived.BigQuiet
import Derived.StillTailTactics
import Derived.Deep.CutRange
namespace Go.Proofs.Ytghdjkpndhcplaa
open Go.RowKit
namespace W

set_option maxRecDepth 100000 in
set_option maxHeartbeats 8000000 in
theorem rrun_any (g : P.G) (v : Value) (z p : Int) (mv sc : Value) (moves script : List Int) (w : World) (hv : GameV w v g) (hm : Ints w mv moves) (hs : Ints w sc script) :
    Calls Try.prog 8 #[v, .int .i64 z, .int .i64 p, mv, sc] w fun e w' => RunV g z p moves script w.heap.size e w' ∧ Below w.heap.size w w' := by
  have TV := Lib.hid hv
  have TM := Lib.hid hm
  have TS := Lib.hid hs
  obtain ⟨a, b, c, rfl, hga, hgb, hgc⟩ := hv
  obtain ⟨n, hn⟩ : ∃ n, g.owner.length = n := ⟨_, rfl⟩
  have HN := Lib.hid hn
  obtain ⟨oa, ka, rfl, hnl, -⟩ := hga
  obtain ⟨ob, kb, rfl, -⟩ := hgb
  obtain ⟨oc, kc, rfl, -⟩ := hgc
  obtain ⟨n2, hn2⟩ : ∃ k, g.prio.length = k := ⟨_, rfl⟩
  obtain ⟨n3, hn3⟩ : ∃ k, g.moves.length = k := ⟨_, rfl⟩
  obtain ⟨om, km, rfl, -⟩ := hm
  obtain ⟨nm, hnm⟩ : ∃ k, moves.length = k := ⟨_, rfl⟩
  rw [hnm] at TM ⊢
  rw [hn, hn2, hn3] at TV ⊢
  rw [hn] at hnl
  obtain ⟨os, cs, rfl, hsl, -⟩ := hs
  obtain ⟨ms, hms⟩ : ∃ ms, script.length = ms := ⟨_, rfl⟩
  rw [hms] at TS hsl ⊢
  have HMS := Lib.hid hms
  clear hn hms hn2 hn3 hnm
  go_enter Try.func8, Try.ntmps8
  go_wp2_with fail
  have bx0 : Box ((w.alloc (.cells #[.slice oa n ka, .slice ob n2 kb, .slice oc n3 kc] 25)).alloc (.cells #[.slice none 0 0, .slice none 0 0, .int .i64 0] 29)) (w.heap.size) 25 #[.slice oa n ka, .slice ob n2 kb, .slice oc n3 kc] := Box.alloc (Box.new w 25 #[.slice oa n ka, .slice ob n2 kb, .slice oc n3 kc]) (.cells #[.slice none 0 0, .slice none 0 0, .int .i64 0] 29)
  have bx1 : Box ((w.alloc (.cells #[.slice oa n ka, .slice ob n2 kb, .slice oc n3 kc] 25)).alloc (.cells #[.slice none 0 0, .slice none 0 0, .int .i64 0] 29)) (w.heap.size + 1) 29 #[.slice none 0 0, .slice none 0 0, .int .i64 0] := by
    have := Box.new (w.alloc (.cells #[.slice oa n ka, .slice ob n2 kb, .slice oc n3 kc] 25)) 29 #[.slice none 0 0, .slice none 0 0, .int .i64 0]
    simpa using this
  have hbq : Below w.heap.size w ((w.alloc (.cells #[.slice oa n ka, .slice ob n2 kb, .slice oc n3 kc] 25)).alloc (.cells #[.slice none 0 0, .slice none 0 0, .int .i64 0] 29)) := ((Below.refl _ w).alloc (Nat.le_refl _) _).alloc (by simp) _
  have lt0 : w.heap.size < w.heap.size + 1 := Nat.lt_succ_self _
  have hle0 : w.heap.size ≤ w.heap.size := Nat.le_refl _
  replace TV := Lib.hid (TV.out.on hbq)
  replace TM := Lib.hid (TM.out.on hbq)
  replace TS := Lib.hid (TS.out.on hbq)
  generalize ((w.alloc (.cells #[.slice oa n ka, .slice ob n2 kb, .slice oc n3 kc] 25)).alloc (.cells #[.slice none 0 0, .slice none 0 0, .int .i64 0] 29)) = w0 at bx0 bx1 hbq TV TM TS ⊢
  have BQg := Lib.hid bx0
  have BQr := Lib.hid bx1
  have W := Lib.hid hbq
  have LTgr := Lib.hid lt0
  have LEg := Lib.hid hle0
  clear hbq hle0 bx0 bx1 lt0
  generalize w.heap.size + 1 = qr at BQr LTgr ⊢
  obtain ⟨qg, hqg⟩ : ∃ qg, w.heap.size = qg := ⟨_, rfl⟩
  rw [hqg] at BQg LTgr ⊢
  have LEg : Hid (w.heap.size ≤ qg) := Lib.hid (by omega)
  clear hqg
  have HQR := Lib.hid (show w.heap.size ≤ qr by have h1 := LEg.out; have h2 := LTgr.out; omega)
  clear LEg LTgr
  have gc0 : w0.cell? ⟨qg, 0, none⟩ = some (.slice oa n ka) := BQg.out.cell 0 _ rfl
  have gc1 : w0.cell? ⟨qg, 1, none⟩ = some (.slice ob n2 kb) := BQg.out.cell 1 _ rfl
  have gc2 : w0.cell? ⟨qg, 2, none⟩ = some (.slice oc n3 kc) := BQg.out.cell 2 _ rfl
  go_wp2_with fail
  refine (is_any g _ _ TV.out).mono ?_
  rintro e w1 ⟨rfl, hb⟩
  replace W := Lib.hid (W.out.trans (hb.mono W.out.size))
  replace BQg := Lib.hid (BQg.out.keep (grown_of_below hb none))
  replace BQr := Lib.hid (BQr.out.keep (grown_of_below hb none))
  replace TV := Lib.hid (TV.out.on hb)
  replace TM := Lib.hid (TM.out.on hb)
  replace TS := Lib.hid (TS.out.on hb)
  clear hb gc0 gc1 gc2
  go_upto_region 2 with (fail)
  obtain ⟨bw, hbw⟩ : ∃ bw : Bool, (bw = true ↔ ¬ P.fine g z p) := by
    by_cases h : P.fine g z p
    · exact ⟨false, by simp [h]⟩
    · exact ⟨true, by simp [h]⟩
  have HBW := Lib.hid hbw
  clear hbw
  obtain ⟨bo, hbo⟩ : ∃ b, g.ok = b := ⟨_, rfl⟩
  rw [hbo]
  have HBO := Lib.hid hbo
  clear hbo
  go_cut [42] from 22 to 42 (fun t wx => t = .bool bw ∧ wx = w1)
  case first =>
    cases bo with
    | true =>
      by_cases hz0 : z < 0
      · have f3 : decide (z < 0) = true := decide_eq_true hz0
        have hb : bw = true := HBW.out.2 fun h => by have := h.2.1; omega
        go_wp2_with fail
        go_meet
        exact ⟨by rw [hb], rfl⟩
      · have f3 : decide (z < 0) = false := decide_eq_false hz0
        have gc0 : w1.cell? ⟨qg, 0, none⟩ = some (.slice oa n ka) := BQg.out.cell 0 _ rfl
        by_cases hzn : (n : Int) ≤ z
        · have f4 : decide ((n : Int) ≤ z) = true := decide_eq_true hzn
          have hb : bw = true := HBW.out.2 fun h => by have h1 := h.2.1; rw [HN.out] at h1; omega
          go_wp2_with fail
          go_meet
          exact ⟨by rw [hb], rfl⟩
        · have f4 : decide ((n : Int) ≤ z) = false := decide_eq_false hzn
          by_cases hp0 : p = 0
          · have f5 : (p != 0) = false := by rw [bne_eq_false_iff_eq]; exact hp0
            have hb : bw = false := by
              cases hbe : bw with
              | false => rfl
              | true => exact absurd ⟨HBO.out, ⟨by omega, by rw [HN.out]; omega⟩, .inl hp0⟩ (HBW.out.1 hbe)
            clear hp0
            go_wp2_with fail
            go_meet
            exact ⟨by rw [hb], rfl⟩
          · have f5 : (p != 0) = true := by rw [bne_iff_ne]; exact hp0
            by_cases hp1 : p = 1
            · have f6 : (p != 1) = false := by rw [bne_eq_false_iff_eq]; exact hp1
              have hb : bw = false := by
                cases hbe : bw with
                | false => rfl
                | true => exact absurd ⟨HBO.out, ⟨by omega, by rw [HN.out]; omega⟩, .inr hp1⟩ (HBW.out.1 hbe)
              clear hp1
              go_wp2_with fail
              go_meet
              exact ⟨by rw [hb], rfl⟩
            · have f6 : (p != 1) = true := by rw [bne_iff_ne]; exact hp1
              have hb : bw = true := HBW.out.2 fun h => by have h1 := h.2.2; omega
              go_wp2_with fail
              go_meet
              exact ⟨by rw [hb], rfl⟩
    | false =>
      have hb : bw = true := HBW.out.2 fun h => by have h1 := h.1; rw [HBO.out] at h1; cases h1
      go_wp2_with fail
      go_meet
      exact ⟨by rw [hb], rfl⟩
  case rest =>
    obtain ⟨hu, hwx⟩ := hcut
    rw [hu, hwx]
    clear hu hwx HBO
    cases bw with
    | true =>
      have rc0 : w1.cell? ⟨qr, 0, none⟩ = some (.slice none 0 0) := BQr.out.cell 0 _ rfl
      have rc1 : w1.cell? ⟨qr, 1, none⟩ = some (.slice none 0 0) := BQr.out.cell 1 _ rfl
      have rc2 : w1.cell? ⟨qr, 2, none⟩ = some (.int .i64 0) := BQr.out.cell 2 _ rfl
      have rf0 : w1.frozen? ⟨qr, 0, none⟩ = false := BQr.out.frozen 0
      have rf1 : w1.frozen? ⟨qr, 1, none⟩ = false := BQr.out.frozen 1
      have rf2 : w1.frozen? ⟨qr, 2, none⟩ = false := BQr.out.frozen 2
      go_wp2_with fail
      have HBEL := Lib.hid (((W.out.setCell (p := ⟨qr, 0, none⟩) HQR.out (.slice none 0 0)).setCell (p := ⟨qr, 1, none⟩) HQR.out (.slice none 0 0)).setCell (p := ⟨qr, 2, none⟩) HQR.out (.int .i64 0))
      exact bodyPost_ret (v := .tuple #[.agg #[.slice none 0 0, .slice none 0 0, .int .i64 0], .int .i64 1]) (by simp [results, Try.results8, go_sem, rc0, rc1, rc2]) rfl ⟨RunV.bad (c := 1) (.inl ⟨HBW.out.1 (by trivial), rfl, rfl, rfl, rfl⟩) _ _, HBEL.out⟩
    | false =>
      have hfi : P.fine g z p := Classical.byContradiction fun h => by have := HBW.out.2 h; cases this
      have HFI := Lib.hid hfi
      obtain ⟨hok, ⟨hz0, hzn⟩, hp⟩ := hfi
      rw [HN.out] at hzn
      have HR := Lib.hid ((P.G.ok_iff g).1 hok)
      obtain ⟨x0, rfl⟩ := Int.eq_ofNat_of_zero_le hz0
      have hx0 : x0 < n := by omega
      clear hok hp hzn HBW
      by_cases hlong : 64 < ms
      · have f7 : decide ((64 : Int) < (ms : Int)) = true := decide_eq_true (by omega)
        have rc0 : w1.cell? ⟨qr, 0, none⟩ = some (.slice none 0 0) := BQr.out.cell 0 _ rfl
        have rc1 : w1.cell? ⟨qr, 1, none⟩ = some (.slice none 0 0) := BQr.out.cell 1 _ rfl
        have rc2 : w1.cell? ⟨qr, 2, none⟩ = some (.int .i64 0) := BQr.out.cell 2 _ rfl
        have rf0 : w1.frozen? ⟨qr, 0, none⟩ = false := BQr.out.frozen 0
        have rf1 : w1.frozen? ⟨qr, 1, none⟩ = false := BQr.out.frozen 1
        have rf2 : w1.frozen? ⟨qr, 2, none⟩ = false := BQr.out.frozen 2
        go_wp2_with fail
        have HBEL := Lib.hid (((W.out.setCell (p := ⟨qr, 0, none⟩) HQR.out (.slice none 0 0)).setCell (p := ⟨qr, 1, none⟩) HQR.out (.slice none 0 0)).setCell (p := ⟨qr, 2, none⟩) HQR.out (.int .i64 0))
        exact bodyPost_ret (v := .tuple #[.agg #[.slice none 0 0, .slice none 0 0, .int .i64 0], .int .i64 10]) (by simp [results, Try.results8, go_sem, rc0, rc1, rc2]) rfl ⟨RunV.bad (c := 10) (.inr (.inl ⟨HFI.out, by rw [HMS.out]; exact hlong, rfl, rfl, rfl, rfl⟩)) _ _, HBEL.out⟩
      · have f7 : decide ((64 : Int) < (ms : Int)) = false := decide_eq_false (by omega)
        go_upto_if 50 with (fail)
        go_cut [4] from 51 to 51 (fun s4 wx => Ints wx s4 (P.scr script) ∧ Below w1.heap.size w1 wx)
        case first =>
          by_cases hm0 : ms = 0
          · have f8 : ((ms : Int) == 0) = true := by rw [beq_iff_eq]; omega
            have HSC := Lib.hid (show P.scr script = [0] by unfold P.scr; rw [if_pos (by rw [HMS.out]; exact hm0)])
            clear hm0
            go_wp2_with fail
            go_meet
            rw [HSC.out]
            exact ⟨⟨_, 1, rfl, by decide, .inr ⟨_, _, rfl, by simp, fun j hj => by
              obtain rfl : j = 0 := by simpa using hj
              exact (Box.new w1 3 #[.int .i64 0]).cell 0 _ rfl⟩⟩, (Below.refl _ w1).alloc (Nat.le_refl _) _⟩
          · have f8 : ((ms : Int) == 0) = false := by rw [beq_eq_false_iff_ne]; omega
            have HSC := Lib.hid (show P.scr script = script by unfold P.scr; rw [if_neg (by rw [HMS.out]; exact hm0)])
            go_wp2_with fail
            go_meet
            rw [HSC.out]
            exact ⟨TS.out, Below.refl _ w1⟩
        case rest =>
          obtain ⟨his, hb⟩ := hcut
          obtain ⟨m, hm⟩ : ∃ m, (P.scr script).length = m := ⟨_, rfl⟩
          have hm0 : 0 < m := by rw [← hm]; exact P.scr_pos script
          have hm64 : m ≤ 64 := by
            rw [← hm]
            unfold P.scr
            split
            · decide
            · rw [HMS.out]; omega
          obtain ⟨bs, os, ks, rfl, -⟩ := his.open_ hm hm0
          obtain ⟨S, hS⟩ : ∃ S, P.scr script = S := ⟨_, rfl⟩
          rw [hS] at his hm
          have HS := Lib.hid hS
          have HM := Lib.hid hm
          replace TS := Lib.hid his
          replace W := Lib.hid (W.out.trans (hb.mono W.out.size))
          replace BQg := Lib.hid (BQg.out.keep (grown_of_below hb none))
          replace BQr := Lib.hid (BQr.out.keep (grown_of_below hb none))
          replace TV := Lib.hid (TV.out.on hb)
          replace TM := Lib.hid (TM.out.on hb)
          clear hb his hS hm
          go_wp2_with fail
          have hdp : Dp wc (wc.alloc (.cells #[.int .i64 (x0 : Int), .int .i64 0] 41)) g p moves S n m x0 (.slice none 0 0) [] x0 0 wc.heap.size := {
            below := (Below.refl _ wc).alloc (Nat.le_refl _) _
            way := OwnS.nil _ _
            here := Box.new _ _ _
            high := Nat.le_refl _
            ne := fun e => by cases e
            go := P.Way.start _ _
            ins := fun a h => (by cases h)
            hx := hx0
            hy := hm0 }
          have HN200 := Lib.hid (show n ≤ 200 by have h := HR.out.many; rw [HN.out] at h; exact h)
          have hop := HR.out.prio
          have hmp := HR.out.moves
          rw [HN.out] at hop hmp
          obtain ⟨ba, oa2, ka2, bb, ob2, kb2, bc, oc2, kc2, he, hca, -, hcc⟩ := TV.out.open_ HN.out hop hmp (by omega)
          simp only [Value.agg.injEq, Array.mk.injEq, List.cons.injEq, and_true] at he
          obtain ⟨e1, e2, e3⟩ := he
          injection e1 with e1 _ e1'
          injection e2 with e2 e2n e2'
          injection e3 with e3 e3n e3'
          have e2n := e2n.symm
          have e3n := e3n.symm
          subst e1 e1' e2 e2n e2' e3 e3n e3'
          have HCA := Lib.hid hca
          have HCC := Lib.hid hcc
          clear hop hmp hca hcc
          generalize wc.alloc (.cells #[.int .i64 (x0 : Int), .int .i64 0] 41) = w6 at hdp ⊢
          generalize wc.heap.size = qs at hdp ⊢
          have HDP0 := Lib.hid hdp
          clear hdp
          go_loopw [13] (fun vl wr => ∃ (l : List (Nat × Nat)) (x y : Nat), Dp wc wr g p moves S n m x0 vl l x y qs) (fun vl _ => 12801 - (match vl with | .slice _ k _ => k | _ => 0))
          case atStart => exact ⟨[], x0, 0, HDP0.out⟩
          case round =>
            obtain ⟨l, x, y, hdp⟩ := hrel
            obtain ⟨wa, rfl⟩ : ∃ wa : World, wa = wr := ⟨_, rfl⟩
            obtain ⟨wo, wk, rfl⟩ := hdp.way.slice
            have hks := hdp.short HN200.out hm64
            obtain ⟨k, hk⟩ : ∃ k, l.length = k := ⟨_, rfl⟩
            rw [hk] at hks hdp ⊢
            have HK := Lib.hid hk
            have HDP := Lib.hid hdp
            clear hdp hk
            go_wp2_with fail
            go_loopw [15] (fun iv wr => ∃ j : Nat, iv = .int .i64 (j : Int) ∧ j ≤ k ∧ (∀ i, i < j → l.getD i (0, 0) ≠ (x, y)) ∧ Dp wc wr g p moves S n m x0 (.slice wo k wk) l x y qs) (fun iv _ => k - (intOf iv).toNat)
            case atStart => exact ⟨0, rfl, Nat.zero_le _, fun i h => absurd h (Nat.not_lt_zero i), HDP.out⟩
            case round =>
              obtain ⟨j, rfl, hj, hno, hdp⟩ := hrel
              replace HDP := Lib.hid hdp
              have HNO := Lib.hid hno
              clear hdp hno
              have hj0 : (0 : Int) ≤ (j : Int) := Int.natCast_nonneg _
              by_cases hlt : j < k
              · have fj : decide ((j : Int) < (k : Int)) = true := decide_eq_true (by omega)
                have hji : (j : Int) < (k : Int) := by omega
                obtain ⟨bz, oz, cz, he, hbz, hcz⟩ := (HDP.out.way.stands (by rw [HK.out]; omega)).open_ HK.out (by omega)
                injection he with he _ he2
                subst he he2
                obtain ⟨a, ha⟩ : ∃ a, l.getD j (0, 0) = a := ⟨_, rfl⟩
                have hcj := hcz j hlt
                rw [ha] at hcj
                have HA := Lib.hid ha
                obtain ⟨a1, a2⟩ := a
                obtain ⟨hc0z, hc1z⟩ := hcj
                have heq := st_eql (a1, a2) (x, y)
                clear ha hcz hbz
                have hc0 : wr.cell? ⟨qs, 0, none⟩ = some (.int .i64 (x : Int)) := HDP.out.here.cell 0 _ rfl
                have hc1 : wr.cell? ⟨qs, 1, none⟩ = some (.int .i64 (y : Int)) := HDP.out.here.cell 1 _ rfl
                by_cases hsame : (a1, a2) = (x, y)
                · have HSA := Lib.hid hsame
                  simp only [decide_eq_true hsame, sc2] at heq
                  clear hsame
                  go_upto_region 13 with (fail)
                  go_quiet (fail)
                  clear heq hc0 hc1 hc0z hc1z
                  replace HDP := Lib.hid (HDP.out.on (grown_of_below (below_drewN (Below.refl _ wr) nq) none))
                  generalize wr.drewN nq = wq at HDP ⊢
                  have hjl : j < l.length := by rw [HK.out]; exact hlt
                  have hi : l[j]? = some (x, y) := by
                    rw [List.getElem?_eq_getElem hjl, ← HSA.out, ← HA.out, List.getD_eq_getElem?_getD, List.getElem?_eq_getElem hjl]
                    rfl
                  have TV9 := Lib.hid (TV.out.on HDP.out.below)
                  have BQg9 := Lib.hid (BQg.out.keep (grown_of_below HDP.out.below none))
                  have gc0 : wq.cell? ⟨qg, 0, none⟩ = some (.slice (some ⟨ba, oa2, none⟩) n ka) := BQg9.out.cell 0 _ rfl
                  have gc1 : wq.cell? ⟨qg, 1, none⟩ = some (.slice (some ⟨bb, ob2, none⟩) n kb) := BQg9.out.cell 1 _ rfl
                  have gc2 : wq.cell? ⟨qg, 2, none⟩ = some (.slice (some ⟨bc, oc2, none⟩) n kc) := BQg9.out.cell 2 _ rfl
                  go_wp2_with fail
                  refine (told_any g HR.out n HN.out _ _ l k j wq TV9.out (HDP.out.way.stands (by rw [HK.out]; omega)) HK.out hlt (by omega) (fun a ha => (HDP.out.ins a ha).1)).mono ?_
                  rintro e w7 ⟨v1, v2, rfl, ho1, ho2, hap, hb⟩
                  clear gc0 gc1 gc2
                  obtain ⟨A, hA⟩ : ∃ A, (l.take j).map (fun a => (a.1 : Int)) = A := ⟨_, rfl⟩
                  obtain ⟨B, hB⟩ : ∃ B, (l.drop j).map (fun a => (a.1 : Int)) = B := ⟨_, rfl⟩
                  rw [hA] at ho1
                  rw [hB] at ho2
                  have HPP := Lib.hid (show P.PlayP g (x0 : Int) p moves script A B (P.topS g 0 (l.drop j) % 2) 0 from .inr (.inr ⟨HFI.out, by rw [HMS.out]; omega, .inl ⟨l, (x, y), j, by rw [HS.out]; exact HDP.out.go, hi, by rw [← hA], by rw [← hB], rfl, rfl⟩⟩))
                  obtain ⟨tq, htq⟩ : ∃ t, P.topS g 0 (l.drop j) % 2 = t := ⟨_, rfl⟩
                  rw [htq] at HPP ⊢
                  obtain ⟨a1', k1, e1, -⟩ := own_at ho1
                  obtain ⟨a2', k2, e2, -⟩ := own_at ho2
                  obtain ⟨n1, hn1⟩ : ∃ n, A.length = n := ⟨_, rfl⟩
                  obtain ⟨n2', hn2⟩ : ∃ n, B.length = n := ⟨_, rfl⟩
                  rw [hn1] at e1
                  rw [hn2] at e2
                  subst e1 e2
                  have BQr7 := Lib.hid ((BQr.out.keep (grown_of_below HDP.out.below none)).keep (grown_of_below hb none))
                  have W7 := Lib.hid ((W.out.trans (HDP.out.below.mono W.out.size)).trans (hb.mono (Nat.le_trans W.out.size HDP.out.below.size)))
                  have hqr : qr < wq.heap.size := (BQr.out.keep (grown_of_below HDP.out.below none)).lt
                  have HO1 := Lib.hid ho1
                  have HO2 := Lib.hid ho2
                  have HAP := Lib.hid hap
                  clear hA hB htq hn1 hn2 ho1 ho2 hap hb hi hjl
                  have rc0 : w7.cell? ⟨qr, 0, none⟩ = some (.slice none 0 0) := BQr7.out.cell 0 _ rfl
                  have rc1 : w7.cell? ⟨qr, 1, none⟩ = some (.slice none 0 0) := BQr7.out.cell 1 _ rfl
                  have rc2 : w7.cell? ⟨qr, 2, none⟩ = some (.int .i64 0) := BQr7.out.cell 2 _ rfl
                  have rf0 : w7.frozen? ⟨qr, 0, none⟩ = false := BQr7.out.frozen 0
                  have rf1 : w7.frozen? ⟨qr, 1, none⟩ = false := BQr7.out.frozen 1
                  have rf2 : w7.frozen? ⟨qr, 2, none⟩ = false := BQr7.out.frozen 2
                  go_wp2_with fail
                  have HBEL := Lib.hid (((W7.out.setCell (p := ⟨qr, 0, none⟩) HQR.out (.slice a1' n1 k1)).setCell (p := ⟨qr, 1, none⟩) HQR.out (.slice a2' n2' k2)).setCell (p := ⟨qr, 2, none⟩) HQR.out (.int .i64 tq))
                  exact bodyPost_ret (v := .tuple #[.agg #[.slice a1' n1 k1, .slice a2' n2' k2, .int .i64 tq], .int .i64 0]) (by simp [results, Try.results8, go_sem, rc0, rc1, rc2]) rfl
                    ⟨⟨_, _, A, B, tq, 0, rfl, own_more (ownsRow_setCell_below (ownsRow_setCell_below (ownsRow_setCell_below HO1.out hqr _) hqr _) hqr _) (Nat.le_trans W.out.size HDP.out.below.size), own_more (ownsRow_setCell_below (ownsRow_setCell_below (ownsRow_setCell_below HO2.out hqr _) hqr _) hqr _) (Nat.le_trans W.out.size HDP.out.below.size), HAP.out, HPP.out⟩, HBEL.out⟩
                · have HSA := Lib.hid hsame
                  simp only [decide_eq_false hsame, sc2] at heq
                  clear hsame
                  go_upto_region 13 with (fail)
                  go_quiet (fail)
                  clear heq hc0 hc1 hc0z hc1z
                  replace HDP := Lib.hid (HDP.out.on (grown_of_below (below_drewN (Below.refl _ wr) nq) none))
                  generalize wr.drewN nq = wq at HDP ⊢
                  go_wp2_with fail
                  go_roundw
                  case rel => exact ⟨j + 1, rfl, by omega, fun i hi => by
                    rcases Nat.lt_or_ge i j with h | h
                    · exact HNO.out i h
                    · obtain rfl : i = j := by omega
                      rw [HA.out]
                      exact HSA.out, HDP.out⟩
                  case measure => simp [intOf]; omega
              · have fj : decide ((j : Int) < (k : Int)) = false := decide_eq_false (by omega)
                have HNI := Lib.hid (show (x, y) ∉ l from fun h => by
                  obtain ⟨i, hi⟩ := List.mem_iff_getElem?.1 h
                  have hil := (List.getElem?_eq_some_iff.1 hi).1
                  rw [HK.out] at hil
                  refine HNO.out i (by omega) ?_
                  rw [List.getD_eq_getElem?_getD, hi]
                  rfl)
                clear HNO
                go_upto_region 15 with (fail)
                have hc0 : wr.cell? ⟨qs, 0, none⟩ = some (.int .i64 (x : Int)) := HDP.out.here.cell 0 _ rfl
                have hc1 : wr.cell? ⟨qs, 1, none⟩ = some (.int .i64 (y : Int)) := HDP.out.here.cell 1 _ rfl
                go_wp2_with (at_builtin; refine wpl_append2 rfl (.tmp 70) (.tmp 72) rfl rfl (HDP.out.way.grown (World.grownBy_alloc _ _ none)) rfl (t := (x, y)) (Box.new _ _ _) ?_ ?_ ?_)
                · have := HK.out; omega
                · have := HDP.out.below.size; first | omega | (simp; omega)
                intro v8 w8 hown8 hgr8 hat8
                clear hc0 hc1
                have hga := World.grownBy_alloc wr (.cells #[.int .i64 (x : Int), .int .i64 (y : Int)] 41) none
                have HB8 := Lib.hid ((HDP.out.below.grown hga HDP.out.below.size (fun k e => by cases e)).grown hgr8 (Nat.le_trans HDP.out.below.size hga.size) (fun k e => (own2_lt (HDP.out.way.grown hga) k e).1))
                have HH8 := Lib.hid ((HDP.out.here.keep hga).grown hgr8 (fun e => HDP.out.ne e.symm))
                have HNE8 := Lib.hid (show v8.ownBlock ≠ some qs from fun e => by
                  rcases hat8 with h | h
                  · rw [h] at e; exact HDP.out.ne e
                  · rw [h] at e
                    injection e with e
                    have := HDP.out.here.lt
                    first | omega | (simp at e; omega))
                have HW8 := Lib.hid hown8
                obtain ⟨vo8, vk8, hv8⟩ := hown8.slice
                obtain ⟨k8, hk8⟩ : ∃ k, (l ++ [(x, y)]).length = k := ⟨_, rfl⟩
                rw [hk8] at hv8
                have HK8 := Lib.hid (show k8 = k + 1 by rw [← hk8, List.length_append, HK.out]; rfl)
                have hx := HDP.out.hx
                have hy := HDP.out.hy
                have hxi : (x : Int) < (n : Int) := by omega
                have hx0 : (0 : Int) ≤ (x : Int) := Int.natCast_nonneg _
                have hyi : (y : Int) < (m : Int) := by omega
                have hy0 : (0 : Int) ≤ (y : Int) := Int.natCast_nonneg _
                clear hown8 hgr8 hat8 hga hk8
                subst hv8
                have TV8 := Lib.hid (TV.out.on HB8.out)
                have TM8 := Lib.hid (TM.out.on HB8.out)
                have TS8 := Lib.hid (TS.out.on HB8.out)
                have BQg8 := Lib.hid (BQg.out.keep (grown_of_below HB8.out none))
                have BQr8 := Lib.hid (BQr.out.keep (grown_of_below HB8.out none))
                have W8 := Lib.hid (W.out.trans (HB8.out.mono W.out.size))
                obtain ⟨ow, how⟩ : ∃ ow, g.owner.getD x 0 = ow := ⟨_, rfl⟩
                have hco := HCA.out w8 HB8.out x hx
                rw [how] at hco
                have HOW := Lib.hid how
                obtain ⟨row, hrow⟩ : ∃ row, g.moves.getD x [] = row := ⟨_, rfl⟩
                have HROW := Lib.hid hrow
                clear how
                have hins : ∀ a ∈ l ++ [(x, y)], a.1 < n ∧ a.2 < m := fun a ha => by
                  rcases List.mem_append.1 ha with ha | ha
                  · exact HDP.out.ins a ha
                  · rw [List.mem_singleton.1 ha]
                    exact ⟨hx, hy⟩
                have HINS := Lib.hid hins
                clear hins hrow
                have gc0 : w8.cell? ⟨qg, 0, none⟩ = some (.slice (some ⟨ba, oa2, none⟩) n ka) := BQg8.out.cell 0 _ rfl
                have gc1 : w8.cell? ⟨qg, 1, none⟩ = some (.slice (some ⟨bb, ob2, none⟩) n kb) := BQg8.out.cell 1 _ rfl
                have gc2 : w8.cell? ⟨qg, 2, none⟩ = some (.slice (some ⟨bc, oc2, none⟩) n kc) := BQg8.out.cell 2 _ rfl
                have hc0 : w8.cell? ⟨qs, 0, none⟩ = some (.int .i64 (x : Int)) := HH8.out.cell 0 _ rfl
                have hc1 : w8.cell? ⟨qs, 1, none⟩ = some (.int .i64 (y : Int)) := HH8.out.cell 1 _ rfl
                have hf0 : w8.frozen? ⟨qs, 0, none⟩ = false := HH8.out.frozen 0
                have hf1 : w8.frozen? ⟨qs, 1, none⟩ = false := HH8.out.frozen 1
                by_cases hown : ow = p
                · have fo : (ow == p) = true := beq_iff_eq.2 hown
                  have HOWN := Lib.hid hown
                  obtain ⟨mz, hmz⟩ : ∃ mz, P.ownMove moves x = mz := ⟨_, rfl⟩
                  have HMZ := Lib.hid hmz
                  clear hmz hown
                  go_upto_if 86 with (fail)
                  go_cut [16] from 86 to 91 (fun t wx => t = .int .i64 mz ∧ wx = w8)
                  case first =>
                    have hnm9 : nm = moves.length := by
                      obtain ⟨ao9, cap9, he9, -⟩ := TM8.out
                      injection he9
                    by_cases hxm : x < nm
                    · have fx : decide ((x : Int) < (nm : Int)) = true := decide_eq_true (by omega)
                      obtain ⟨bmv, omv, cmv, he, hcm⟩ := TM8.out.open_ hnm9.symm (by omega)
                      injection he with he _ he2
                      subst he he2
                      have hcu := hcm w8 (Below.refl _ _) x hxm
                      have hmu : moves.getD x 0 = mz := by
                        rw [← HMZ.out, P.ownMove, if_pos (by omega)]
                      rw [hmu] at hcu
                      have hxmi : (x : Int) < (nm : Int) := by omega
                      clear hmu hcm hnm9
                      go_wp2_with fail
                      go_meet
                      exact ⟨rfl, rfl⟩
                    · have fx : decide ((x : Int) < (nm : Int)) = false := decide_eq_false (by omega)
                      have hmu : mz = -1 := by
                        rw [← HMZ.out, P.ownMove, if_neg (by omega)]
                      have HMU := Lib.hid hmu
                      clear hmu hnm9
                      go_wp2_with fail
                      go_meet
                      exact ⟨by rw [HMU.out], rfl⟩
                  case rest =>
                    obtain ⟨hu, hwx⟩ := hcut
                    rw [hu, hwx]
                    clear hu hwx
                    go_wp2_with fail
                    refine (goes_any g HR.out n HN.out _ x mz w8 TV8.out hx).mono ?_
                    rintro e w9 ⟨rfl, hb⟩
                    rw [HROW.out]
                    have HB9 := Lib.hid (HB8.out.trans (hb.mono HB8.out.size))
                    have HH9 := Lib.hid (HH8.out.keep (grown_of_below hb none))
                    have HW9 := Lib.hid (HW8.out.grown (grown_of_below hb none))
                    have W9 := Lib.hid (W8.out.trans (hb.mono W8.out.size))
                    have BQr9 := Lib.hid (BQr8.out.keep (grown_of_below hb none))
                    clear hb gc0 gc1 gc2 hc0 hc1 hf0 hf1 hco
                    by_cases hmem : mz ∈ row
                    · have fm : decide (mz ∈ row) = true := decide_eq_true hmem
                      have HNX := Lib.hid (show P.stepS g p moves S (x, y) = some (mz.toNat, y) by
                        unfold P.stepS
                        simp only []
                        rw [HOW.out, if_pos HOWN.out, HROW.out, HMZ.out, if_pos hmem])
                      have hu0 := HR.out.moves_in (i := x) (by rw [HN.out]; exact hx) mz (by rw [HROW.out]; exact hmem)
                      have HUN := Lib.hid (show ((mz.toNat : Nat) : Int) = mz by omega)
                      have hun : mz.toNat < n := by rw [HN.out] at hu0; omega
                      clear hmem hu0
                      have hc0 : w9.cell? ⟨qs, 0, none⟩ = some (.int .i64 (x : Int)) := HH9.out.cell 0 _ rfl
                      have hc1 : w9.cell? ⟨qs, 1, none⟩ = some (.int .i64 (y : Int)) := HH9.out.cell 1 _ rfl
                      have hf0 : w9.frozen? ⟨qs, 0, none⟩ = false := HH9.out.frozen 0
                      have hf1 : w9.frozen? ⟨qs, 1, none⟩ = false := HH9.out.frozen 1
                      go_wp2_with fail
                      refine ⟨⟨l ++ [(x, y)], mz.toNat, y, ?_⟩, ?_⟩
                      · exact {
                          below := HB9.out.setCell (p := ⟨qs, 0, none⟩) HDP.out.high _
                          ne := HNE8.out
                          way := World.ownsRow.kept (w := w9) HW9.out (grown_set w9 ⟨qs, 0, none⟩ _) (own2_off HNE8.out)
                          here := by
                            have := HH9.out.set 0 (.int .i64 mz)
                            rw [HUN.out]
                            simpa using this
                          high := HDP.out.high
                          go := HDP.out.go.next HNI.out HNX.out
                          ins := HINS.out
                          hx := hun
                          hy := hy }
                      · show 12801 - k8 < 12801 - k
                        have := HK8.out
                        omega
                    · have fm : decide (mz ∈ row) = false := decide_eq_false hmem
                      have HNX := Lib.hid (show P.stepS g p moves S (x, y) = none by
                        unfold P.stepS
                        simp only []
                        rw [HOW.out, if_pos HOWN.out, HROW.out, HMZ.out, if_neg hmem])
                      clear hmem
                      have rc0 : w9.cell? ⟨qr, 0, none⟩ = some (.slice none 0 0) := BQr9.out.cell 0 _ rfl
                      have rc1 : w9.cell? ⟨qr, 1, none⟩ = some (.slice none 0 0) := BQr9.out.cell 1 _ rfl
                      have rc2 : w9.cell? ⟨qr, 2, none⟩ = some (.int .i64 0) := BQr9.out.cell 2 _ rfl
                      have rf0 : w9.frozen? ⟨qr, 0, none⟩ = false := BQr9.out.frozen 0
                      have rf1 : w9.frozen? ⟨qr, 1, none⟩ = false := BQr9.out.frozen 1
                      have rf2 : w9.frozen? ⟨qr, 2, none⟩ = false := BQr9.out.frozen 2
                      go_wp2_with fail
                      have HBEL := Lib.hid (((W9.out.setCell (p := ⟨qr, 0, none⟩) HQR.out (.slice none 0 0)).setCell (p := ⟨qr, 1, none⟩) HQR.out (.slice none 0 0)).setCell (p := ⟨qr, 2, none⟩) HQR.out (.int .i64 0))
                      exact bodyPost_ret (v := .tuple #[.agg #[.slice none 0 0, .slice none 0 0, .int .i64 0], .int .i64 16]) (by simp [results, Try.results8, go_sem, rc0, rc1, rc2]) rfl ⟨RunV.bad (c := 16) (.inr (.inr ⟨HFI.out, by rw [HMS.out]; omega, .inr ⟨l, (x, y), by rw [HS.out]; exact HDP.out.go, by rw [HS.out]; exact HNX.out, rfl, rfl, rfl, rfl⟩⟩)) _ _, HBEL.out⟩
                · have fo : (ow == p) = false := beq_eq_false_iff_ne.2 hown
                  have HOWN := Lib.hid hown
                  have hat := HR.out.at x (by rw [HN.out]; exact hx)
                  rw [HROW.out] at hat
                  obtain ⟨rv, hcr, hri⟩ := HCC.out w8 HB8.out x hx
                  rw [HROW.out] at hri
                  obtain ⟨kr, hkr⟩ : ∃ k, row.length = k := ⟨_, rfl⟩
                  have HKR := Lib.hid hkr
                  have hkr0 : 0 < kr := by
                    rw [← hkr]
                    exact List.length_pos_iff.2 hat.2.2.2.1
                  have hkr1 : kr ≤ 17592186043904 := by rw [← hkr]; exact hri.fits1
                  obtain ⟨bm, om2, km2, rfl, hcm⟩ := hri.open_ hkr hkr0
                  have HCM := Lib.hid hcm
                  obtain ⟨bs2, os2, ks2, he, hcs⟩ := TS8.out.open_ HM.out hm0
                  injection he with he _ he2
                  injection he with he
                  injection he with he he3
                  subst he he2 he3
                  obtain ⟨z, hz⟩ : ∃ z, S.getD y 0 = z := ⟨_, rfl⟩
                  have hcz := hcs w8 (Below.refl _ _) y hy
                  rw [hz] at hcz
                  have HZ := Lib.hid hz
                  have hki : (0 : Int) < (kr : Int) := by omega
                  have hkm : (kr : Int) ≤ 17592186043904 := by omega
                  obtain ⟨ht1, ht2, ht3⟩ := rem_turn (z := z) hki
                  have hj1 := Int.emod_nonneg z (show (kr : Int) ≠ 0 by omega)
                  have hj2 := Int.emod_lt_of_pos z hki
                  obtain ⟨jj, hjj⟩ := Int.eq_ofNat_of_zero_le hj1
                  have hjk : jj < kr := by omega
                  have HJ := Lib.hid (show P.pick z kr = jj by unfold P.pick; omega)
                  have hkr00 : ¬ kr = 0 := by omega
                  obtain ⟨tz, htz⟩ : ∃ t, Int.tmod z (kr : Int) = t := ⟨_, rfl⟩
                  rw [htz] at ht1 ht2 ht3
                  have HTT := Lib.hid (show (tz < 0 → tz + (kr : Int) = (jj : Int)) ∧ (¬ tz < 0 → tz = (jj : Int)) by
                    constructor
                    · intro h
                      rw [hjj, Int.tmod_eq_emod_of_nonneg (by omega), Int.emod_eq_of_lt (by omega) (by omega)] at ht1
                      exact ht1
                    · intro h
                      rw [hjj, Int.tmod_eq_emod_of_nonneg (by omega), Int.add_emod_right, Int.emod_eq_of_lt (by omega) (by omega)] at ht1
                      exact ht1)
                  clear ht1 hat hri hkr hcm hcs hz hj1 hj2 hjj hown
                  go_upto_if 117 with (fail)
                  go_cut [19] from 117 to 120 (fun t wx => t = .int .i64 (jj : Int) ∧ wx = w8)
                  case first =>
                    by_cases htz0 : tz < 0
                    · have ft : decide (tz < 0) = true := decide_eq_true htz0
                      have HT1 := Lib.hid (HTT.out.1 htz0)
                      go_wp2_with fail
                      go_meet
                      exact ⟨by rw [HT1.out], rfl⟩
                    · have ft : decide (tz < 0) = false := decide_eq_false htz0
                      have HT1 := Lib.hid (HTT.out.2 htz0)
                      go_wp2_with fail
                      go_meet
                      exact ⟨by rw [HT1.out], rfl⟩
                  case rest =>
                    obtain ⟨hu, hwx⟩ := hcut
                    rw [hu, hwx]
                    clear hu hwx htz ht2 ht3 gc0 gc1 gc2 hc0 hc1 hf0 hf1 hco hcz
                    go_upto_region 28 with (fail)
                    obtain ⟨u, hu⟩ : ∃ u, row.getD jj 0 = u := ⟨_, rfl⟩
                    have hmem : u ∈ row := by rw [← hu]; exact mem_getD17 (by rw [HKR.out]; exact hjk)
                    have hu0 := HR.out.moves_in (i := x) (by rw [HN.out]; exact hx) u (by rw [HROW.out]; exact hmem)
                    have HU := Lib.hid hu
                    have HUN := Lib.hid (show ((u.toNat : Nat) : Int) = u by omega)
                    have hun : u.toNat < n := by rw [HN.out] at hu0; omega
                    have HCU := Lib.hid (show ∀ w', Below w8.heap.size w8 w' → w'.cell? ⟨bm, om2 + jj, none⟩ = some (.int .i64 u) from fun w' hb => by
                      rw [← HU.out]
                      exact HCM.out w' hb jj hjk)
                    have HCR := Lib.hid (show ∀ w', Below w8.heap.size w8 w' → w'.cell? ⟨bc, oc2 + x, none⟩ = some (.slice (some ⟨bm, om2, none⟩) kr km2) from fun w' hb => by
                      rw [hb.cell (p := ⟨bc, oc2 + x, none⟩) (cell_lt hcr)]
                      exact hcr)
                    have HNX := Lib.hid (show P.stepS g p moves S (x, y) = some (u.toNat, (y + 1) % m) by
                      unfold P.stepS
                      simp only []
                      rw [HOW.out, if_neg HOWN.out, HROW.out, HKR.out, HZ.out, HJ.out, HU.out, HM.out])
                    have hji9 : (jj : Int) < (kr : Int) := by omega
                    have hj09 : (0 : Int) ≤ (jj : Int) := Int.natCast_nonneg _
                    have hyw : IntKind.i64.wrap ((y : Int) + 1) = (y : Int) + 1 := by rw [IntKind.wrap_i64]; omega
                    have hym : Int.tmod ((y : Int) + 1) (m : Int) = ((y : Int) + 1) % (m : Int) := Int.tmod_eq_emod_of_nonneg (by omega)
                    have HYM := Lib.hid (show (((y + 1) % m : Nat) : Int) = ((y : Int) + 1) % (m : Int) by rw [Int.natCast_emod]; rfl)
                    have hm00 : ¬ m = 0 := by omega
                    clear hu hmem hu0 hcr
                    refine Rt.wp_region_tail 1 (fun idx => match idx with | 0 => (fun v _ _ => v = (.pointer (some ⟨qg, 2, none⟩))) | 1 => (fun v _ _ => v = (.slice (some ⟨bc, oc2, none⟩) n kc)) | 2 => (fun v _ _ => v = (.pointer (some ⟨qs, 0, none⟩))) | 3 => (fun v _ _ => v = (.int .i64 (x : Int))) | 4 => (fun v _ _ => v = (.pointer (some ⟨bc, oc2 + x, none⟩))) | 5 => (fun v _ _ => v = (.slice (some ⟨bm, om2, none⟩) kr km2)) | 6 => (fun v _ _ => v = (.int .i64 (jj : Int))) | 7 => (fun v _ _ => v = (.pointer (some ⟨bm, om2 + jj, none⟩))) | 8 => (fun v _ _ => v = (.int .i64 u)) | 9 => (fun v _ _ => v = (.pointer (some ⟨qs, 1, none⟩))) | 10 => (fun v _ _ => v = (.int .i64 (y : Int))) | 11 => (fun v _ _ => v = (.int .i64 ((y : Int) + 1))) | 12 => (fun v _ _ => v = (.slice (some ⟨bs, os, none⟩) m ks)) | 13 => (fun v _ _ => v = (.int .i64 (m : Int))) | 14 => (fun v _ _ => v = (.int .i64 (((y : Int) + 1) % (m : Int)))) | 15 => (fun v _ _ => v = .agg #[(.int .i64 u), (.int .i64 (((y : Int) + 1) % (m : Int)))]) | _ => fun _ _ _ => True) (fun _ _ _ _ => True) (Rk.allK) 99 (by kernel_rfl) (by rfl) (by kernel_rfl) (by rfl) ?_ ?_ ?_ ?_
                    · refine ⟨?_, ?_, ?_, ?_, ?_, ?_, ?_, ?_, ?_, ?_, ?_, ?_, ?_, ?_, ?_, ?_, trivial⟩
                      · intro A w' K vals h hn hT hgk hK0
                        have r0 : A.tmps[5]?.getD undef = (.pointer (some ⟨qg, 0, none⟩)) := Rg.slot h.1
                        clear h hn hT hgk
                        simp [Oper.wp, execOp, go_sem, r0]
                        exact hK0 _ _ (Rk.Keeps.refl _ _) rfl trivial
                      · intro A w' K vals h hn hT hgk hK0
                        have r0 : A.tmps[121]?.getD undef = vals 0 := Rg.slot (h.1)
                        have r1 : vals 0 = (.pointer (some ⟨qg, 2, none⟩)) := hn.1
                        have c : w'.cell? ⟨qg, 2, none⟩ = some (.slice (some ⟨bc, oc2, none⟩) n kc) := (BQg8.out.keep (Rk.grown_of hgk)).cell 2 _ rfl
                        clear h hn hT hgk
                        simp [Oper.wp, execOp, go_sem, r0, r1, c]
                        exact hK0 _ _ (Rk.Keeps.refl _ _) rfl trivial
                      · intro A w' K vals h hn hT hgk hK0
                        have r0 : A.tmps[14]?.getD undef = (.pointer (some ⟨qs, 0, none⟩)) := Rg.slot h.1
                        clear h hn hT hgk
                        simp [Oper.wp, execOp, go_sem, r0]
                        exact hK0 _ _ (Rk.Keeps.refl _ _) rfl trivial
                      · intro A w' K vals h hn hT hgk hK0
                        have r0 : A.tmps[123]?.getD undef = vals 2 := Rg.slot (h.1)
                        have r1 : vals 2 = (.pointer (some ⟨qs, 0, none⟩)) := hn.1
                        have c : w'.cell? ⟨qs, 0, none⟩ = some (.int .i64 (x : Int)) := (HH8.out.keep (Rk.grown_of hgk)).cell 0 _ rfl
                        clear h hn hT hgk
                        simp [Oper.wp, execOp, go_sem, r0, r1, c]
                        exact hK0 _ _ (Rk.Keeps.refl _ _) rfl trivial
                      · intro A w' K vals h hn hT hgk hK0
                        have r0 : A.tmps[122]?.getD undef = vals 1 := Rg.slot h.1
                        have s0 : vals 1 = (.slice (some ⟨bc, oc2, none⟩) n kc) := hn.1
                        have r1 : A.tmps[124]?.getD undef = vals 3 := Rg.slot h.2.1
                        have s1 : vals 3 = (.int .i64 (x : Int)) := hn.2.1
                        clear h hn hT hgk
                        simp [Oper.wp, execOp, go_sem, r0, r1, s0, s1, hxi, hx0]
                        exact hK0 _ _ (Rk.Keeps.refl _ _) rfl trivial
                      · intro A w' K vals h hn hT hgk hK0
                        have r0 : A.tmps[125]?.getD undef = vals 4 := Rg.slot (h.1)
                        have r1 : vals 4 = (.pointer (some ⟨bc, oc2 + x, none⟩)) := hn.1
                        have c : w'.cell? ⟨bc, oc2 + x, none⟩ = some (.slice (some ⟨bm, om2, none⟩) kr km2) := HCR.out w' (below_of_grown (Rk.grown_of hgk))
                        clear h hn hT hgk
                        simp [Oper.wp, execOp, go_sem, r0, r1, c]
                        exact hK0 _ _ (Rk.Keeps.refl _ _) rfl trivial
                      · intro A w' K vals h hn hT hgk hK0
                        have r0 : A.tmps[19]?.getD undef = (.int .i64 (jj : Int)) := Rg.slot h.1
                        clear h hn hT hgk
                        simp [Oper.wp, execOp, go_sem, r0]
                        exact hK0 _ _ (Rk.Keeps.refl _ _) rfl trivial
                      · intro A w' K vals h hn hT hgk hK0
                        have r0 : A.tmps[126]?.getD undef = vals 5 := Rg.slot h.1
                        have s0 : vals 5 = (.slice (some ⟨bm, om2, none⟩) kr km2) := hn.1
                        have r1 : A.tmps[127]?.getD undef = vals 6 := Rg.slot h.2.1
                        have s1 : vals 6 = (.int .i64 (jj : Int)) := hn.2.1
                        clear h hn hT hgk
                        simp [Oper.wp, execOp, go_sem, r0, r1, s0, s1, hji9, hj09]
                        exact hK0 _ _ (Rk.Keeps.refl _ _) rfl trivial
                      · intro A w' K vals h hn hT hgk hK0
                        have r0 : A.tmps[128]?.getD undef = vals 7 := Rg.slot (h.1)
                        have r1 : vals 7 = (.pointer (some ⟨bm, om2 + jj, none⟩)) := hn.1
                        have c : w'.cell? ⟨bm, om2 + jj, none⟩ = some (.int .i64 u) := HCU.out w' (below_of_grown (Rk.grown_of hgk))
                        clear h hn hT hgk
                        simp [Oper.wp, execOp, go_sem, r0, r1, c]
                        exact hK0 _ _ (Rk.Keeps.refl _ _) rfl trivial
                      · intro A w' K vals h hn hT hgk hK0
                        have r0 : A.tmps[14]?.getD undef = (.pointer (some ⟨qs, 0, none⟩)) := Rg.slot h.1
                        clear h hn hT hgk
                        simp [Oper.wp, execOp, go_sem, r0]
                        exact hK0 _ _ (Rk.Keeps.refl _ _) rfl trivial
                      · intro A w' K vals h hn hT hgk hK0
                        have r0 : A.tmps[130]?.getD undef = vals 9 := Rg.slot (h.1)
                        have r1 : vals 9 = (.pointer (some ⟨qs, 1, none⟩)) := hn.1
                        have c : w'.cell? ⟨qs, 1, none⟩ = some (.int .i64 (y : Int)) := (HH8.out.keep (Rk.grown_of hgk)).cell 1 _ rfl
                        clear h hn hT hgk
                        simp [Oper.wp, execOp, go_sem, r0, r1, c]
                        exact hK0 _ _ (Rk.Keeps.refl _ _) rfl trivial
                      · intro A w' K vals h hn hT hgk hK0
                        have r0 : A.tmps[131]?.getD undef = vals 10 := Rg.slot h.1
                        have s0 : vals 10 = (.int .i64 (y : Int)) := hn.1
                        clear h hn hT hgk
                        simp [Oper.wp, execOp, go_sem, r0, s0, hyw]
                        exact hK0 _ _ (Rk.Keeps.refl _ _) rfl trivial
                      · intro A w' K vals h hn hT hgk hK0
                        have r0 : A.tmps[4]?.getD undef = (.slice (some ⟨bs, os, none⟩) m ks) := Rg.slot h.1
                        clear h hn hT hgk
                        simp [Oper.wp, execOp, go_sem, r0]
                        exact hK0 _ _ (Rk.Keeps.refl _ _) rfl trivial
                      · intro A w' K vals h hn hT hgk hK0
                        have r0 : A.tmps[133]?.getD undef = vals 12 := Rg.slot h.1
                        have s0 : vals 12 = (.slice (some ⟨bs, os, none⟩) m ks) := hn.1
                        clear h hn hT hgk
                        simp [Oper.wp, go_sem, r0, s0]
                        exact hK0 _ _ (Rk.Keeps.refl _ _) rfl trivial
                      · intro A w' K vals h hn hT hgk hK0
                        have r0 : A.tmps[132]?.getD undef = vals 11 := Rg.slot h.1
                        have s0 : vals 11 = (.int .i64 ((y : Int) + 1)) := hn.1
                        have r1 : A.tmps[134]?.getD undef = vals 13 := Rg.slot h.2.1
                        have s1 : vals 13 = (.int .i64 (m : Int)) := hn.2.1
                        clear h hn hT hgk
                        simp [Oper.wp, execOp, go_sem, r0, r1, s0, s1, hym, hm00]
                        exact hK0 _ _ (Rk.Keeps.refl _ _) rfl trivial
                      · intro A w' K vals h hn hT hgk hK0
                        have r0 : A.tmps[129]?.getD undef = vals 8 := Rg.slot h.1
                        have s0 : vals 8 = (.int .i64 u) := hn.1
                        have r1 : A.tmps[135]?.getD undef = vals 14 := Rg.slot h.2.1
                        have s1 : vals 14 = (.int .i64 (((y : Int) + 1) % (m : Int))) := hn.2.1
                        clear h hn hT hgk
                        simp [Oper.wp, execOp, go_sem, r0, r1, s0, s1]
                        exact hK0 _ _ (Rk.Keeps.refl _ _) rfl trivial
                    · refine ⟨?_, ?_, ?_, ?_, ?_, ?_, ?_, ?_, ?_, ?_, ?_, ?_, ?_, ?_, ?_, ?_, trivial⟩
                      · exact fun _ _ _ _ _ _ h => h
                      · exact fun _ _ _ _ _ _ h => h
                      · exact fun _ _ _ _ _ _ h => h
                      · exact fun _ _ _ _ _ _ h => h
                      · exact fun _ _ _ _ _ _ h => h
                      · exact fun _ _ _ _ _ _ h => h
                      · exact fun _ _ _ _ _ _ h => h
                      · exact fun _ _ _ _ _ _ h => h
                      · exact fun _ _ _ _ _ _ h => h
                      · exact fun _ _ _ _ _ _ h => h
                      · exact fun _ _ _ _ _ _ h => h
                      · exact fun _ _ _ _ _ _ h => h
                      · exact fun _ _ _ _ _ _ h => h
                      · exact fun _ _ _ _ _ _ h => h
                      · exact fun _ _ _ _ _ _ h => h
                      · exact fun _ _ _ _ _ _ h => h
                    · exact fun _ _ _ _ _ _ h => h
                    · intro vals w9 G hgk hS hG
                      have sB : vals 15 = .agg #[(.int .i64 u), (.int .i64 (((y : Int) + 1) % (m : Int)))] := hS.2.2.2.2.2.2.2.2.2.2.2.2.2.2.2.1
                      clear hS
                      have hb := below_of_grown (Rk.grown_of hgk)
                      have HB9 := Lib.hid (HB8.out.trans (hb.mono HB8.out.size))
                      have HH9 := Lib.hid (HH8.out.keep (grown_of_below hb none))
                      have HW9 := Lib.hid (HW8.out.grown (grown_of_below hb none))
                      clear hb hgk
                      have hc0 : w9.cell? ⟨qs, 0, none⟩ = some (.int .i64 (x : Int)) := HH9.out.cell 0 _ rfl
                      have hc1 : w9.cell? ⟨qs, 1, none⟩ = some (.int .i64 (y : Int)) := HH9.out.cell 1 _ rfl
                      have hf0 : w9.frozen? ⟨qs, 0, none⟩ = false := HH9.out.frozen 0
                      have hf1 : w9.frozen? ⟨qs, 1, none⟩ = false := HH9.out.frozen 1
                      refine hG ?_
                      clear hG
                      simp only [List.take, List.drop, List.length, Nat.reduceSub, Nat.reduceAdd, Rg.putAll, Act.put, List.setIfInBounds_toArray, List.set_cons_succ, List.set_cons_zero, sB]
                      clear sB
                      go_wp2_with fail
                      refine ⟨⟨l ++ [(x, y)], u.toNat, (y + 1) % m, ?_⟩, ?_⟩
                      · exact {
                          below := (HB9.out.setCell (p := ⟨qs, 0, none⟩) HDP.out.high _).setCell (p := ⟨qs, 1, none⟩) HDP.out.high _
                          ne := HNE8.out
                          way := World.ownsRow.kept (w := w9.setCell ⟨qs, 0, none⟩ (.int .i64 u)) (World.ownsRow.kept (w := w9) HW9.out (grown_set w9 ⟨qs, 0, none⟩ _) (own2_off HNE8.out)) (grown_set _ ⟨qs, 1, none⟩ _) (own2_off HNE8.out)
                          here := by
                            have := (HH9.out.set 0 (.int .i64 u)).set 1 (.int .i64 (((y : Int) + 1) % (m : Int)))
                            rw [HUN.out, HYM.out]
                            simpa using this
                          high := HDP.out.high
                          go := HDP.out.go.next HNI.out HNX.out
                          ins := HINS.out
                          hx := hun
                          hy := Nat.mod_lt _ hm0 }
                      · show 12801 - k8 < 12801 - k
                        have := HK8.out
                        omega
end W
end Go.Proofs.Ytghdjkpndhcplaa
