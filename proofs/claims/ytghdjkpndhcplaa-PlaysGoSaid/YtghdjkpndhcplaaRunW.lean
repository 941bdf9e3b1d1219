/- Run: the walk. -/
import Derived.Test.YtghdjkpndhcplaaRunM
import Derived.Test.YtghdjkpndhcplaaMoveW
import Derived.Test.YtghdjkpndhcplaaRight
import Derived.Deep.Cut
import Derived.Lib.Hide
import Derived.Deep.QuietTactic
import Derived.BigQuiet
import Derived.StillTailTactics
import Derived.Deep.CutRange
import Derived.Maps.OwnSet
import Derived.Maps.OwnOps
namespace Go.Proofs.Ytghdjkpndhcplaa
open Go.RowKit Go.Maps
namespace W

set_option maxRecDepth 100000 in
set_option maxHeartbeats 8000000 in
theorem run_any (g : P.G) (v : Value) (z p : Int) (mv sc : Value) (moves script : List Int) (w : World) (hv : GameV w v g) (hm : Ints w mv moves) (hs : Ints w sc script) :
    Calls Try.prog 9 #[v, .int .i64 z, .int .i64 p, mv, sc] w fun e w' => RunV g z p moves script w.heap.size e w' ∧ Below w.heap.size w w' := by
  have TV := Lib.hid hv
  have TM := Lib.hid hm
  have TS := Lib.hid hs
  obtain ⟨a, b, c, rfl, hga, hgb, hgc⟩ := hv
  obtain ⟨n, hn⟩ : ∃ n, g.owner.length = n := ⟨_, rfl⟩
  have HN := Lib.hid hn
  obtain ⟨oa, ka, rfl, hnl, -⟩ := hga
  obtain ⟨ob, kb, rfl, -⟩ := hgb
  obtain ⟨oc, kc, rfl, -⟩ := hgc
  obtain ⟨n2, hn2⟩ : ∃ k, g.prio.length = k := ⟨_, rfl⟩
  obtain ⟨n3, hn3⟩ : ∃ k, g.moves.length = k := ⟨_, rfl⟩
  obtain ⟨om, km, rfl, -⟩ := hm
  obtain ⟨nm, hnm⟩ : ∃ k, moves.length = k := ⟨_, rfl⟩
  rw [hnm] at TM ⊢
  rw [hn, hn2, hn3] at TV ⊢
  rw [hn] at hnl
  obtain ⟨os, cs, rfl, hsl, -⟩ := hs
  obtain ⟨ms, hms⟩ : ∃ ms, script.length = ms := ⟨_, rfl⟩
  rw [hms] at TS hsl ⊢
  have HMS := Lib.hid hms
  clear hn hms hn2 hn3 hnm
  go_enter Try.func9, Try.ntmps9
  go_wp2_with fail
  have bx0 : Box ((w.alloc (.cells #[.slice oa n ka, .slice ob n2 kb, .slice oc n3 kc] 25)).alloc (.cells #[.slice none 0 0, .slice none 0 0, .int .i64 0] 29)) (w.heap.size) 25 #[.slice oa n ka, .slice ob n2 kb, .slice oc n3 kc] := Box.alloc (Box.new w 25 #[.slice oa n ka, .slice ob n2 kb, .slice oc n3 kc]) (.cells #[.slice none 0 0, .slice none 0 0, .int .i64 0] 29)
  have bx1 : Box ((w.alloc (.cells #[.slice oa n ka, .slice ob n2 kb, .slice oc n3 kc] 25)).alloc (.cells #[.slice none 0 0, .slice none 0 0, .int .i64 0] 29)) (w.heap.size + 1) 29 #[.slice none 0 0, .slice none 0 0, .int .i64 0] := by
    have := Box.new (w.alloc (.cells #[.slice oa n ka, .slice ob n2 kb, .slice oc n3 kc] 25)) 29 #[.slice none 0 0, .slice none 0 0, .int .i64 0]
    simpa using this
  have hbq : Below w.heap.size w ((w.alloc (.cells #[.slice oa n ka, .slice ob n2 kb, .slice oc n3 kc] 25)).alloc (.cells #[.slice none 0 0, .slice none 0 0, .int .i64 0] 29)) := ((Below.refl _ w).alloc (Nat.le_refl _) _).alloc (by simp) _
  have lt0 : w.heap.size < w.heap.size + 1 := Nat.lt_succ_self _
  have hle0 : w.heap.size ≤ w.heap.size := Nat.le_refl _
  replace TV := Lib.hid (TV.out.on hbq)
  replace TM := Lib.hid (TM.out.on hbq)
  replace TS := Lib.hid (TS.out.on hbq)
  generalize ((w.alloc (.cells #[.slice oa n ka, .slice ob n2 kb, .slice oc n3 kc] 25)).alloc (.cells #[.slice none 0 0, .slice none 0 0, .int .i64 0] 29)) = w0 at bx0 bx1 hbq TV TM TS ⊢
  have BQg := Lib.hid bx0
  have BQr := Lib.hid bx1
  have W := Lib.hid hbq
  have LTgr := Lib.hid lt0
  have LEg := Lib.hid hle0
  clear hbq hle0 bx0 bx1 lt0
  generalize w.heap.size + 1 = qr at BQr LTgr ⊢
  obtain ⟨qg, hqg⟩ : ∃ qg, w.heap.size = qg := ⟨_, rfl⟩
  rw [hqg] at BQg LTgr ⊢
  have LEg : Hid (w.heap.size ≤ qg) := Lib.hid (by omega)
  clear hqg
  have HQR := Lib.hid (show w.heap.size ≤ qr by have h1 := LEg.out; have h2 := LTgr.out; omega)
  clear LEg LTgr
  have gc0 : w0.cell? ⟨qg, 0, none⟩ = some (.slice oa n ka) := BQg.out.cell 0 _ rfl
  have gc1 : w0.cell? ⟨qg, 1, none⟩ = some (.slice ob n2 kb) := BQg.out.cell 1 _ rfl
  have gc2 : w0.cell? ⟨qg, 2, none⟩ = some (.slice oc n3 kc) := BQg.out.cell 2 _ rfl
  go_wp2_with fail
  refine (right_any g _ _ TV.out).mono ?_
  rintro e w1 ⟨rfl, hb⟩
  replace W := Lib.hid (W.out.trans (hb.mono W.out.size))
  replace BQg := Lib.hid (BQg.out.keep (grown_of_below hb none))
  replace BQr := Lib.hid (BQr.out.keep (grown_of_below hb none))
  replace TV := Lib.hid (TV.out.on hb)
  replace TM := Lib.hid (TM.out.on hb)
  replace TS := Lib.hid (TS.out.on hb)
  clear hb gc0 gc1 gc2
  have HOK := Lib.hid (show g.ok = true ↔ g.right.2 = 0 by unfold P.G.ok; rw [beq_iff_eq])
  obtain ⟨r1, hr1⟩ : ∃ r, g.right.1 = r := ⟨_, rfl⟩
  obtain ⟨r2, hr2⟩ : ∃ r, g.right.2 = r := ⟨_, rfl⟩
  rw [hr1, hr2]
  rw [hr2] at HOK
  clear hr1 hr2
  go_upto_region 2 with (fail)
  obtain ⟨bw, hbw⟩ : ∃ bw : Bool, (bw = true ↔ ¬ P.fine g z p) := by
    by_cases h : P.fine g z p
    · exact ⟨false, by simp [h]⟩
    · exact ⟨true, by simp [h]⟩
  have HBW := Lib.hid hbw
  clear hbw
  go_cut [47] from 27 to 47 (fun t wx => t = .bool bw ∧ wx = w1)
  case first =>
    by_cases h2 : r2 = 0
    · have f2 : ((r2 : Int) != 0) = false := by rw [bne_eq_false_iff_eq]; omega
      have HO := Lib.hid (HOK.out.2 h2)
      clear h2
      by_cases hz0 : z < 0
      · have f3 : decide (z < 0) = true := decide_eq_true hz0
        have hb : bw = true := HBW.out.2 fun h => by have := h.2.1; omega
        go_wp2_with fail
        go_meet
        exact ⟨by rw [hb], rfl⟩
      · have f3 : decide (z < 0) = false := decide_eq_false hz0
        have gc0 : w1.cell? ⟨qg, 0, none⟩ = some (.slice oa n ka) := BQg.out.cell 0 _ rfl
        by_cases hzn : (n : Int) ≤ z
        · have f4 : decide ((n : Int) ≤ z) = true := decide_eq_true hzn
          have hb : bw = true := HBW.out.2 fun h => by have h1 := h.2.1; rw [HN.out] at h1; omega
          go_wp2_with fail
          go_meet
          exact ⟨by rw [hb], rfl⟩
        · have f4 : decide ((n : Int) ≤ z) = false := decide_eq_false hzn
          by_cases hp0 : p = 0
          · have f5 : (p != 0) = false := by rw [bne_eq_false_iff_eq]; exact hp0
            have hb : bw = false := by
              cases hbe : bw with
              | false => rfl
              | true => exact absurd ⟨HO.out, ⟨by omega, by rw [HN.out]; omega⟩, .inl hp0⟩ (HBW.out.1 hbe)
            clear hp0
            go_wp2_with fail
            go_meet
            exact ⟨by rw [hb], rfl⟩
          · have f5 : (p != 0) = true := by rw [bne_iff_ne]; exact hp0
            by_cases hp1 : p = 1
            · have f6 : (p != 1) = false := by rw [bne_eq_false_iff_eq]; exact hp1
              have hb : bw = false := by
                cases hbe : bw with
                | false => rfl
                | true => exact absurd ⟨HO.out, ⟨by omega, by rw [HN.out]; omega⟩, .inr hp1⟩ (HBW.out.1 hbe)
              clear hp1
              go_wp2_with fail
              go_meet
              exact ⟨by rw [hb], rfl⟩
            · have f6 : (p != 1) = true := by rw [bne_iff_ne]; exact hp1
              have hb : bw = true := HBW.out.2 fun h => by have h1 := h.2.2; omega
              go_wp2_with fail
              go_meet
              exact ⟨by rw [hb], rfl⟩
    · have f2 : ((r2 : Int) != 0) = true := by rw [bne_iff_ne]; omega
      have hb : bw = true := HBW.out.2 fun h => h2 (HOK.out.1 h.1)
      go_wp2_with fail
      go_meet
      exact ⟨by rw [hb], rfl⟩
  case rest =>
    obtain ⟨hu, hwx⟩ := hcut
    rw [hu, hwx]
    clear hu hwx HOK
    cases bw with
    | true =>
      have rc0 : w1.cell? ⟨qr, 0, none⟩ = some (.slice none 0 0) := BQr.out.cell 0 _ rfl
      have rc1 : w1.cell? ⟨qr, 1, none⟩ = some (.slice none 0 0) := BQr.out.cell 1 _ rfl
      have rc2 : w1.cell? ⟨qr, 2, none⟩ = some (.int .i64 0) := BQr.out.cell 2 _ rfl
      have rf0 : w1.frozen? ⟨qr, 0, none⟩ = false := BQr.out.frozen 0
      have rf1 : w1.frozen? ⟨qr, 1, none⟩ = false := BQr.out.frozen 1
      have rf2 : w1.frozen? ⟨qr, 2, none⟩ = false := BQr.out.frozen 2
      go_wp2_with fail
      have HBEL := Lib.hid (((W.out.setCell (p := ⟨qr, 0, none⟩) HQR.out (.slice none 0 0)).setCell (p := ⟨qr, 1, none⟩) HQR.out (.slice none 0 0)).setCell (p := ⟨qr, 2, none⟩) HQR.out (.int .i64 0))
      exact bodyPost_ret (v := .tuple #[.agg #[.slice none 0 0, .slice none 0 0, .int .i64 0], .int .i64 1]) (by simp [results, Try.results9, go_sem, rc0, rc1, rc2]) rfl ⟨RunV.bad (c := 1) (.inl ⟨HBW.out.1 (by trivial), rfl, rfl, rfl, rfl⟩) _ _, HBEL.out⟩
    | false =>
      have hfi : P.fine g z p := Classical.byContradiction fun h => by have := HBW.out.2 h; cases this
      have HFI := Lib.hid hfi
      obtain ⟨hok, ⟨hz0, hzn⟩, hp⟩ := hfi
      rw [HN.out] at hzn
      have HR := Lib.hid ((P.G.ok_iff g).1 hok)
      have HP := Lib.hid hp
      obtain ⟨x0, rfl⟩ := Int.eq_ofNat_of_zero_le hz0
      have hx0 : x0 < n := by omega
      clear hok hp hzn HBW
      by_cases hlong : 64 < ms
      · have f7 : decide ((64 : Int) < (ms : Int)) = true := decide_eq_true (by omega)
        have rc0 : w1.cell? ⟨qr, 0, none⟩ = some (.slice none 0 0) := BQr.out.cell 0 _ rfl
        have rc1 : w1.cell? ⟨qr, 1, none⟩ = some (.slice none 0 0) := BQr.out.cell 1 _ rfl
        have rc2 : w1.cell? ⟨qr, 2, none⟩ = some (.int .i64 0) := BQr.out.cell 2 _ rfl
        have rf0 : w1.frozen? ⟨qr, 0, none⟩ = false := BQr.out.frozen 0
        have rf1 : w1.frozen? ⟨qr, 1, none⟩ = false := BQr.out.frozen 1
        have rf2 : w1.frozen? ⟨qr, 2, none⟩ = false := BQr.out.frozen 2
        go_wp2_with fail
        have HBEL := Lib.hid (((W.out.setCell (p := ⟨qr, 0, none⟩) HQR.out (.slice none 0 0)).setCell (p := ⟨qr, 1, none⟩) HQR.out (.slice none 0 0)).setCell (p := ⟨qr, 2, none⟩) HQR.out (.int .i64 0))
        exact bodyPost_ret (v := .tuple #[.agg #[.slice none 0 0, .slice none 0 0, .int .i64 0], .int .i64 10]) (by simp [results, Try.results9, go_sem, rc0, rc1, rc2]) rfl ⟨RunV.bad (c := 10) (.inr (.inl ⟨HFI.out, by rw [HMS.out]; exact hlong, rfl, rfl, rfl, rfl⟩)) _ _, HBEL.out⟩
      · have f7 : decide ((64 : Int) < (ms : Int)) = false := decide_eq_false (by omega)
        go_upto_if 55 with (fail)
        go_cut [4] from 56 to 56 (fun s4 wx => Ints wx s4 (P.scr script) ∧ Below w1.heap.size w1 wx)
        case first =>
          by_cases hm0 : ms = 0
          · have f8 : ((ms : Int) == 0) = true := by rw [beq_iff_eq]; omega
            have HSC := Lib.hid (show P.scr script = [0] by unfold P.scr; rw [if_pos (by rw [HMS.out]; exact hm0)])
            clear hm0
            go_wp2_with fail
            go_meet
            rw [HSC.out]
            exact ⟨⟨_, 1, rfl, by decide, .inr ⟨_, _, rfl, by simp, fun j hj => by
              obtain rfl : j = 0 := by simpa using hj
              exact (Box.new w1 3 #[.int .i64 0]).cell 0 _ rfl⟩⟩, (Below.refl _ w1).alloc (Nat.le_refl _) _⟩
          · have f8 : ((ms : Int) == 0) = false := by rw [beq_eq_false_iff_ne]; omega
            have HSC := Lib.hid (show P.scr script = script by unfold P.scr; rw [if_neg (by rw [HMS.out]; exact hm0)])
            go_wp2_with fail
            go_meet
            rw [HSC.out]
            exact ⟨TS.out, Below.refl _ w1⟩
        case rest =>
          obtain ⟨his, hb⟩ := hcut
          obtain ⟨m, hm⟩ : ∃ m, (P.scr script).length = m := ⟨_, rfl⟩
          have hm0 : 0 < m := by rw [← hm]; exact P.scr_pos script
          have hm64 : m ≤ 64 := by
            rw [← hm]
            unfold P.scr
            split
            · decide
            · rw [HMS.out]; omega
          obtain ⟨bs, os, ks, rfl, -⟩ := his.open_ hm hm0
          obtain ⟨S, hS⟩ : ∃ S, P.scr script = S := ⟨_, rfl⟩
          rw [hS] at his hm
          have HS := Lib.hid hS
          have HM := Lib.hid hm
          replace TS := Lib.hid his
          replace W := Lib.hid (W.out.trans (hb.mono W.out.size))
          replace BQg := Lib.hid (BQg.out.keep (grown_of_below hb none))
          replace BQr := Lib.hid (BQr.out.keep (grown_of_below hb none))
          replace TV := Lib.hid (TV.out.on hb)
          replace TM := Lib.hid (TM.out.on hb)
          clear hb his hS hm
          have gc0 : wc.cell? ⟨qg, 0, none⟩ = some (.slice oa n ka) := BQg.out.cell 0 _ rfl
          have gc1 : wc.cell? ⟨qg, 1, none⟩ = some (.slice ob n2 kb) := BQg.out.cell 1 _ rfl
          have gc2 : wc.cell? ⟨qg, 2, none⟩ = some (.slice oc n3 kc) := BQg.out.cell 2 _ rfl
          go_upto_region 9 with (fail)
          clear gc0 gc1 gc2
          have bq : Box (wc.alloc (.cells #[.slice oa n ka, .slice ob n2 kb, .slice oc n3 kc, .int .i64 p, .slice om nm km, .slice (some ⟨bs, os, none⟩) m ks] 47)) wc.heap.size 47 #[.slice oa n ka, .slice ob n2 kb, .slice oc n3 kc, .int .i64 p, .slice om nm km, .slice (some ⟨bs, os, none⟩) m ks] := Box.new _ _ _
          have hgq := World.grownBy_alloc wc (.cells #[.slice oa n ka, .slice ob n2 kb, .slice oc n3 kc, .int .i64 p, .slice om nm km, .slice (some ⟨bs, os, none⟩) m ks] 47) none
          replace W := Lib.hid (W.out.trans ((below_of_grown hgq).mono W.out.size))
          replace BQg := Lib.hid (BQg.out.keep hgq)
          replace BQr := Lib.hid (BQr.out.keep hgq)
          replace TV := Lib.hid (TV.out.on (below_of_grown hgq))
          replace TM := Lib.hid (TM.out.on (below_of_grown hgq))
          replace TS := Lib.hid (TS.out.on (below_of_grown hgq))
          generalize (wc.alloc (.cells #[.slice oa n ka, .slice ob n2 kb, .slice oc n3 kc, .int .i64 p, .slice om nm km, .slice (some ⟨bs, os, none⟩) m ks] 47)) = w5 at bq W BQg BQr TV TM TS ⊢
          generalize wc.heap.size = qc at bq ⊢
          have BQc := Lib.hid bq
          clear bq hgq

          have HCT := Lib.hid (show Ct w5 qc g (.slice oa n ka) (.slice ob n2 kb) (.slice oc n3 kc) p (.slice om nm km) (.slice (some ⟨bs, os, none⟩) m ks) moves S from ⟨BQc.out, TV.out, TM.out, TS.out⟩)
          clear BQc TV TM TS
          have hmk := run_makeMap (P := Try.prog) 48 w5
          go_wp2_with fail
          clear hmk
          have hlp : Lp w5 ((w5.alloc (.map #[] 0)).alloc (.cells #[.int .i64 (x0 : Int), .int .i64 0] 50)) g p moves S n m x0 (.slice none 0 0) w5.heap.size [] x0 0 (w5.heap.size + 1) (.map []) := {
            below := ((Below.refl _ w5).alloc (Nat.le_refl _) _).alloc (by simp) _
            way := OwnI.nil _ _
            map := (World.ownsMap_made w5 _ _ _).alloc _
            met := Met.start
            here := by
              have := Box.new (w5.alloc (.map #[] 0)) 50 #[.int .i64 (x0 : Int), .int .i64 0]
              simpa using this
            low := Nat.le_refl _
            high := Nat.le_succ _
            go := P.Way.start _ _
            ins := fun a h => (by cases h)
            hx := hx0
            hy := hm0 }
          obtain ⟨w6, hw6⟩ : ∃ w6, (w5.alloc (.map #[] 0)).alloc (.cells #[.int .i64 (x0 : Int), .int .i64 0] 50) = w6 := ⟨_, rfl⟩
          obtain ⟨qm, hqm⟩ : ∃ q, w5.heap.size = q := ⟨_, rfl⟩
          obtain ⟨qh, hqh⟩ : ∃ q, w5.heap.size + 1 = q := ⟨_, rfl⟩
          rw [hqh, hqm, hw6] at hlp
          rw [hqh, hqm, hw6]
          have HLP := Lib.hid hlp
          have HN200 := Lib.hid (show n ≤ 200 by have h := HR.out.many; rw [HN.out] at h; exact h)
          clear hlp hw6 hqm hqh
          go_loopw [15, 17] (fun vw vh wr => ∃ (l : List (Nat × Nat)) (x y qh : Nat) (D : DataW Nat), vh = .pointer (some ⟨qh, 0, none⟩) ∧ Lp w5 wr g p moves S n m x0 vw qm l x y qh D) (fun vw _ _ => 12801 - (match vw with | .slice _ k _ => k | _ => 0))
          case atStart => exact ⟨[], x0, 0, _, _, rfl, HLP.out⟩
          case round =>
            obtain ⟨l, x, y, qh, D, rfl, hlp⟩ := hrel
            have HLP := Lib.hid hlp
            obtain ⟨wo, wk, rfl, -⟩ := own_at hlp.way
            obtain ⟨k, hk⟩ : ∃ k, l.length = k := ⟨_, rfl⟩
            have hks := hlp.short HN200.out hm64
            rw [hk] at hks
            rw [List.length_map, hk]
            have hkl := key_mk (Nat.lt_of_lt_of_le hlp.hx (Nat.le_trans HN200.out (by decide))) (Nat.lt_of_lt_of_le hlp.hy (Nat.le_trans hm64 (by decide)))
            have hown := hlp.map
            have hlpmap := hlp.map
            have hx := hlp.hx
            have hy := hlp.hy
            rw [hk] at hown
            have HK := Lib.hid hk
            clear hk
            have hhas := hlp.met.has x y (Nat.lt_of_lt_of_le hlp.hx (Nat.le_trans HN200.out (by decide))) (Nat.lt_of_lt_of_le hlp.hy (Nat.le_trans hm64 (by decide)))
            have hc0 : wr.cell? ⟨qh, 0, none⟩ = some (.int .i64 (x : Int)) := hlp.here.cell 0 _ rfl
            have hc1 : wr.cell? ⟨qh, 1, none⟩ = some (.int .i64 (y : Int)) := hlp.here.cell 1 _ rfl
            have hf0 : wr.frozen? ⟨qh, 0, none⟩ = false := hlp.here.frozen 0
            have hf1 : wr.frozen? ⟨qh, 1, none⟩ = false := hlp.here.frozen 1
            clear hlp
            by_cases hmem : (x, y) ∈ l
            · have HMEM := Lib.hid hmem
              rw [decide_eq_true hmem] at hhas
              clear hmem
              go_wp2_with (first | (at_lookup; refine wpList_lookup_own_ok_int _ rfl _ _ 48 rfl 50 3 .i64 stand_law Try.underlying48 Try.underlying3 (zero_int _) qm k D rfl hown (standV x y) (kl x y) rfl hkl ?_; intro cL hat hwc; rw [hhas]) | fail)
              obtain ⟨i, hi⟩ := List.mem_iff_getElem?.1 HMEM.out
              have hil := (List.getElem?_eq_some_iff.1 hi).1
              rw [HK.out] at hil
              have hci : cL = (i : Int) := by
                have h1 := HLP.out.met.place i x y hi (Nat.lt_of_lt_of_le HLP.out.hx (Nat.le_trans HN200.out (by decide))) (Nat.lt_of_lt_of_le HLP.out.hy (Nat.le_trans hm64 (by decide)))
                rw [hat] at h1
                simpa using h1
              rw [hci]
              have hzs : (l.map fun a => (a.1 : Int)).length = k := by rw [List.length_map, HK.out]
              have hway := HLP.out.way
              rw [hzs] at hway
              obtain ⟨bw, kw, hwe, hlo, hlt, -⟩ := own_form hway (by rw [hzs]; omega)
              have hkw : k ≤ kw := by
                rcases hway.2 with ⟨h1, -⟩ | ⟨_, cap, _, h1, -, -, h2, -⟩
                · rw [hwe] at h1; cases h1
                · rw [hwe] at h1
                  injection h1 with _ _ h1
                  rw [h1, ← hzs]
                  exact h2
              rw [hzs] at hwe
              rw [hwe] at hway ⊢
              refine (tell_any g HR.out n HN.out qc _ _ _ p _ _ moves S _ (HCT.out.on HLP.out.below) (l.map fun a => (a.1 : Int)) (fun z hz => by
                obtain ⟨a, ha, rfl⟩ := List.mem_map.1 hz
                have := (HLP.out.ins a ha).1
                omega) bw 0 k kw i (hway.ints (by rw [hzs]; omega)) hzs hil hkw (by omega)).mono ?_
              rintro e w7 ⟨v1, v2, rfl, ho1, ho2, hap, hb⟩
              obtain ⟨A, hA⟩ : ∃ A, (l.map fun a => (a.1 : Int)).take i = A := ⟨_, rfl⟩
              obtain ⟨B, hB⟩ : ∃ B, (l.map fun a => (a.1 : Int)).drop i = B := ⟨_, rfl⟩
              have htp : topZ g 0 B % 2 = P.topS g 0 (l.drop i) % 2 := by rw [← hB, ← List.map_drop, topZ_map]
              rw [hB, htp]
              rw [hA] at ho1
              rw [hB] at ho2
              have HPP := Lib.hid (show P.PlayP g (x0 : Int) p moves script A B (P.topS g 0 (l.drop i) % 2) 0 from .inr (.inr ⟨HFI.out, by rw [HMS.out]; omega, .inl ⟨l, (x, y), i, by rw [HS.out]; exact HLP.out.go, hi, by rw [← hA, List.map_take], by rw [← hB, List.map_drop], rfl, rfl⟩⟩))
              obtain ⟨tq, htq⟩ : ∃ t, P.topS g 0 (l.drop i) % 2 = t := ⟨_, rfl⟩
              rw [htq] at HPP ⊢
              obtain ⟨a1, k1, e1, -⟩ := own_at ho1
              obtain ⟨a2, k2, e2, -⟩ := own_at ho2
              obtain ⟨n1, hn1⟩ : ∃ n, A.length = n := ⟨_, rfl⟩
              obtain ⟨n2', hn2⟩ : ∃ n, B.length = n := ⟨_, rfl⟩
              rw [hn1] at e1
              rw [hn2] at e2
              subst e1 e2
              have BQr7 := Lib.hid ((BQr.out.keep (grown_of_below HLP.out.below none)).keep (grown_of_below hb none))
              have W7 := Lib.hid ((W.out.trans (HLP.out.below.mono W.out.size)).trans (hb.mono (Nat.le_trans W.out.size HLP.out.below.size)))
              have hqr : qr < wr.heap.size := (BQr.out.keep (grown_of_below HLP.out.below none)).lt
              have HO1 := Lib.hid ho1
              have HO2 := Lib.hid ho2
              have HAP := Lib.hid hap
              clear hA hB htp htq hn1 hn2 ho1 ho2 hap hb hway hwe hkw hzs hat hwc hci hhas hown hlpmap hkl hi hil hlo hlt hc0 hc1 hf0 hf1
              have rc0 : w7.cell? ⟨qr, 0, none⟩ = some (.slice none 0 0) := BQr7.out.cell 0 _ rfl
              have rc1 : w7.cell? ⟨qr, 1, none⟩ = some (.slice none 0 0) := BQr7.out.cell 1 _ rfl
              have rc2 : w7.cell? ⟨qr, 2, none⟩ = some (.int .i64 0) := BQr7.out.cell 2 _ rfl
              have rf0 : w7.frozen? ⟨qr, 0, none⟩ = false := BQr7.out.frozen 0
              have rf1 : w7.frozen? ⟨qr, 1, none⟩ = false := BQr7.out.frozen 1
              have rf2 : w7.frozen? ⟨qr, 2, none⟩ = false := BQr7.out.frozen 2
              go_wp2_with fail
              have HBEL := Lib.hid (((W7.out.setCell (p := ⟨qr, 0, none⟩) HQR.out (.slice a1 n1 k1)).setCell (p := ⟨qr, 1, none⟩) HQR.out (.slice a2 n2' k2)).setCell (p := ⟨qr, 2, none⟩) HQR.out (.int .i64 tq))
              exact bodyPost_ret (v := .tuple #[.agg #[.slice a1 n1 k1, .slice a2 n2' k2, .int .i64 tq], .int .i64 0]) (by simp [results, Try.results9, go_sem, rc0, rc1, rc2]) rfl
                ⟨⟨_, _, A, B, tq, 0, rfl, own_more (ownsRow_setCell_below (ownsRow_setCell_below (ownsRow_setCell_below HO1.out hqr _) hqr _) hqr _) (Nat.le_trans W.out.size HLP.out.below.size), own_more (ownsRow_setCell_below (ownsRow_setCell_below (ownsRow_setCell_below HO2.out hqr _) hqr _) hqr _) (Nat.le_trans W.out.size HLP.out.below.size), HAP.out, HPP.out⟩, HBEL.out⟩
            · have HMEM := Lib.hid hmem
              rw [decide_eq_false hmem] at hhas
              clear hmem
              go_upto_region 16 with (first | (at_lookup; refine wpList_lookup_own_ok_int _ rfl _ _ 48 rfl 50 3 .i64 stand_law Try.underlying48 Try.underlying3 (zero_int _) qm k D rfl hown (standV x y) (kl x y) rfl hkl ?_; intro cL hat hwc; rw [hhas]; clear hat hwc) | (at_mapUpdate; refine wpList_mapUpdate_own _ rfl _ _ _ 48 rfl 50 3 stand_law Try.underlying48 _ qm k D rfl hown (by unfold maxLen; omega) (standV x y) (.int .i64 (k : Int)) (kl x y) rfl rfl hkl (i64D (k : Int)) [] (plainElem_int Try.underlying3 (wf_small2 hks)) ?_; intro w7 hown7 hgr7) | fail)
              simp only [Act.put]
              have hbx := HLP.out.here
              have hwy := HLP.out.way
              rw [List.length_map, HK.out] at hwy
              have HW7 := Lib.hid (hwy.kept hgr7 (row_ne_map hwy hlpmap))
              have HH7 := Lib.hid (hbx.grown hgr7 (fun e => map_ne_box hlpmap hbx (by injection e with e; exact e.symm)))
              have HB7 := Lib.hid (HLP.out.below.grown hgr7 HLP.out.below.size (fun k e => by injection e with e; rw [← e]; exact HLP.out.low))
              have HM7 := Lib.hid hown7
              clear hbx hwy hown7 hgr7 hown hkl hhas hc0 hc1 hf0 hf1
              have hc0 : w7.cell? ⟨qh, 0, none⟩ = some (.int .i64 (x : Int)) := HH7.out.cell 0 _ rfl
              have hc1 : w7.cell? ⟨qh, 1, none⟩ = some (.int .i64 (y : Int)) := HH7.out.cell 1 _ rfl
              have hf0 : w7.frozen? ⟨qh, 0, none⟩ = false := HH7.out.frozen 0
              have hf1 : w7.frozen? ⟨qh, 1, none⟩ = false := HH7.out.frozen 1
              go_wp2_with (at_builtin; refine wpl_append elInt rfl (.tmp 79) (.tmp 82) rfl rfl (own_grown HW7.out (World.grownBy_alloc _ _ none)) rfl (row_one w7 _ _) ?_ ?_ ?_ ?_ ?_)
              · first | rfl | (intro u hu; simp at hu; subst hu; rfl)
              · have := HK.out; first | omega | (simp; omega)
              · have := HK.out; first | omega | (simp; omega)
              · have := HB7.out.size; first | omega | (simp; omega)
              intro v8 w8 hown8 hgr8 hat8
              clear hat8 hc0 hc1 hf0 hf1
              go_upto_region 17 with (fail)
              have hga := World.grownBy_alloc w7 (.cells #[.int .i64 (x : Int)] 3) none
              have HW8 := Lib.hid (show OwnI w8 w5.heap.size v8 ((l ++ [(x, y)]).map fun a => (a.1 : Int)) by unfold OwnI; simpa using hown8)
              have HB8 := Lib.hid ((HB7.out.grown hga HB7.out.size (fun k e => by cases e)).grown hgr8 (Nat.le_trans HB7.out.size hga.size) (fun k e => (own_lt (own_grown HW7.out hga) k e).1))
              have HM8 := Lib.hid ((HM7.out.kept hga (by simp)).kept hgr8 (map_ne_row (HM7.out.kept hga (by simp)) (show OwnI _ w5.heap.size _ (l.map fun a => (a.1 : Int)) from own_grown HW7.out hga)))
              have HH8 := Lib.hid ((HH7.out.keep hga).grown hgr8 (box_ne_row (HH7.out.keep hga) (show OwnI _ w5.heap.size _ (l.map fun a => (a.1 : Int)) from own_grown HW7.out hga)))
              clear hown8 hgr8 hga HW7 HM7 HH7 HB7
              obtain ⟨vo8, vk8, hv8, -⟩ := own_at HW8.out
              obtain ⟨k8, hk8⟩ : ∃ k, ((l ++ [(x, y)]).map fun a => (a.1 : Int)).length = k := ⟨_, rfl⟩
              rw [hk8] at hv8
              have HK8 := Lib.hid (show k8 = k + 1 by rw [← hk8, List.length_map, List.length_append, HK.out]; rfl)
              rw [hv8] at HW8 ⊢
              clear hv8 hk8
              have hc0 : w8.cell? ⟨qh, 0, none⟩ = some (.int .i64 (x : Int)) := HH8.out.cell 0 _ rfl
              have hc1 : w8.cell? ⟨qh, 1, none⟩ = some (.int .i64 (y : Int)) := HH8.out.cell 1 _ rfl
              go_wp2_with fail
              refine (move_any g HR.out n HN.out qc _ _ _ p _ _ moves S w8 (HCT.out.on HB8.out) x y m hx HM.out hy hm64).mono ?_
              rintro e w9 ⟨rfl, hb⟩
              have HB9 := Lib.hid (HB8.out.trans (hb.mono HB8.out.size))
              have HW9 := Lib.hid (own_grown HW8.out (grown_of_below hb none))
              have HM9 := Lib.hid (HM8.out.kept (grown_of_below hb none) (by simp))
              have HH9 := Lib.hid (HH8.out.keep (grown_of_below hb none))
              clear hb HB8 HW8 HM8 HH8 hc0 hc1
              obtain ⟨nx, hnx⟩ : ∃ o, P.stepS g p moves S (x, y) = o := ⟨_, rfl⟩
              rw [hnx]
              have HNX := Lib.hid hnx
              clear hnx
              cases nx with
              | none =>
                simp only [stepV]
                go_upto_region 18 with (fail)
                have hb10 := HB9.out.alloc HB9.out.size (.cells #[.int .i64 0, .int .i64 0] 50)
                generalize w9.alloc (.cells #[.int .i64 0, .int .i64 0] 50) = w10 at hb10 ⊢
                have BQr10 := Lib.hid (BQr.out.keep (grown_of_below hb10 none))
                have W10 := Lib.hid (W.out.trans (hb10.mono W.out.size))
                clear hb10
                have rc0 : w10.cell? ⟨qr, 0, none⟩ = some (.slice none 0 0) := BQr10.out.cell 0 _ rfl
                have rc1 : w10.cell? ⟨qr, 1, none⟩ = some (.slice none 0 0) := BQr10.out.cell 1 _ rfl
                have rc2 : w10.cell? ⟨qr, 2, none⟩ = some (.int .i64 0) := BQr10.out.cell 2 _ rfl
                have rf0 : w10.frozen? ⟨qr, 0, none⟩ = false := BQr10.out.frozen 0
                have rf1 : w10.frozen? ⟨qr, 1, none⟩ = false := BQr10.out.frozen 1
                have rf2 : w10.frozen? ⟨qr, 2, none⟩ = false := BQr10.out.frozen 2
                go_wp2_with fail
                have HBEL := Lib.hid (((W10.out.setCell (p := ⟨qr, 0, none⟩) HQR.out (.slice none 0 0)).setCell (p := ⟨qr, 1, none⟩) HQR.out (.slice none 0 0)).setCell (p := ⟨qr, 2, none⟩) HQR.out (.int .i64 0))
                exact bodyPost_ret (v := .tuple #[.agg #[.slice none 0 0, .slice none 0 0, .int .i64 0], .int .i64 16]) (by simp [results, Try.results9, go_sem, rc0, rc1, rc2]) rfl ⟨RunV.bad (c := 16) (.inr (.inr ⟨HFI.out, by rw [HMS.out]; omega, .inr ⟨l, (x, y), by rw [HS.out]; exact HLP.out.go, by rw [HS.out]; exact HNX.out, rfl, rfl, rfl, rfl⟩⟩)) _ _, HBEL.out⟩
              | some b =>
                obtain ⟨x2, y2⟩ := b
                simp only [stepV]
                go_upto_region 18 with (fail)
                have hbn : Box (w9.alloc (.cells #[.int .i64 (x2 : Int), .int .i64 (y2 : Int)] 50)) w9.heap.size 50 #[.int .i64 (x2 : Int), .int .i64 (y2 : Int)] := Box.new _ _ _
                have hb10 := HB9.out.alloc HB9.out.size (.cells #[.int .i64 (x2 : Int), .int .i64 (y2 : Int)] 50)
                have hw10 := own_grown HW9.out (World.grownBy_alloc w9 (.cells #[.int .i64 (x2 : Int), .int .i64 (y2 : Int)] 50) none)
                have hm10 := HM9.out.alloc (.cells #[.int .i64 (x2 : Int), .int .i64 (y2 : Int)] 50)
                have hh10 := HH9.out.alloc (.cells #[.int .i64 (x2 : Int), .int .i64 (y2 : Int)] 50)
                generalize w9.alloc (.cells #[.int .i64 (x2 : Int), .int .i64 (y2 : Int)] 50) = w10 at hbn hb10 hw10 hm10 hh10 ⊢
                generalize w9.heap.size = qn at hbn ⊢
                have HBN := Lib.hid hbn
                have HB10 := Lib.hid hb10
                have HW10 := Lib.hid hw10
                have HM10 := Lib.hid hm10
                have HH10 := Lib.hid hh10
                clear hbn hb10 hw10 hm10 hh10 HB9 HW9 HM9 HH9
                have nc0 : w10.cell? ⟨qn, 0, none⟩ = some (.int .i64 (x2 : Int)) := HBN.out.cell 0 _ rfl
                have nc1 : w10.cell? ⟨qn, 1, none⟩ = some (.int .i64 (y2 : Int)) := HBN.out.cell 1 _ rfl
                have hc0 : w10.cell? ⟨qh, 0, none⟩ = some (.int .i64 (x : Int)) := HH10.out.cell 0 _ rfl
                have hc1 : w10.cell? ⟨qh, 1, none⟩ = some (.int .i64 (y : Int)) := HH10.out.cell 1 _ rfl
                have hf0 : w10.frozen? ⟨qh, 0, none⟩ = false := HH10.out.frozen 0
                have hf1 : w10.frozen? ⟨qh, 1, none⟩ = false := HH10.out.frozen 1
                go_wp2_with fail
                have hqq : qm ≠ qh := map_ne_box HM10.out HH10.out
                have hin := P.stepS_in HR.out HN.out (show 0 < S.length by rw [HM.out]; exact hm0) ⟨hx, by rw [HM.out]; exact hy⟩ HNX.out
                rw [HM.out] at hin
                have hmet := HLP.out.met.next (Nat.lt_of_lt_of_le hx (Nat.le_trans HN200.out (by decide))) (Nat.lt_of_lt_of_le hy (Nat.le_trans hm64 (by decide))) HMEM.out
                rw [HK.out] at hmet
                refine ⟨⟨l ++ [(x, y)], x2, y2, _, _, rfl, {
                  below := ((HB10.out.setCell (p := ⟨qh, 0, none⟩) HLP.out.high _).setCell (p := ⟨qh, 1, none⟩) HLP.out.high _).alloc (by simp only [World.size_setCell]; exact HB10.out.size) _
                  way := own_grown (own_set (own_set HW10.out HH10.out (by decide) 0 _) (HH10.out.set 0 _) (by decide) 1 _) (World.grownBy_alloc _ _ none)
                  map := by
                    rw [List.length_append, HK.out]
                    exact ((HM10.out.setCell hqq _).setCell hqq _).alloc _
                  met := hmet
                  here := by
                    have := Box.new ((w10.setCell ⟨qh, 0, none⟩ (.int .i64 (x2 : Int))).setCell ⟨qh, 1, none⟩ (.int .i64 (y2 : Int))) 50 #[.int .i64 (x2 : Int), .int .i64 (y2 : Int)]
                    simpa using this
                  low := HLP.out.low
                  high := HB10.out.size
                  go := HLP.out.go.next HMEM.out HNX.out
                  ins := fun a ha => by
                    rcases List.mem_append.1 ha with ha | ha
                    · exact HLP.out.ins a ha
                    · rw [List.mem_singleton.1 ha]
                      exact ⟨hx, hy⟩
                  hx := hin.1.1
                  hy := hin.1.2 }⟩, ?_⟩
                show 12801 - k8 < 12801 - k
                have := HK8.out
                omega
end W
end Go.Proofs.Ytghdjkpndhcplaa
