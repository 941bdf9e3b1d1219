/- ScanPieces: each token stands in the text where it says, and what stands between begins none. -/
import Derived.Test.YtbimjejidlohnaaDoorUpTo
import Derived.Test.YtbimjejidlohnaaDoorPieces
import Derived.Deep.QuietTactic
import Derived.BigQuiet
import Derived.Laws.BitsLemmas
namespace Go.Proofs.YtbimjejidlohnaaDoor
open Go.RowKit
namespace W

theorem wrap_in {x : Int} (h1 : -9223372036854775808 ≤ x) (h2 : x ≤ 9223372036854775807) : IntKind.i64.wrap x = x := by
  rw [IntKind.wrap_i64]
  omega
set_option maxRecDepth 100000 in
set_option maxHeartbeats 600000 in
theorem pieces_bad (b : ByteArray) (hb : b.size ≤ 140737488351232) (k er : Nat) (hs : P.scanAll b = .error (k, er)) (hk : k ≤ b.size) (h3 : 0 < er) (w : World) (hg : Handle w) : Calls Tryd.prog 4 #[.string b] w fun e w' => e = .returned (.bool true) ∧ Below w.heap.size w w' := by
  have f1 : (((er : Nat) : Int) != 0) = true := by rw [bne_iff_ne]; omega
  have f2 : decide (((k : Nat) : Int) ≤ (b.size : Int)) = true := decide_eq_true (by omega)
  have f3 : decide ((0 : Int) ≤ (k : Int)) = true := decide_eq_true (by omega)
  go_enter Tryd.func4, Tryd.ntmps4
  go_wp2_with fail
  refine (shown_any _ hg).mono ?_
  rintro e w1 ⟨rfl, hb1⟩
  have HB1 := Lib.hid hb1
  clear hb1
  go_wp2_with fail
  refine (all_bad hs (by omega) _).mono ?_
  rintro e w2 ⟨g, rfl, hf, hb2⟩
  have HB2 := Lib.hid (HB1.out.trans (hb2.mono HB1.out.size))
  have HF := Lib.hid hf
  have HS := Lib.hid hs
  clear hf hb2 hs
  go_wp2_with fail
  refine (fault_at g k er _ HF.out (hg.on HB2.out)).mono ?_
  rintro e w3 ⟨rfl, hb3⟩
  have HB3 := Lib.hid (HB2.out.trans (hb3.mono HB2.out.size))
  clear hb3
  go_wp2_with fail
  go_ret
  exact ⟨rfl, HB3.out⟩

set_option maxRecDepth 100000 in
set_option maxHeartbeats 600000 in
theorem pieces_ok (b : ByteArray) (hb : b.size ≤ 140737488351232) (l : List P.Tok) (hs : P.scanAll b = .ok l) (w : World) (hg : Handle w) : Calls Tryd.prog 4 #[.string b] w fun e w' => e = .returned (.bool true) ∧ Below w.heap.size w w' := by
  have hlen := P.scanAll_len hs
  have hpos := scanAll_ne hs
  have hpc := P.scanAll_pieces hs
  go_enter Tryd.func4, Tryd.ntmps4
  go_wp2_with fail
  refine (shown_any _ hg).mono ?_
  rintro e w1 ⟨rfl, hb1⟩
  have HB1 := Lib.hid hb1
  clear hb1
  go_wp2_with fail
  refine (all_ok hs (by omega) _).mono ?_
  rintro e w2 ⟨g, cap, rfl, _, hcap, ht, hb2⟩
  have HT := Lib.hid ht
  have HB2 := Lib.hid (HB1.out.trans (hb2.mono HB1.out.size))
  have HS := Lib.hid hs
  clear ht hb2 hs
  obtain ⟨n, hn⟩ : ∃ n, l.length = n := ⟨_, rfl⟩
  rw [hn] at hcap hlen hpos ⊢
  have hn1 := hlen.1
  have hn2 := hlen.2
  have HN := Lib.hid hn
  have HP := Lib.hid hpc
  clear hlen hn hpc
  go_wp2_with fail
  go_loopw [8, 9] (fun a i wr => ∃ (p j : Nat), a = .int .i64 p ∧ i = .int .i64 j ∧ j ≤ n ∧ P.Pieces b p (l.drop j) ∧ Below w2.heap.size w2 wr) (fun _ i _ => n - (intOf i).toNat)
  case atStart => exact ⟨0, 0, rfl, rfl, Nat.zero_le _, HP.out, Below.refl _ _⟩
  case round =>
    obtain ⟨p, j, rfl, rfl, hj, hpc, hbw⟩ := hrel
    have HW := Lib.hid hbw
    clear hbw
    have hj0 : (0 : Int) ≤ (j : Int) := Int.natCast_nonneg _
    by_cases hlt : j < n
    · have hjl : j < l.length := by rw [HN.out]; exact hlt
      obtain ⟨t, ht⟩ : ∃ t, l[j]? = some t := ⟨l[j], by simp [hjl]⟩
      have hdr : l.drop j = t :: l.drop (j + 1) := by
        rw [List.drop_eq_getElem_cons hjl]
        congr 1
        rw [List.getElem?_eq_getElem hjl] at ht
        exact Option.some.inj ht
      rw [hdr] at hpc
      obtain ⟨p1, p2, p3, p4, p5, p6, p7⟩ := hpc
      have hlast : t.kind = 0 ↔ j + 1 = n := by
        rw [p4, List.drop_eq_nil_iff, HN.out]
        omega
      have a0 : wr.cell? ⟨g, j * 4, none⟩ = some (.int .i64 ((t.kind : Nat) : Int)) := (HW.out.cell (p := ⟨g, j * 4 + 0, none⟩) HT.out.lt).trans (HT.out.c j t ht 0 _ rfl)
      have a1 : wr.cell? ⟨g, j * 4 + 1, none⟩ = some (.int .i64 ((t.place : Nat) : Int)) := (HW.out.cell (p := ⟨g, j * 4 + 1, none⟩) HT.out.lt).trans (HT.out.c j t ht 1 _ rfl)
      have a2 : wr.cell? ⟨g, j * 4 + 2, none⟩ = some (.string t.text) := (HW.out.cell (p := ⟨g, j * 4 + 2, none⟩) HT.out.lt).trans (HT.out.c j t ht 2 _ rfl)
      have a3 : wr.cell? ⟨g, j * 4 + 3, none⟩ = some (.int .i64 ((t.number : Nat) : Int)) := (HW.out.cell (p := ⟨g, j * 4 + 3, none⟩) HT.out.lt).trans (HT.out.c j t ht 3 _ rfl)
      have i1 : (j : Int) < (n : Int) := by omega
      have hsl : ∀ w, (Instr.slice 9 (.string b) (some (.int .i64 ((t.place : Nat) : Int))) (some (.int .i64 (((t.place : Nat) : Int) + ((t.text.size : Nat) : Int)))) none).run Tryd.prog w = .ok (.string t.text) w := fun w => by
        have := sl_any b t.place (t.place + t.text.size) (Nat.le_add_right _ _) p2 (t.place : Int) ((t.place : Int) + (t.text.size : Int)) rfl (by omega) w
        rw [← p3] at this
        exact this
      have g1 : decide (((t.place : Nat) : Int) < (p : Int)) = false := decide_eq_false (by omega)
      have g2 : decide ((b.size : Int) < ((t.place : Nat) : Int) + ((t.text.size : Nat) : Int)) = false := decide_eq_false (by omega)
      have hwr : IntKind.i64.wrap (((t.place : Nat) : Int) + ((t.text.size : Nat) : Int)) = ((t.place : Nat) : Int) + ((t.text.size : Nat) : Int) := wrap_in (by omega) (by omega)
      have g1n : decide (t.place < p) = false := decide_eq_false (by omega)
      have g2n : decide (b.size < t.place + t.text.size) = false := decide_eq_false (by omega)
      have HD := Lib.hid hdr
      have HG := Lib.hid p6
      have H7 := Lib.hid p7
      have H3 := Lib.hid p3
      have HTJ := Lib.hid ht
      clear p6 p7 p3 ht hdr p4
      by_cases hk0 : t.kind = 0
      · have g3 : (((t.kind : Nat) : Int) == 0) = true := by rw [beq_iff_eq]; omega
        have g4 : (((j : Nat) : Int) == (n : Int) - 1) = true := by rw [beq_iff_eq]; omega
        have g5 : (((t.text.size : Nat) : Int) == 0) = true := by rw [beq_iff_eq]; omega
        clear hk0
        go_wp2_with fail
        go_quiet (fail)
        go_wp2_with fail
        generalize hW5 : (wr.alloc (.cells #[.int .i64 ((t.kind : Nat) : Int), .int .i64 ((t.place : Nat) : Int), .string t.text, .int .i64 ((t.number : Nat) : Int)] 35)).drewN nq = W5
        have ht5 : TokAt W5 wr.heap.size t := by rw [← hW5]; exact TokAt.new wr t
        have hb5 : Below w2.heap.size w2 W5 := by rw [← hW5]; exact below_drewN (HW.out.alloc HW.out.size _) _
        have HT5 := Lib.hid ht5
        have HB5 := Lib.hid hb5
        clear ht5 hb5 hW5 a0 a1 a2 a3 hsl
        generalize wr.heap.size = gt at HT5 ⊢
        obtain ⟨m, q1, q2, q3, q4⟩ := HG.out
        have Q3 := Lib.hid q3
        have Q4 := Lib.hid q4
        clear q3 q4
        go_loopw [11, 12] (fun r k wr => ∃ (q : Nat) (rb : Bool), k = .int .i64 q ∧ p ≤ q ∧ q ≤ t.place ∧ r = .bool rb ∧ rb = decide (m < q) ∧ Below W5.heap.size W5 wr) (fun _ k _ => t.place - (intOf k).toNat)
        case atStart => exact ⟨p, false, rfl, Nat.le_refl _, p1, rfl, (decide_eq_false (by omega)).symm, Below.refl _ _⟩
        case round =>
          obtain ⟨q, rb, rfl, hq1, hq2, rfl, hrb, hbv⟩ := hrel
          have HV := Lib.hid hbv
          have e1 := (HT5.out.on hbv).c1
          have e2 := (HT5.out.on hbv).c2
          clear hbv
          have hq0 : (0 : Int) ≤ (q : Int) := Int.natCast_nonneg _
          by_cases hqt : q < t.place
          · have gq : decide ((q : Int) < ((t.place : Nat) : Int)) = true := decide_eq_true (by omega)
            have iq : (q : Int) < (b.size : Int) := by omega
            have ix := ix_byte b q (by omega)
            by_cases hm1 : q < m
            · have hf : rb = false := by rw [hrb]; exact decide_eq_false (by omega)
              subst hf
              clear hrb
              rcases Q3.out q hq1 hm1 with hx | hx
              · rw [hx] at ix
                clear hx
                go_wp2_with fail
                go_roundw
                case rel => exact ⟨q + 1, false, by go_num, by omega, by omega, rfl, (decide_eq_false (by omega)).symm, HV.out⟩
                case measure => simp [intOf]; omega
              · rw [hx] at ix
                clear hx
                go_wp2_with fail
                go_roundw
                case rel => exact ⟨q + 1, false, by go_num, by omega, by omega, rfl, (decide_eq_false (by omega)).symm, HV.out⟩
                case measure => simp [intOf]; omega
            · rcases Q4.out with hx | ⟨hx1, hx2⟩
              · omega
              · by_cases hm2 : q = m
                · have hf : rb = false := by rw [hrb]; exact decide_eq_false (by omega)
                  subst hf
                  clear hrb
                  rw [hm2, hx1, ← hm2] at ix
                  have HX := Lib.hid hx2
                  have HM := Lib.hid hm2
                  clear hx1 hx2 hm2
                  go_wp2_with fail
                  go_roundw
                  case rel => exact ⟨q + 1, true, by go_num, by omega, by omega, rfl, (decide_eq_true (by have := HM.out; omega)).symm, HV.out⟩
                  case measure => simp [intOf]; omega
                · have hf : rb = true := by rw [hrb]; exact decide_eq_true (by omega)
                  subst hf
                  clear hrb
                  have hn10 := hx2 q (by omega) hqt
                  have gx : (((P.byt b q : Nat) : Int) == 10) = false := by rw [beq_eq_false_iff_ne]; omega
                  have HX := Lib.hid hx2
                  clear hx1 hx2 hn10
                  go_wp2_with fail
                  go_roundw
                  case rel => exact ⟨q + 1, true, by go_num, by omega, by omega, rfl, (decide_eq_true (by omega)).symm, HV.out⟩
                  case measure => simp [intOf]; omega
          · have gq : decide ((q : Int) < ((t.place : Nat) : Int)) = false := decide_eq_false (by omega)
            clear hrb
            go_wp2_with fail
            go_roundw
            case rel => exact ⟨t.place + t.text.size, j + 1, by go_num, by go_num, by omega, H7.out, HB5.out.trans (HV.out.mono HB5.out.size)⟩
            case measure => simp [intOf]; omega
      · have g3 : (((t.kind : Nat) : Int) == 0) = false := by rw [beq_eq_false_iff_ne]; omega
        have g4 : (((j : Nat) : Int) == (n : Int) - 1) = false := by rw [beq_eq_false_iff_ne]; omega
        have g5 : (((t.text.size : Nat) : Int) == 0) = false := by rw [beq_eq_false_iff_ne]; omega
        clear hk0
        go_wp2_with fail
        go_quiet (fail)
        go_wp2_with fail
        generalize hW5 : (wr.alloc (.cells #[.int .i64 ((t.kind : Nat) : Int), .int .i64 ((t.place : Nat) : Int), .string t.text, .int .i64 ((t.number : Nat) : Int)] 35)).drewN nq = W5
        have ht5 : TokAt W5 wr.heap.size t := by rw [← hW5]; exact TokAt.new wr t
        have hb5 : Below w2.heap.size w2 W5 := by rw [← hW5]; exact below_drewN (HW.out.alloc HW.out.size _) _
        have HT5 := Lib.hid ht5
        have HB5 := Lib.hid hb5
        clear ht5 hb5 hW5 a0 a1 a2 a3 hsl
        generalize wr.heap.size = gt at HT5 ⊢
        obtain ⟨m, q1, q2, q3, q4⟩ := HG.out
        have Q3 := Lib.hid q3
        have Q4 := Lib.hid q4
        clear q3 q4
        go_loopw [11, 12] (fun r k wr => ∃ (q : Nat) (rb : Bool), k = .int .i64 q ∧ p ≤ q ∧ q ≤ t.place ∧ r = .bool rb ∧ rb = decide (m < q) ∧ Below W5.heap.size W5 wr) (fun _ k _ => t.place - (intOf k).toNat)
        case atStart => exact ⟨p, false, rfl, Nat.le_refl _, p1, rfl, (decide_eq_false (by omega)).symm, Below.refl _ _⟩
        case round =>
          obtain ⟨q, rb, rfl, hq1, hq2, rfl, hrb, hbv⟩ := hrel
          have HV := Lib.hid hbv
          have e1 := (HT5.out.on hbv).c1
          have e2 := (HT5.out.on hbv).c2
          clear hbv
          have hq0 : (0 : Int) ≤ (q : Int) := Int.natCast_nonneg _
          by_cases hqt : q < t.place
          · have gq : decide ((q : Int) < ((t.place : Nat) : Int)) = true := decide_eq_true (by omega)
            have iq : (q : Int) < (b.size : Int) := by omega
            have ix := ix_byte b q (by omega)
            by_cases hm1 : q < m
            · have hf : rb = false := by rw [hrb]; exact decide_eq_false (by omega)
              subst hf
              clear hrb
              rcases Q3.out q hq1 hm1 with hx | hx
              · rw [hx] at ix
                clear hx
                go_wp2_with fail
                go_roundw
                case rel => exact ⟨q + 1, false, by go_num, by omega, by omega, rfl, (decide_eq_false (by omega)).symm, HV.out⟩
                case measure => simp [intOf]; omega
              · rw [hx] at ix
                clear hx
                go_wp2_with fail
                go_roundw
                case rel => exact ⟨q + 1, false, by go_num, by omega, by omega, rfl, (decide_eq_false (by omega)).symm, HV.out⟩
                case measure => simp [intOf]; omega
            · rcases Q4.out with hx | ⟨hx1, hx2⟩
              · omega
              · by_cases hm2 : q = m
                · have hf : rb = false := by rw [hrb]; exact decide_eq_false (by omega)
                  subst hf
                  clear hrb
                  rw [hm2, hx1, ← hm2] at ix
                  have HX := Lib.hid hx2
                  have HM := Lib.hid hm2
                  clear hx1 hx2 hm2
                  go_wp2_with fail
                  go_roundw
                  case rel => exact ⟨q + 1, true, by go_num, by omega, by omega, rfl, (decide_eq_true (by have := HM.out; omega)).symm, HV.out⟩
                  case measure => simp [intOf]; omega
                · have hf : rb = true := by rw [hrb]; exact decide_eq_true (by omega)
                  subst hf
                  clear hrb
                  have hn10 := hx2 q (by omega) hqt
                  have gx : (((P.byt b q : Nat) : Int) == 10) = false := by rw [beq_eq_false_iff_ne]; omega
                  have HX := Lib.hid hx2
                  clear hx1 hx2 hn10
                  go_wp2_with fail
                  go_roundw
                  case rel => exact ⟨q + 1, true, by go_num, by omega, by omega, rfl, (decide_eq_true (by omega)).symm, HV.out⟩
                  case measure => simp [intOf]; omega
          · have gq : decide ((q : Int) < ((t.place : Nat) : Int)) = false := decide_eq_false (by omega)
            clear hrb
            go_wp2_with fail
            go_roundw
            case rel => exact ⟨t.place + t.text.size, j + 1, by go_num, by go_num, by omega, H7.out, HB5.out.trans (HV.out.mono HB5.out.size)⟩
            case measure => simp [intOf]; omega
    · obtain rfl : j = n := by omega
      have hend : p = b.size := by
        rw [List.drop_eq_nil_of_le (by rw [HN.out]; exact Nat.le_refl _)] at hpc
        exact hpc
      have fe : (((p : Nat) : Int) == ((b.size : Nat) : Int)) = true := by rw [beq_iff_eq]; omega
      have fp : decide ((0 : Int) < (j : Int)) = true := decide_eq_true (by omega)
      clear hpc hend
      go_wp2_with fail
      go_ret
      exact ⟨rfl, HB2.out.trans (HW.out.mono HB2.out.size)⟩

theorem pieces_any (b : ByteArray) (hb : b.size ≤ 140737488351232) (w : World) (hg : Handle w) : Calls Tryd.prog 4 #[.string b] w fun e w' => e = .returned (.bool true) ∧ Below w.heap.size w w' := by
  cases hs : P.scanAll b with
  | ok l => exact pieces_ok b hb l hs w hg
  | error x =>
    obtain ⟨k, er⟩ := x
    rcases P.scanAll_upto hs with ⟨rfl, rfl, h⟩ | ⟨h1, h2, h3, h4, l, h5⟩
    · exact pieces_bad b hb _ _ hs (by omega) (by omega) w hg
    · exact pieces_bad b hb k er hs (by omega) (by omega) w hg
end W
end Go.Proofs.YtbimjejidlohnaaDoor
