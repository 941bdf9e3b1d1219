/- Which game is right: the document's answer. -/
import Derived.Test.YtghdjkpndhcplaaCheck
namespace Go.Proofs.Ytghdjkpndhcplaa
open Go.RowKit
namespace W

set_option maxRecDepth 100000 in
set_option maxHeartbeats 1000000 in
theorem rright_any (g : P.G) (v : Value) (w : World) (hv : GameV w v g) :
    Calls Try.prog 20 #[v] w fun e w' => e = .returned (.tuple #[.int .i64 ((g.right.1 : Nat) : Int), .int .i64 ((g.right.2 : Nat) : Int)]) ∧ Below w.heap.size w w' := by
  obtain ⟨a, b, c, rfl, ⟨ao, ca, rfl, hza, ha⟩, ⟨bo, cb, rfl, hzb, hb⟩, ⟨co, cc, rfl, hzc, hc⟩⟩ := hv
  have HA := Lib.hid ha
  have HBB := Lib.hid hb
  have HC := Lib.hid hc
  clear ha hb hc
  unfold P.G.right
  by_cases h1 : g.prio.length = g.owner.length
  · by_cases h2 : g.moves.length = g.owner.length
    · rw [if_neg (by omega)]
      have H1 := Lib.hid h1
      have H2 := Lib.hid h2
      by_cases hs : g.owner.length < 1
      · rw [if_pos (.inl hs)]
        have f0 : (((g.prio.length : Nat) : Int) != ((g.owner.length : Nat) : Int)) = false := by rw [bne_eq_false_iff_eq]; omega
        have f1 : (((g.moves.length : Nat) : Int) != ((g.owner.length : Nat) : Int)) = false := by rw [bne_eq_false_iff_eq]; omega
        have f2 : (((g.owner.length : Nat) : Int) == 0) = true := by rw [beq_iff_eq]; omega
        clear h1 h2
        go_enter Try.func20, Try.ntmps20
        go_wp2_with fail
        go_ret2
        exact ⟨rfl, (Below.refl _ _).alloc (Nat.le_refl _) _⟩
      · by_cases hl : 200 < g.owner.length
        · rw [if_pos (.inr hl)]
          have f0 : (((g.prio.length : Nat) : Int) != ((g.owner.length : Nat) : Int)) = false := by rw [bne_eq_false_iff_eq]; omega
          have f1 : (((g.moves.length : Nat) : Int) != ((g.owner.length : Nat) : Int)) = false := by rw [bne_eq_false_iff_eq]; omega
          have f2 : (((g.owner.length : Nat) : Int) == 0) = false := by rw [beq_eq_false_iff_ne]; omega
          have f3 : decide ((200 : Int) < ((g.owner.length : Nat) : Int)) = true := decide_eq_true (by omega)
          clear h1 h2
          go_enter Try.func20, Try.ntmps20
          go_wp2_with fail
          go_ret2
          exact ⟨rfl, (Below.refl _ _).alloc (Nat.le_refl _) _⟩
        · rw [if_neg (by omega)]
          obtain ⟨n, hn⟩ : ∃ n, g.owner.length = n := ⟨_, rfl⟩
          rw [h1, h2, hn]
          rw [hn] at hs hl
          have f2 : (((n : Nat) : Int) == 0) = false := by rw [beq_eq_false_iff_ne]; omega
          have HNN := Lib.hid hn
          clear h1 h2 hn hza hzb hzc
          go_enter Try.func20, Try.ntmps20
          go_wp2_with fail
          generalize hW : w.alloc (.cells #[.slice ao n ca, .slice bo n cb, .slice co n cc] 25) = W
          have hb : Below w.heap.size w W := by rw [← hW]; exact (Below.refl _ _).alloc (Nat.le_refl _) _
          have k0 : W.cell? ⟨w.heap.size, 0, none⟩ = some (.slice ao n ca) := by rw [← hW]; simp
          have k1 : W.cell? ⟨w.heap.size, 1, none⟩ = some (.slice bo n cb) := by rw [← hW]; simp
          have k2 : W.cell? ⟨w.heap.size, 2, none⟩ = some (.slice co n cc) := by rw [← hW]; simp
          have HB := Lib.hid hb
          clear hb hW
          go_loopw [5] (fun i wr => ∃ j : Nat, j ≤ n ∧ i = .int .i64 j ∧ g.first n 0 = g.first (n - j) j ∧ wr = W) (fun i _ => n - (intOf i).toNat)
          case atStart => exact ⟨0, Nat.zero_le _, rfl, rfl, by first | trivial | rfl⟩
          case round =>
            obtain ⟨j, hj, rfl, he, hw⟩ := hrel
            obtain rfl : W = wr := hw.symm
            have HE := Lib.hid he
            clear he hw
            have hj0 : (0 : Int) ≤ (j : Int) := Int.natCast_nonneg _
            by_cases hlt2 : j < n
            · have fj : decide ((j : Int) < (n : Int)) = true := decide_eq_true (by omega)
              have i1 : (j : Int) < (n : Int) := by omega
              have hio : j < g.owner.length := by rw [HNN.out]; exact hlt2
              have hip : j < g.prio.length := by rw [H1.out]; exact hio
              have him : j < g.moves.length := by rw [H2.out]; exact hio
              obtain ⟨ba, oa, rfl, la, ka⟩ := HA.out.resolve_left (fun e => by rw [e] at hio; exact absurd hio (Nat.not_lt_zero j))
              obtain ⟨bb, ob, rfl, lb, kb⟩ := HBB.out.resolve_left (fun e => by rw [e] at hip; exact absurd hip (Nat.not_lt_zero j))
              obtain ⟨bc, oc, rfl, lc, kc⟩ := HC.out.resolve_left (fun e => by rw [e] at him; exact absurd him (Nat.not_lt_zero j))
              obtain ⟨o, ho⟩ : ∃ o, g.owner.getD j 0 = o := ⟨_, rfl⟩
              obtain ⟨p, hp⟩ : ∃ p, g.prio.getD j 0 = p := ⟨_, rfl⟩
              obtain ⟨l, hll⟩ : ∃ l, g.moves.getD j [] = l := ⟨_, rfl⟩
              obtain ⟨x, c3', hx⟩ := kc j him
              rw [hll] at hx
              have c1 : W.cell? ⟨ba, oa + j, none⟩ = some (.int .i64 o) := by rw [← ho]; exact (HB.out.cell (p := ⟨ba, oa + j, none⟩) la).trans (ka j hio)
              have c2 : W.cell? ⟨bb, ob + j, none⟩ = some (.int .i64 p) := by rw [← hp]; exact (HB.out.cell (p := ⟨bb, ob + j, none⟩) lb).trans (kb j hip)
              obtain ⟨xo, xc, rfl, hzl, hxl⟩ := hx
              have c3 : W.cell? ⟨bc, oc + j, none⟩ = some (.slice xo l.length xc) := (HB.out.cell (p := ⟨bc, oc + j, none⟩) lc).trans c3'
              have HXL := Lib.hid hxl
              have hck : g.check j = P.check (n : Int) o p l := by unfold P.G.check; rw [HNN.out, ho, hp, hll]
              clear ka kb kc c3' hxl ho hp hll hio hip him
              by_cases o1 : o ≠ 0 ∧ o ≠ 1
              · have d0 : (o != 0) = true := by rw [bne_iff_ne]; exact o1.1
                have d1 : (o != 1) = true := by rw [bne_iff_ne]; exact o1.2
                have hq : P.check (n : Int) o p l = 14 := by unfold P.check; rw [if_pos o1]
                clear o1
                have HF := Lib.hid (show g.first n 0 = (j, 14) by rw [HE.out, show n - j = (n - (j + 1)) + 1 by omega, P.G.first_bad (by rw [hck, hq]; decide), hck, hq])
                clear hck
                go_wp2_with fail
                go_ret2
                exact ⟨by rw [HF.out]; rfl, HB.out⟩
              · have dd : (o != 0) = false ∨ ((o != 0) = true ∧ (o != 1) = false) := by
                  by_cases z : o = 0
                  · left; rw [bne_eq_false_iff_eq]; exact z
                  · right; exact ⟨by rw [bne_iff_ne]; exact z, by rw [bne_eq_false_iff_eq]; omega⟩
                by_cases p1 : p < 0 ∨ 7 < p
                · have hq : P.check (n : Int) o p l = 15 := by unfold P.check; rw [if_neg o1, if_pos p1]
                  clear o1
                  have ee : decide (p < 0) = true ∨ (decide (p < 0) = false ∧ decide (7 < p) = true) := by
                    by_cases z : p < 0
                    · left; exact decide_eq_true z
                    · right; exact ⟨decide_eq_false z, decide_eq_true (by omega)⟩
                  clear p1
                  have HF := Lib.hid (show g.first n 0 = (j, 15) by rw [HE.out, show n - j = (n - (j + 1)) + 1 by omega, P.G.first_bad (by rw [hck, hq]; decide), hck, hq])
                  clear hck hq
                  rcases dd with d0 | ⟨d0, d1⟩
                  all_goals rcases ee with e0 | ⟨e0, e1⟩
                  all_goals
                    go_wp2_with fail
                    go_ret2
                    exact ⟨by rw [HF.out]; rfl, HB.out⟩
                · have e0 : decide (p < 0) = false := decide_eq_false (by omega)
                  have e1 : decide (7 < p) = false := decide_eq_false (by omega)
                  by_cases hl0 : l = []
                  · have hq : P.check (n : Int) o p l = 17 := by unfold P.check; rw [if_neg o1, if_neg p1, if_pos hl0]
                    have e2 : (((l.length : Nat) : Int) == 0) = true := by rw [beq_iff_eq, hl0]; rfl
                    have HF := Lib.hid (show g.first n 0 = (j, 17) by rw [HE.out, show n - j = (n - (j + 1)) + 1 by omega, P.G.first_bad (by rw [hck, hq]; decide), hck, hq])
                    clear hck hq hl0 o1 p1
                    rcases dd with d0 | ⟨d0, d1⟩
                    all_goals
                      go_wp2_with fail
                      go_ret2
                      exact ⟨by rw [HF.out]; rfl, HB.out⟩
                  · have hlen : 0 < l.length := List.length_pos_iff.2 hl0
                    have e2 : (((l.length : Nat) : Int) == 0) = false := by rw [beq_eq_false_iff_ne]; omega
                    have hbad : P.rise (n : Int) (-1) l = false → g.first n 0 = (j, 16) := fun hr => by
                      have hq : P.check (n : Int) o p l = 16 := by unfold P.check; rw [if_neg o1, if_neg p1, if_neg hl0, if_neg (by rw [hr]; decide)]
                      rw [HE.out, show n - j = (n - (j + 1)) + 1 by omega, P.G.first_bad (by rw [hck, hq]; decide), hck, hq]
                    have hgood : P.rise (n : Int) (-1) l = true → g.first n 0 = g.first (n - (j + 1)) (j + 1) := fun hr => by
                      have hq : P.check (n : Int) o p l = 0 := by unfold P.check; rw [if_neg o1, if_neg p1, if_neg hl0, if_pos hr]
                      rw [HE.out, show n - j = (n - (j + 1)) + 1 by omega, P.G.first_ok (by rw [hck, hq])]
                    have HBAD := Lib.hid hbad
                    have HGOOD := Lib.hid hgood
                    obtain ⟨bx, ox, rfl, lx, kx⟩ := HXL.out.resolve_left hl0
                    have HKX := Lib.hid kx
                    clear hck hbad hgood hl0 o1 p1 kx
                    rcases dd with d0 | ⟨d0, d1⟩
                    all_goals
                      go_wp2_with fail
                      go_loopw [6, 7] (fun a i wr' => ∃ (m : Nat) (y : Int), a = .int .i64 y ∧ i = .int .i64 m ∧ m ≤ l.length ∧ P.rise (n : Int) (-1) l = P.rise (n : Int) y (l.drop m) ∧ wr' = W) (fun _ i _ => l.length - (intOf i).toNat)
                      case atStart => exact ⟨0, -1, rfl, rfl, Nat.zero_le _, rfl, by first | trivial | rfl⟩
                      case round =>
                        obtain ⟨m, y, rfl, rfl, hm, hr, hw⟩ := hrel
                        obtain rfl : W = wr := hw.symm
                        have HRR := Lib.hid hr
                        clear hr hw
                        have hm0 : (0 : Int) ≤ (m : Int) := Int.natCast_nonneg _
                        by_cases hml : m < l.length
                        · have fm : decide ((m : Int) < (l.length : Int)) = true := decide_eq_true (by omega)
                          have i2 : (m : Int) < (l.length : Int) := by omega
                          obtain ⟨z, hz⟩ : ∃ z, l.getD m 0 = z := ⟨_, rfl⟩
                          have c4 : W.cell? ⟨bx, ox + m, none⟩ = some (.int .i64 z) := by rw [← hz]; exact (HB.out.cell (p := ⟨bx, ox + m, none⟩) lx).trans (HKX.out m hml)
                          have hd : l.drop m = z :: l.drop (m + 1) := by
                            rw [List.drop_eq_getElem_cons hml]
                            congr 1
                            rw [← hz, List.getD_eq_getElem?_getD, List.getElem?_eq_getElem hml]
                            rfl
                          have HD := Lib.hid hd
                          clear hd hz
                          by_cases z1 : z ≤ y
                          · have g1 : decide (z ≤ y) = true := decide_eq_true z1
                            have HF := Lib.hid (HBAD.out (by rw [HRR.out, HD.out, P.rise, decide_eq_false (by omega)]; rfl))
                            go_wp2_with fail
                            go_ret2
                            exact ⟨by rw [HF.out]; rfl, HB.out⟩
                          · have g1 : decide (z ≤ y) = false := decide_eq_false z1
                            by_cases z2 : (n : Int) ≤ z
                            · have g2 : decide ((n : Int) ≤ z) = true := decide_eq_true z2
                              have HF := Lib.hid (HBAD.out (by rw [HRR.out, HD.out, P.rise, decide_eq_true (show y < z by omega), decide_eq_false (show ¬ z < (n : Int) by omega)]; rfl))
                              go_wp2_with fail
                              go_ret2
                              exact ⟨by rw [HF.out]; rfl, HB.out⟩
                            · have g2 : decide ((n : Int) ≤ z) = false := decide_eq_false z2
                              have HF := Lib.hid (show P.rise (n : Int) (-1) l = P.rise (n : Int) z (l.drop (m + 1)) by rw [HRR.out, HD.out, P.rise, decide_eq_true (show y < z by omega), decide_eq_true (show z < (n : Int) by omega)]; rfl)
                              go_wp2_with fail
                              go_roundw
                              case rel => exact ⟨m + 1, z, rfl, by go_num, by omega, HF.out, by first | trivial | rfl⟩
                              case measure => simp [intOf]; omega
                        · have fm : decide ((m : Int) < (l.length : Int)) = false := decide_eq_false (by omega)
                          have HF := Lib.hid (HGOOD.out (by rw [HRR.out, List.drop_eq_nil_of_le (by omega)]; rfl))
                          go_wp2_with fail
                          go_roundw
                          case rel => exact ⟨j + 1, by omega, by go_num, HF.out, by first | trivial | rfl⟩
                          case measure => simp [intOf]; omega
            · have fj : decide ((j : Int) < (n : Int)) = false := decide_eq_false (by omega)
              have HF := Lib.hid (show g.first n 0 = (0, 0) by rw [HE.out, show n - j = 0 by omega]; rfl)
              go_wp2_with fail
              go_ret2
              exact ⟨by rw [HF.out]; rfl, HB.out⟩
    · rw [if_pos (.inr h2)]
      have f0 : (((g.prio.length : Nat) : Int) != ((g.owner.length : Nat) : Int)) = false := by rw [bne_eq_false_iff_eq]; omega
      have f1 : (((g.moves.length : Nat) : Int) != ((g.owner.length : Nat) : Int)) = true := by rw [bne_iff_ne]; omega
      clear h1 h2
      go_enter Try.func20, Try.ntmps20
      go_wp2_with fail
      go_ret2
      exact ⟨rfl, (Below.refl _ _).alloc (Nat.le_refl _) _⟩
  · rw [if_pos (.inl h1)]
    have f0 : (((g.prio.length : Nat) : Int) != ((g.owner.length : Nat) : Int)) = true := by rw [bne_iff_ne]; omega
    clear h1
    go_enter Try.func20, Try.ntmps20
    go_wp2_with fail
    go_ret2
    exact ⟨rfl, (Below.refl _ _).alloc (Nat.le_refl _) _⟩
end W
end Go.Proofs.Ytghdjkpndhcplaa
