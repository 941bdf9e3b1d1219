/- Which game is right: the program's. -/
import Derived.Test.YtghdjkpndhcplaaDoorCheck
namespace Go.Proofs.YtghdjkpndhcplaaDoor
open Go.RowKit
namespace W

set_option maxRecDepth 100000 in
set_option maxHeartbeats 1000000 in
theorem right_any (g : P.G) (v : Value) (w : World) (hv : GameV w v g) :
    Calls Tryd.prog 5 #[v] w fun e w' => e = .returned (.tuple #[.int .i64 ((g.right.1 : Nat) : Int), .int .i64 ((g.right.2 : Nat) : Int)]) ∧ Below w.heap.size w w' := by
  have HV := Lib.hid hv
  obtain ⟨a, b, c, rfl, ⟨ao, ca, rfl, hza, ha⟩, ⟨bo, cb, rfl, hzb, hb⟩, ⟨co, cc, rfl, hzc, hc⟩⟩ := hv
  clear ha hb hc
  unfold P.G.right
  by_cases h1 : g.prio.length = g.owner.length
  · by_cases h2 : g.moves.length = g.owner.length
    · rw [if_neg (by omega)]
      have H1 := Lib.hid h1
      have H2 := Lib.hid h2
      by_cases hs : g.owner.length < 1
      · rw [if_pos (.inl hs)]
        have f0 : (((g.prio.length : Nat) : Int) != ((g.owner.length : Nat) : Int)) = false := by rw [bne_eq_false_iff_eq]; omega
        have f1 : (((g.moves.length : Nat) : Int) != ((g.owner.length : Nat) : Int)) = false := by rw [bne_eq_false_iff_eq]; omega
        have f2 : decide (((g.owner.length : Nat) : Int) < 1) = true := decide_eq_true (by omega)
        clear h1 h2
        go_enter Tryd.func5, Tryd.ntmps5
        go_wp2_with fail
        go_ret2
        exact ⟨rfl, (Below.refl _ _).alloc (Nat.le_refl _) _⟩
      · by_cases hl : 200 < g.owner.length
        · rw [if_pos (.inr hl)]
          have f0 : (((g.prio.length : Nat) : Int) != ((g.owner.length : Nat) : Int)) = false := by rw [bne_eq_false_iff_eq]; omega
          have f1 : (((g.moves.length : Nat) : Int) != ((g.owner.length : Nat) : Int)) = false := by rw [bne_eq_false_iff_eq]; omega
          have f2 : decide (((g.owner.length : Nat) : Int) < 1) = false := decide_eq_false (by omega)
          have f3 : decide ((200 : Int) < ((g.owner.length : Nat) : Int)) = true := decide_eq_true (by omega)
          clear h1 h2
          go_enter Tryd.func5, Tryd.ntmps5
          go_wp2_with fail
          go_ret2
          exact ⟨rfl, (Below.refl _ _).alloc (Nat.le_refl _) _⟩
        · rw [if_neg (by omega)]
          obtain ⟨n, hn⟩ : ∃ n, g.owner.length = n := ⟨_, rfl⟩
          rw [h1, h2, hn] at HV
          rw [h1, h2, hn]
          rw [hn] at hs hl
          have HNN := Lib.hid hn
          clear h1 h2 hn hza hzb hzc
          go_enter Tryd.func5, Tryd.ntmps5
          go_wp2_with fail
          generalize hW : w.alloc (.cells #[.slice ao n ca, .slice bo n cb, .slice co n cc] 25) = W
          have hb : Below w.heap.size w W := by rw [← hW]; exact (Below.refl _ _).alloc (Nat.le_refl _) _
          have hlt : w.heap.size < W.heap.size := by rw [← hW]; simp
          have k0 : W.cell? ⟨w.heap.size, 0, none⟩ = some (.slice ao n ca) := by rw [← hW]; simp
          have k1 : W.cell? ⟨w.heap.size, 1, none⟩ = some (.slice bo n cb) := by rw [← hW]; simp
          have k2 : W.cell? ⟨w.heap.size, 2, none⟩ = some (.slice co n cc) := by rw [← hW]; simp
          have HB := Lib.hid hb
          have K0 := Lib.hid k0
          have K1 := Lib.hid k1
          have K2 := Lib.hid k2
          clear hb hW k0 k1 k2
          go_loopw [29] (fun i wr => ∃ j : Nat, j ≤ n ∧ i = .int .i64 j ∧ g.first n 0 = g.first (n - j) j ∧ Below W.heap.size W wr) (fun i _ => n - (intOf i).toNat)
          case atStart => exact ⟨0, Nat.zero_le _, rfl, rfl, Below.refl _ _⟩
          case round =>
            obtain ⟨j, hj, rfl, he, hbw⟩ := hrel
            have HE := Lib.hid he
            have HW := Lib.hid hbw
            clear he hbw
            have hj0 : (0 : Int) ≤ (j : Int) := Int.natCast_nonneg _
            by_cases hlt2 : j < n
            · have fj : decide ((j : Int) < (n : Int)) = true := decide_eq_true (by omega)
              have c0 : wr.cell? ⟨w.heap.size, 0, none⟩ = some (.slice ao n ca) := (HW.out.cell (p := ⟨w.heap.size, 0, none⟩) hlt).trans K0.out
              have c1 : wr.cell? ⟨w.heap.size, 1, none⟩ = some (.slice bo n cb) := (HW.out.cell (p := ⟨w.heap.size, 1, none⟩) hlt).trans K1.out
              have c2 : wr.cell? ⟨w.heap.size, 2, none⟩ = some (.slice co n cc) := (HW.out.cell (p := ⟨w.heap.size, 2, none⟩) hlt).trans K2.out
              go_wp2_with fail
              refine (check_any g _ j _ ((HV.out.on HB.out).on HW.out) (by rw [HNN.out]; exact hlt2) H1.out H2.out).mono ?_
              rintro e w' ⟨rfl, hb'⟩
              have HW' := Lib.hid (HW.out.trans (hb'.mono HW.out.size))
              clear hb' c0 c1 c2
              obtain ⟨q, hq⟩ : ∃ q, g.check j = q := ⟨_, rfl⟩
              rw [hq]
              by_cases hq0 : q = 0
              · have fq : (((q : Nat) : Int) != 0) = false := by rw [bne_eq_false_iff_eq]; omega
                have HF := Lib.hid (show g.first n 0 = g.first (n - (j + 1)) (j + 1) by rw [HE.out, show n - j = (n - (j + 1)) + 1 by omega, P.G.first_ok (by rw [hq]; exact hq0)])
                clear hq hq0
                go_wp2_with fail
                go_roundw
                case rel => exact ⟨j + 1, by omega, by go_num, HF.out, HW'.out⟩
                case measure => simp [intOf]; omega
              · have fq : (((q : Nat) : Int) != 0) = true := by rw [bne_iff_ne]; omega
                have HF := Lib.hid (show g.first n 0 = (j, q) by rw [HE.out, show n - j = (n - (j + 1)) + 1 by omega, P.G.first_bad (by rw [hq]; exact hq0), hq])
                clear hq hq0
                go_wp2_with fail
                go_ret2
                exact ⟨by rw [HF.out]; rfl, HB.out.trans (HW'.out.mono HB.out.size)⟩
            · have fj : decide ((j : Int) < (n : Int)) = false := decide_eq_false (by omega)
              have HF := Lib.hid (show g.first n 0 = (0, 0) by rw [HE.out, show n - j = 0 by omega]; rfl)
              go_wp2_with fail
              go_ret2
              exact ⟨by rw [HF.out]; rfl, HB.out.trans (HW.out.mono HB.out.size)⟩
    · rw [if_pos (.inr h2)]
      have f0 : (((g.prio.length : Nat) : Int) != ((g.owner.length : Nat) : Int)) = false := by rw [bne_eq_false_iff_eq]; omega
      have f1 : (((g.moves.length : Nat) : Int) != ((g.owner.length : Nat) : Int)) = true := by rw [bne_iff_ne]; omega
      clear h1 h2
      go_enter Tryd.func5, Tryd.ntmps5
      go_wp2_with fail
      go_ret2
      exact ⟨rfl, (Below.refl _ _).alloc (Nat.le_refl _) _⟩
  · rw [if_pos (.inl h1)]
    have f0 : (((g.prio.length : Nat) : Int) != ((g.owner.length : Nat) : Int)) = true := by rw [bne_iff_ne]; omega
    clear h1
    go_enter Tryd.func5, Tryd.ntmps5
    go_wp2_with fail
    go_ret2
    exact ⟨rfl, (Below.refl _ _).alloc (Nat.le_refl _) _⟩
end W
end Go.Proofs.YtghdjkpndhcplaaDoor
