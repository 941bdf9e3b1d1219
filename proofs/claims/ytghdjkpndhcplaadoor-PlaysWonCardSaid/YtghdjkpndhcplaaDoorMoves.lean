/- Grid in memory; moves that rise. -/
import Derived.Test.YtghdjkpndhcplaaDoorGame
import Derived.Test.YtghdjkpndhcplaaDoorChecked
import Derived.WalkKit
import Derived.Lib.Hide
import Derived.Deep.QuietTactic
import Derived.BigQuiet
namespace Go.Proofs.YtghdjkpndhcplaaDoor
open Go.RowKit
namespace W

/-- A list of numbers, wherever it lies. -/
def Ints (w : World) (v : Value) (zs : List Int) : Prop := ∃ ao cap, v = .slice ao zs.length cap ∧ zs.length ≤ 17592186043904 ∧ (zs = [] ∨ ∃ b off, ao = some ⟨b, off, none⟩ ∧ b < w.heap.size ∧ ∀ j, j < zs.length → w.cell? ⟨b, off + j, none⟩ = some (.int .i64 (zs.getD j 0)))
theorem Ints.on {w w' : World} {v : Value} {zs : List Int} (h : Ints w v zs) (hb : Below w.heap.size w w') : Ints w' v zs := by
  obtain ⟨ao, cap, rfl, h1, h2⟩ := h
  refine ⟨ao, cap, rfl, h1, ?_⟩
  rcases h2 with h2 | ⟨b, off, h3, h4, h5⟩
  · exact .inl h2
  · exact .inr ⟨b, off, h3, Nat.lt_of_lt_of_le h4 hb.size, fun j hj => by rw [hb.cell (p := ⟨b, off + j, none⟩) h4]; exact h5 j hj⟩
/-- A list of lists of numbers. -/
def Grid (w : World) (v : Value) (ls : List (List Int)) : Prop := ∃ ao cap, v = .slice ao ls.length cap ∧ ls.length ≤ 5864062014634 ∧ (ls = [] ∨ ∃ b off, ao = some ⟨b, off, none⟩ ∧ b < w.heap.size ∧ ∀ j, j < ls.length → ∃ x, w.cell? ⟨b, off + j, none⟩ = some x ∧ Ints w x (ls.getD j []))
theorem Grid.on {w w' : World} {v : Value} {ls : List (List Int)} (h : Grid w v ls) (hb : Below w.heap.size w w') : Grid w' v ls := by
  obtain ⟨ao, cap, rfl, h1, h2⟩ := h
  refine ⟨ao, cap, rfl, h1, ?_⟩
  rcases h2 with h2 | ⟨b, off, h3, h4, h5⟩
  · exact .inl h2
  · refine .inr ⟨b, off, h3, Nat.lt_of_lt_of_le h4 hb.size, fun j hj => ?_⟩
    obtain ⟨x, h6, h7⟩ := h5 j hj
    exact ⟨x, by rw [hb.cell (p := ⟨b, off + j, none⟩) h4]; exact h6, h7.on hb⟩
/-- A game as the program has it. -/
def GameV (w : World) (v : Value) (g : P.G) : Prop := ∃ a b c, v = .agg #[a, b, c] ∧ Ints w a g.owner ∧ Ints w b g.prio ∧ Grid w c g.moves
theorem GameV.on {w w' : World} {v : Value} {g : P.G} (h : GameV w v g) (hb : Below w.heap.size w w') : GameV w' v g := by
  obtain ⟨a, b, c, rfl, h1, h2, h3⟩ := h
  exact ⟨a, b, c, rfl, h1.on hb, h2.on hb, h3.on hb⟩
set_option maxRecDepth 100000 in
set_option maxHeartbeats 1000000 in
theorem areMoves_any (v : Value) (zs : List Int) (n : Int) (w : World) (hv : Ints w v zs) :
    Calls Tryd.prog 20 #[v, .int .i64 n] w fun e w' => e = .returned (.bool (P.rise n (-1) zs)) ∧ w' = w := by
  obtain ⟨ao, cap, rfl, hz, hc⟩ := hv
  have HC := Lib.hid hc
  clear hc
  go_enter Tryd.func20, Tryd.ntmps20
  obtain ⟨k, hk⟩ : ∃ k, zs.length = k := ⟨_, rfl⟩
  rw [hk] at hz ⊢
  have HK := Lib.hid hk
  clear hk
  go_wp2_with fail
  go_loopw [5, 10] (fun x i wr => ∃ (j : Nat) (last : Int), x = .int .i64 last ∧ i = .int .i64 j ∧ j ≤ k ∧ P.rise n (-1) zs = P.rise n last (zs.drop j) ∧ wr = w) (fun _ i _ => k - (intOf i).toNat)
  case atStart => exact ⟨0, -1, rfl, rfl, Nat.zero_le _, rfl, by first | trivial | rfl⟩
  case round =>
    obtain ⟨j, last, rfl, rfl, hj, he, hw⟩ := hrel
    obtain rfl : w = wr := hw.symm
    have HE := Lib.hid he
    clear he hw
    have hj0 : (0 : Int) ≤ (j : Int) := Int.natCast_nonneg _
    by_cases hlt : j < k
    · have fj : decide ((j : Int) < (k : Int)) = true := decide_eq_true (by omega)
      have hjl : j < zs.length := by rw [HK.out]; exact hlt
      obtain ⟨b, off, rfl, hb, hcell⟩ := HC.out.resolve_left (fun e => by rw [e] at hjl; exact absurd hjl (Nat.not_lt_zero j))
      obtain ⟨m, hm⟩ : ∃ m, zs.getD j 0 = m := ⟨_, rfl⟩
      have hcj := hcell j hjl
      rw [hm] at hcj
      have hd : zs.drop j = m :: zs.drop (j + 1) := by
        rw [List.drop_eq_getElem_cons hjl]
        congr 1
        rw [← hm, List.getD_eq_getElem?_getD, List.getElem?_eq_getElem hjl]
        rfl
      have HD := Lib.hid hd
      clear hd hm hjl hcell
      by_cases h1 : m ≤ last
      · have f1 : decide (m ≤ last) = true := decide_eq_true h1
        have HF := Lib.hid (show P.rise n (-1) zs = false by rw [HE.out, HD.out, P.rise, decide_eq_false (by omega)]; rfl)
        go_wp2_with fail
        go_ret
        exact ⟨by rw [HF.out]; rfl, rfl⟩
      · have f1 : decide (m ≤ last) = false := decide_eq_false h1
        by_cases h2 : n ≤ m
        · have f2 : decide (n ≤ m) = true := decide_eq_true h2
          have HF := Lib.hid (show P.rise n (-1) zs = false by rw [HE.out, HD.out, P.rise, decide_eq_true (show last < m by omega), decide_eq_false (show ¬ m < n by omega)]; rfl)
          go_wp2_with fail
          go_ret
          exact ⟨by rw [HF.out]; rfl, rfl⟩
        · have f2 : decide (n ≤ m) = false := decide_eq_false h2
          have HF := Lib.hid (show P.rise n (-1) zs = P.rise n m (zs.drop (j + 1)) by rw [HE.out, HD.out, P.rise, decide_eq_true (show last < m by omega), decide_eq_true (show m < n by omega)]; rfl)
          go_wp2_with fail
          go_roundw
          case rel => exact ⟨j + 1, m, rfl, by go_num, by omega, HF.out, by first | trivial | rfl⟩
          case measure => simp [intOf]; omega
    · have fj : decide ((j : Int) < (k : Int)) = false := decide_eq_false (by omega)
      have HF := Lib.hid (show P.rise n (-1) zs = true by rw [HE.out, List.drop_eq_nil_of_le (by rw [HK.out]; omega)]; rfl)
      go_wp2_with fail
      go_ret
      exact ⟨by rw [HF.out]; rfl, rfl⟩
end W
end Go.Proofs.YtghdjkpndhcplaaDoor
