/- May lifting take long? Some answer comes. -/
import Derived.Test.YteeaojciobmcaaaBounds
import Derived.Test.YteeaojciobmcaaaMoves
import Derived.Deep.Cut
import Derived.Lib.Hide
import Derived.Deep.QuietTactic
import Derived.BigQuiet
namespace Go.Proofs.Yteeaojciobmcaaa
open Go.RowKit
namespace W

set_option maxRecDepth 100000 in
set_option maxHeartbeats 2000000 in
theorem heavy_any (g : P.G) (v : Value) (w : World) (hv : GameV w v g) : Calls Try.prog 24 #[v] w fun e w' => ∃ b, e = .returned (.bool b) ∧ Below w.heap.size w w' := by
  obtain ⟨a, b, c, rfl, -, hb, -⟩ := hv
  obtain ⟨bo, bk, rfl, hlen, hc⟩ := hb
  obtain ⟨m, hm⟩ : ∃ m, g.prio.length = m := ⟨_, rfl⟩
  rw [hm] at hlen hc ⊢
  have HC := Lib.hid hc
  have HM := Lib.hid hm
  clear hc hm
  go_enter Try.func24, Try.ntmps24
  go_wp2_with fail
  have bx0 : Box (w.alloc (.cells #[a, .slice bo m bk, c] 33)) (w.heap.size) 33 #[a, .slice bo m bk, c] := Box.new w 33 #[a, .slice bo m bk, c]
  have hbq : Below w.heap.size w (w.alloc (.cells #[a, .slice bo m bk, c] 33)) := (Below.refl _ w).alloc (Nat.le_refl _) _
  have hle0 : w.heap.size ≤ w.heap.size := Nat.le_refl _
  generalize (w.alloc (.cells #[a, .slice bo m bk, c] 33)) = w0 at bx0 hbq  ⊢
  have BQg := Lib.hid bx0
  have W := Lib.hid hbq
  have LEg := Lib.hid hle0
  clear hbq hle0 bx0 
  obtain ⟨qg, hqg⟩ : ∃ qg, w.heap.size = qg := ⟨_, rfl⟩
  rw [hqg] at BQg ⊢
  have LEg : Hid (w.heap.size ≤ qg) := Lib.hid (by omega)
  clear hqg
  go_loopw [3, 4] (fun nv qv wr => ∃ (x : Int) (j : Nat), 0 ≤ x ∧ x ≤ 60000000000000000 ∧ j ≤ 4 ∧ nv = .int .i64 x ∧ qv = .int .i64 (2 * (j : Int) + 1) ∧ Box wr qg 33 #[a, .slice bo m bk, c] ∧ Below w.heap.size w wr) (fun _ qv _ => (9 - intOf qv).toNat)
  case atStart => exact ⟨1, 0, by omega, by omega, by omega, rfl, rfl, BQg.out, W.out⟩
  case round =>
    obtain ⟨x, j, hx0, hx1, hj, rfl, rfl, b1, hb⟩ := hrel
    replace BQg := Lib.hid b1
    replace W := Lib.hid hb
    clear b1 hb
    have hj0 : (0 : Int) ≤ (j : Int) := Int.natCast_nonneg _
    by_cases hlt : j < 4
    · have fj : decide (2 * (j : Int) + 1 ≤ 7) = true := decide_eq_true (by omega)
      by_cases hx : x ≤ 3000
      · have fx : decide (x ≤ 3000) = true := decide_eq_true hx
        go_wp2_with fail
        obtain ⟨wo, rfl⟩ : ∃ wo : World, wo = wr := ⟨_, rfl⟩
        go_loopw [5, 6] (fun kv iv wr => ∃ (k : Int) (i : Nat), i ≤ m ∧ 1 ≤ k ∧ k ≤ (i : Int) + 1 ∧ kv = .int .i64 k ∧ iv = .int .i64 (i : Int) ∧ Box wr qg 33 #[a, .slice bo m bk, c] ∧ Below w.heap.size w wr) (fun _ iv _ => m - (intOf iv).toNat)
        case atStart => exact ⟨1, 0, Nat.zero_le _, by omega, by omega, rfl, rfl, BQg.out, W.out⟩
        case round =>
          obtain ⟨k, i, hi, hk1, hk2, rfl, rfl, b1, hb⟩ := hrel
          replace BQg := Lib.hid b1
          replace W := Lib.hid hb
          clear b1 hb
          have hi0 : (0 : Int) ≤ (i : Int) := Int.natCast_nonneg _
          have hbb := BQg.out
          have gc0 : wr.cell? ⟨qg, 0, none⟩ = some a := hbb.cell 0 _ rfl
          have gc1 : wr.cell? ⟨qg, 1, none⟩ = some (.slice bo m bk) := hbb.cell 1 _ rfl
          have gc2 : wr.cell? ⟨qg, 2, none⟩ = some c := hbb.cell 2 _ rfl
          clear hbb
          by_cases hlm : i < m
          · have fi : decide ((i : Int) < (m : Int)) = true := decide_eq_true (by omega)
            have hii : (i : Int) < (m : Int) := by omega
            obtain ⟨bb, ob, rfl, hbl, hcl⟩ := HC.out.resolve_left (fun e => by have := HM.out; rw [e] at this; simp at this; omega)
            obtain ⟨z, hz⟩ : ∃ z, g.prio.getD i 0 = z := ⟨_, rfl⟩
            have cz : wr.cell? ⟨bb, ob + i, none⟩ = some (.int .i64 z) := by rw [← hz]; exact (W.out.cell (p := ⟨bb, ob + i, none⟩) hbl).trans (hcl i hlm)
            clear hcl hz
            by_cases hq : z = 2 * (j : Int) + 1
            · have fq : (z == 2 * (j : Int) + 1) = true := by rw [beq_iff_eq]; exact hq
              go_wp2_with fail
              clear gc0 gc1 gc2 cz
              go_roundw
              case rel => exact ⟨k + 1, i + 1, by omega, by omega, by omega, by first | rfl | go_num, by first | rfl | go_num, BQg.out, W.out⟩
              case measure => simp [intOf]; omega
            · have fq : (z == 2 * (j : Int) + 1) = false := by rw [beq_eq_false_iff_ne]; exact hq
              go_wp2_with fail
              clear gc0 gc1 gc2 cz
              go_roundw
              case rel => exact ⟨k, i + 1, by omega, by omega, by omega, rfl, by first | rfl | go_num, BQg.out, W.out⟩
              case measure => simp [intOf]; omega
          · have fi : decide ((i : Int) < (m : Int)) = false := decide_eq_false (by omega)
            have hxk0 : 0 ≤ x * k := Int.mul_nonneg hx0 (by omega)
            have hxk1 : x * k ≤ 3000 * 17592186043905 := Int.mul_le_mul hx (by omega) (by omega) (by omega)
            have hxk2 : x * k ≤ 60000000000000000 := by omega
            go_wp2_with fail
            clear gc0 gc1 gc2
            go_roundw
            case rel => exact ⟨x * k, j + 1, hxk0, hxk2, by omega, by first | rfl | (rw [IntKind.wrap_i64]; congr 1; omega), by first | rfl | go_num | (congr 1; omega), BQg.out, W.out⟩
            case measure => simp [intOf]; omega
      · have fx : decide (x ≤ 3000) = false := decide_eq_false hx
        go_wp2_with fail
        go_ret
        first | exact ⟨_, rfl, W.out⟩ | exact ⟨.inl rfl, W.out⟩ | exact ⟨.inr rfl, W.out⟩ | exact .inl ⟨rfl, W.out⟩ | exact .inr ⟨rfl, W.out⟩
    · have fj : decide (2 * (j : Int) + 1 ≤ 7) = false := decide_eq_false (by omega)
      go_wp2_with fail
      go_ret
      first | exact ⟨_, rfl, W.out⟩ | exact ⟨.inl rfl, W.out⟩ | exact ⟨.inr rfl, W.out⟩ | exact .inl ⟨rfl, W.out⟩ | exact .inr ⟨rfl, W.out⟩
end W
end Go.Proofs.Yteeaojciobmcaaa
