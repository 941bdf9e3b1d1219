/- The list of a set's numbers: the walk. -/
import Derived.Test.YtghdjkpndhcplaaDoorPts
import Derived.Test.YtghdjkpndhcplaaDoorLeaf3
import Derived.OwnWalk
import Derived.IntWalk
import Derived.Lib.Hide
import Derived.Outline
namespace Go.Proofs.YtghdjkpndhcplaaDoor
open Go.RowKit Go.Sort
namespace P
def vals (l : List Nat) : List Value := l.map fun (n : Nat) => .int .i64 (n : Int)
theorem vals_length (l : List Nat) : (vals l).length = l.length := by unfold vals; simp
theorem vals_append (l r : List Nat) : vals (l ++ r) = vals l ++ vals r := by unfold vals; simp
theorem vals_one (n : Nat) : vals [n] = [.int .i64 (n : Int)] := rfl
theorem and_pred (x : Nat) (hx : x < 18446744073709551616) (h0 : x ≠ 0) : bits .and .u64 (x : Int) (IntKind.u64.wrap ((x : Int) - 1)) = ((x &&& (x - 1) : Nat) : Int) := by
  rw [IntKind.wrap_u64, show ((x : Int) - 1) % 18446744073709551616 = ((x - 1 : Nat) : Int) by omega]
  exact bits_and_u64_nat x (x - 1) hx (by omega)
end P
namespace W
theorem int_info : (Tryd.prog.info? 3).map (fun i => (i.zero, i.size, i.bytes)) = some (some (.int .i64 0), 1, 8) := by kernel_rfl
/-- WHAT A CALL HANDS BACK THAT LISTS THE NUMBERS l: a slice of its own that holds them. -/
def Lists (base : Nat) (l : List Nat) (w : World) (e : Ending) (w' : World) : Prop := ∃ v, e = .returned v ∧ w'.ownsRow base 3 1 v l.length (P.vals l) ∧ Below w.heap.size w w'
theorem ix_any (s : BitVec 256) (k : Nat) (hk : k < 4) (w : World) : (Instr.index 37 (.agg #[.int .u64 (P.wrd s 0), .int .u64 (P.wrd s 1), .int .u64 (P.wrd s 2), .int .u64 (P.wrd s 3)]) (.int .i64 (k : Int))).run Tryd.prog w = .ok (.int .u64 (P.wrd s k)) w := by
  rcases (by omega : k = 0 ∨ k = 1 ∨ k = 2 ∨ k = 3) with rfl | rfl | rfl | rfl
  · exact ix0 s w
  · exact ix1 s w
  · exact ix2 s w
  · exact ix3 s w
set_option maxHeartbeats 1000000 in
theorem list_any (s : BitVec 256) (w : World) (hT : Tab w) :
    Calls Tryd.prog 14 #[.agg #[.int .u64 (P.wrd s 0), .int .u64 (P.wrd s 1), .int .u64 (P.wrd s 2), .int .u64 (P.wrd s 3)]] w (Lists w.heap.size (P.lst s) w) := by
  obtain ⟨i0, hi, hz0, hz1, hz2⟩ := info_parts int_info
  go_enter Tryd.func14, Tryd.ntmps14
  go_wp2
  go_loopw [3, 7] (fun v i wr => ∃ k : Nat, k ≤ 4 ∧ i = .int .i64 k ∧ wr.ownsRow w.heap.size 3 1 v (P.pre s k).length (P.vals (P.pre s k)) ∧ Below w.heap.size w wr) (fun _ i _ => 4 - (intOf i).toNat)
  case atStart => exact ⟨0, Nat.zero_le _, rfl, World.ownsRow_nil _ _ _ _, (Below.refl _ _).alloc (Nat.le_refl _) _⟩
  case round =>
    obtain ⟨k, hk, rfl, hown, hW⟩ := hrel
    by_cases hlt : k < 4
    · have ix := ix_any s k hlt
      have HO := Lib.hid hown
      have HW := Lib.hid hW
      clear hown hW
      have hd : decide ((k : Int) < 4) = true := by simp; omega
      have hk0 : (0 : Int) ≤ (k : Int) := Int.natCast_nonneg _
      obtain ⟨wo, rfl⟩ : ∃ wo : World, wo = wr := ⟨_, rfl⟩
      go_wp2
      go_loopw [3, 5] (fun v x wr => ∃ (c : List Nat) (n : Nat), x = .int .u64 n ∧ n < 18446744073709551616 ∧ c ++ (P.bl n).map (fun j => 64 * k + j) = P.pre s (k + 1) ∧ wr.ownsRow w.heap.size 3 1 v c.length (P.vals c) ∧ Below w.heap.size w wr) (fun _ x _ => (intOf x).toNat)
      case atStart => exact ⟨P.pre s k, _, rfl, (s.extractLsb' (64 * k) 64).isLt, rfl, HO.out, HW.out⟩
      case round =>
        obtain ⟨c, n, rfl, hn, hpre, hown, hW⟩ := hrel
        have HN := Lib.hid hn
        have HP := Lib.hid hpre
        have HX := Lib.hid hown
        have HY := Lib.hid hW
        clear hn hpre hown hW
        by_cases h0 : n = 0
        · subst h0
          go_wp2
          refine ⟨⟨k + 1, by omega, by go_num, ?_, HY.out⟩, by simp [intOf]; omega⟩
          have hc := HP.out
          rw [P.bl_zero, List.map_nil, List.append_nil] at hc
          rw [← hc]
          exact HX.out
        · have hne : (((n : Nat) : Int) != 0) = true := by simp; omega
          have hstep := P.and_pred n HN.out h0
          have HS := Lib.hid (P.bl_step n h0 HN.out)
          have hlen : c.length + 1 ≤ 256 := by
            have h1 := congrArg List.length HP.out
            have h2 := P.pre_length s (k + 1) (by omega)
            rw [HS.out] at h1
            simp only [List.length_append, List.length_map, List.length_cons] at h1
            omega
          obtain ⟨hcz0, hcz1⟩ : (0 : Int) ≤ ((Lib.ctz 64 n : Nat) : Int) ∧ ((Lib.ctz 64 n : Nat) : Int) < 64 := by
            have := (Lib.lowest_bit 64 n h0 HN.out).2
            omega
          go_wp2_with (first | (go_at_call 27; refine (zeros_any n HN.out h0 _ (hT.on HY.out)).mono ?_; rintro e w' ⟨rfl, rfl⟩) | (at_builtin; refine wpList_append_own _ rfl _ _ 22 rfl w.heap.size 3 i0 (.int .i64 0) 1 8 Tryd.underlying22 hi hz0 hz1 hz2 rfl (by decide) _ _ _ rfl (HX.out.alloc _) ⟨wr.heap.size, 0, none⟩ 1 1 [.int .i64 ((k : Int) * 64 + ((Lib.ctz 64 n : Nat) : Int))] rfl rfl ?c1 ?c2 ?c3 ?c4 ?c5 ?_))
          case c1 =>
            intro j u hj
            match j, hj with
            | 0, hj => simp at hj; subst hj; simp [Addr.add]
          case c2 => intro u hu; simp at hu; subst hu; rfl
          case c3 => unfold maxLen; omega
          case c4 => omega
          case c5 => have := HY.out.size; simp; omega
          intro v' w1 hown1 hgrow _
          have hb1 : Below w.heap.size w w1 := (HY.out.alloc HY.out.size _).grown hgrow (by have := HY.out.size; simp; omega) (fun q hq => (HX.out.lt q hq).1)
          have hv : P.vals c ++ [Value.int .i64 ((k : Int) * 64 + ((Lib.ctz 64 n : Nat) : Int))] = P.vals (c ++ [64 * k + Lib.ctz 64 n]) := by
            rw [P.vals_append, P.vals_one]
            congr 3
            simp
            omega
          have HV := Lib.hid hv
          have H1 := Lib.hid hown1
          have H2 := Lib.hid hb1
          clear hv hown1 hgrow hb1
          go_wp2
          go_roundw
          case rel =>
            refine ⟨c ++ [64 * k + Lib.ctz 64 n], n &&& (n - 1), rfl, ?_, ?_, ?_, H2.out⟩
            · have := P.and_pred_lt n h0; have := HN.out; omega
            · have hc := HP.out
              rw [HS.out, List.map_cons] at hc
              rw [← hc, List.append_assoc]
              rfl
            · rw [← HV.out, List.length_append]
              exact H1.out
          case measure =>
            have := P.and_pred_lt n h0
            simp [intOf]
            omega
    · obtain rfl : k = 4 := by omega
      go_wp2
      go_ret
      exact ⟨_, rfl, by rw [← P.lst_pre]; exact hown, hW⟩
end W
end Go.Proofs.YtghdjkpndhcplaaDoor
