/- The first of some numbers that a set has: IndexFunc of the set's Has. -/
import Derived.Test.YtpjmboonaciplaaDoorDecP
import Derived.Test.YtpjmboonaciplaaDoorMemA
import Derived.Test.YtpjmboonaciplaaDoorMoves
import Derived.Deep.Cut
import Derived.Lib.Hide
import Derived.Deep.QuietTactic
import Derived.BigQuiet
import Derived.StillTailTactics
namespace Go.Proofs.YtpjmboonaciplaaDoor
open Go.RowKit
namespace W

end W
namespace P
theorem first_none {I : BitVec 256} {l : List Int} (h : ∀ j, j < l.length → has I (l.getD j 0) = false) : first I l = none := by
  unfold first
  rw [List.find?_eq_none]
  intro x hx
  obtain ⟨j, hj, rfl⟩ := List.mem_iff_getElem.1 hx
  have := h j hj
  rw [List.getD_eq_getElem?_getD, List.getElem?_eq_getElem hj] at this
  rw [show has I l[j] = false from this]
  simp
theorem first_at {I : BitVec 256} {l : List Int} {k : Nat} (h : ∀ j, j < k → has I (l.getD j 0) = false) (hk : k < l.length) (hx : has I (l.getD k 0) = true) : first I l = some (l.getD k 0) := by
  have e : ∀ j (hj : j < l.length), l.getD j 0 = l[j] := fun j hj => by rw [List.getD_eq_getElem?_getD, List.getElem?_eq_getElem hj]; rfl
  unfold first
  rw [List.find?_eq_some_iff_getElem]
  refine ⟨hx, k, hk, (e k hk).symm, fun j hj => ?_⟩
  rw [← e j (by omega), h j hj]
  rfl
end P
namespace W
set_option maxRecDepth 100000 in
set_option maxHeartbeats 4000000 in
theorem indexf_any (l : List Int) (I : BitVec 256) (v : Value) (w : World) (hv : Ints w v l) : Calls Tryd.prog 58 #[v, .func (.func 25) #[.agg #[.int .u64 (P.wrd I 0), .int .u64 (P.wrd I 1), .int .u64 (P.wrd I 2), .int .u64 (P.wrd I 3)]] #[]] w fun e w' => ∃ z : Int, e = .returned (.int .i64 z) ∧ ((z = -1 ∧ P.first I l = none) ∨ ∃ k : Nat, k < l.length ∧ z = (k : Int) ∧ P.first I l = some (l.getD k 0)) ∧ Below w.heap.size w w' := by
  obtain ⟨n, hn⟩ : ∃ n, l.length = n := ⟨_, rfl⟩
  obtain ⟨ao, ka, rfl, hlen, hc⟩ := hv
  rw [hn] at hlen hc ⊢
  have HLN := Lib.hid hn
  by_cases hnil : l = []
  · have h0 : n = 0 := by rw [← hn, hnil]; rfl
    clear hc hnil hn
    rw [h0] at HLN ⊢
    clear h0 hlen
    go_enter Tryd.func58, Tryd.ntmps58
    go_wp2_with fail
    go_loopw [8] (fun i wr => ∃ k : Nat, k ≤ 0 ∧ i = .int .i64 (k : Int) ∧ (∀ j, j < k → P.has I (l.getD j 0) = false) ∧ Below w.heap.size w wr) (fun i _ => 0 - (intOf i).toNat)
    case atStart => exact ⟨0, Nat.zero_le _, rfl, fun j h => absurd h (Nat.not_lt_zero j), Below.refl _ _⟩
    case round =>
      obtain ⟨k, hk, rfl, hall, hb⟩ := hrel
      have HA := Lib.hid hall
      have W := Lib.hid hb
      clear hall hb
      have hk0 : (0 : Int) ≤ (k : Int) := Int.natCast_nonneg _
      have fk : decide ((k : Int) < 0) = false := decide_eq_false (by omega)
      have HNO := Lib.hid (P.first_none (I := I) (l := l) fun j hj => HA.out j (by have := HLN.out; omega))
      go_wp2_with fail
      exact bodyPost_ret (v := .int .i64 (-1)) (by simp [results, Tryd.results58, go_sem]) rfl ⟨_, rfl, .inl ⟨rfl, HNO.out⟩, W.out⟩
  · obtain ⟨b, off, rfl, hb, hcc⟩ := hc.resolve_left hnil
    have HBB := Lib.hid hb
    have HCC := Lib.hid hcc
    clear hc hnil hb hcc hn
    go_enter Tryd.func58, Tryd.ntmps58
    go_wp2_with fail
    go_loopw [8] (fun i wr => ∃ k : Nat, k ≤ n ∧ i = .int .i64 (k : Int) ∧ (∀ j, j < k → P.has I (l.getD j 0) = false) ∧ Below w.heap.size w wr) (fun i _ => n - (intOf i).toNat)
    case atStart => exact ⟨0, Nat.zero_le _, rfl, fun j h => absurd h (Nat.not_lt_zero j), Below.refl _ _⟩
    case round =>
      obtain ⟨k, hk, rfl, hall, hb⟩ := hrel
      have HA := Lib.hid hall
      have W := Lib.hid hb
      clear hall hb
      have hk0 : (0 : Int) ≤ (k : Int) := Int.natCast_nonneg _
      by_cases hlt : k < n
      · have fk : decide ((k : Int) < (n : Int)) = true := decide_eq_true (by omega)
        have hki : (k : Int) < (n : Int) := by omega
        have hc := (W.out.cell (p := ⟨b, off + k, none⟩) HBB.out).trans (HCC.out k hlt)
        obtain ⟨x, hx⟩ : ∃ x, l.getD k 0 = x := ⟨_, rfl⟩
        rw [hx] at hc
        have HX := Lib.hid hx
        clear hx
        go_wp2_with fail
        clear hc
        refine (has_any I x wr).mono ?_
        rintro e w2 ⟨rfl, hb⟩
        replace W := Lib.hid (W.out.trans (hb.mono W.out.size))
        clear hb
        cases hh : P.has I x
        · have HA2 := Lib.hid (show ∀ j, j < k + 1 → P.has I (l.getD j 0) = false from fun j hj => by
            by_cases e : j = k
            · rw [e, HX.out]; exact hh
            · exact HA.out j (by omega))
          clear hh
          go_wp2_with fail
          go_roundw
          case rel => exact ⟨k + 1, by omega, by first | rfl | go_num, HA2.out, W.out⟩
          case measure => simp [intOf]; omega
        · have HF := Lib.hid (P.first_at (I := I) (l := l) HA.out (by rw [HLN.out]; exact hlt) (by rw [HX.out]; exact hh))
          clear hh
          go_wp2_with fail
          exact bodyPost_ret (v := .int .i64 (k : Int)) (by simp [results, Tryd.results58, go_sem]) rfl ⟨_, rfl, .inr ⟨k, hlt, rfl, HF.out⟩, W.out⟩
      · have fk : decide ((k : Int) < (n : Int)) = false := decide_eq_false (by omega)
        have HNO := Lib.hid (P.first_none (I := I) (l := l) fun j hj => HA.out j (by have := HLN.out; omega))
        go_wp2_with fail
        exact bodyPost_ret (v := .int .i64 (-1)) (by simp [results, Tryd.results58, go_sem]) rfl ⟨_, rfl, .inl ⟨rfl, HNO.out⟩, W.out⟩
end W
end Go.Proofs.YtpjmboonaciplaaDoor
