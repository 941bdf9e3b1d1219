/- A row of -1s. -/
import Derived.Test.YtpjmboonaciplaaDoorGrowR
import Derived.Test.YtpjmboonaciplaaDoorAttA
import Derived.Test.YtpjmboonaciplaaDoorAttM
import Derived.Deep.Cut
import Derived.Lib.Hide
import Derived.Deep.QuietTactic
import Derived.BigQuiet
import Derived.StillTailTactics
namespace Go.Proofs.YtpjmboonaciplaaDoor
open Go.RowKit
namespace W

set_option maxRecDepth 100000 in
set_option maxHeartbeats 1000000 in
theorem filled_any (n : Nat) (hn : n ≤ 200) (w : World) : Calls Tryd.prog 31 #[.int .i64 (n : Int)] w fun e w' => ∃ b, e = .returned (.slice (some ⟨b, 0, none⟩) n n) ∧ OwnI w' w.heap.size (.slice (some ⟨b, 0, none⟩) n n) (P.rowOf n fun _ => -1) ∧ Below w.heap.size w w' := by
  go_enter Tryd.func31, Tryd.ntmps31
  go_wp2_with (refine wpl_make elInt rfl (.tmp 5) (.tmp 5) rfl n rfl rfl (by omega) (by omega) ?_; intro w7 hown7 hg7 hs7)
  have HO7 := Lib.hid hown7
  have HG7 := Lib.hid (below_of_grown hg7)
  clear hown7 hg7 hs7
  obtain ⟨pm, hpm⟩ : ∃ pm, w.heap.size = pm := ⟨_, rfl⟩
  rw [hpm] at HO7 HG7 ⊢
  have HPM := Lib.hid hpm
  clear hpm
  go_wp2_with fail
  go_loopw [9] (fun i wr => ∃ k : Nat, k ≤ n ∧ i = .int .i64 (k : Int) ∧ OwnI wr pm (.slice (some ⟨pm, 0, none⟩) n n) (P.rowOf n (fun y => if y < k then -1 else 0)) ∧ Below pm w wr) (fun i _ => n - (intOf i).toNat)
  case atStart =>
    refine ⟨0, Nat.zero_le _, rfl, ?_, HG7.out⟩
    have h := HO7.out
    unfold OwnI
    rw [P.rowOf_len]
    have e : (P.rowOf n (fun y => if y < 0 then -1 else 0)).map (Value.int .i64) = List.replicate n (.int .i64 0) := by
      unfold P.rowOf
      rw [List.map_map]
      apply List.ext_getElem?
      intro i
      rw [List.getElem?_map, List.getElem?_replicate]
      by_cases hi : i < n
      · rw [List.getElem?_range hi, if_pos hi]; simp
      · rw [List.getElem?_eq_none (by simpa using hi), if_neg hi]; rfl
    rw [e]
    exact h
  case round =>
    obtain ⟨k, hk, rfl, hown, hgr⟩ := hrel
    have HOW := Lib.hid hown
    have HGR := Lib.hid hgr
    clear hown hgr
    have hk0 : (0 : Int) ≤ (k : Int) := Int.natCast_nonneg _
    by_cases hlt : k < n
    · have fk : decide ((k : Int) < (n : Int)) = true := decide_eq_true (by omega)
      have hki : (k : Int) < (n : Int) := by omega
      obtain ⟨ck, fz⟩ := rowOf_cell HOW.out hlt
      have HREL := Lib.hid (show OwnI (wr.setCell ⟨pm, k, none⟩ (.int .i64 (-1))) pm (.slice (some ⟨pm, 0, none⟩) n n) (P.rowOf n (fun y => if y < k + 1 then -1 else 0)) from by
        have h := HOW.out.put k (-1)
        rw [P.rowOf_set] at h
        rw [show P.rowOf n (fun y => if y < k + 1 then (-1 : Int) else 0) = P.rowOf n (fun y => if y = k then -1 else if y < k then -1 else 0) from P.rowOf_congr fun y _ => by
          by_cases e : y = k
          · rw [if_pos (by omega), if_pos e]
          · rw [if_neg e]
            by_cases e2 : y < k
            · rw [if_pos (by omega), if_pos e2]
            · rw [if_neg (by omega), if_neg e2]]
        exact h)
      have HG2 := Lib.hid (HGR.out.setCell (p := ⟨pm, k, none⟩) (Nat.le_refl _) (.int .i64 (-1)))
      go_wp2_with fail
      go_roundw
      case rel => exact ⟨k + 1, by omega, by go_num, HREL.out, HG2.out⟩
      case measure => simp [intOf]; omega
    · have fk : decide ((k : Int) < (n : Int)) = false := decide_eq_false (by omega)
      have HMV := Lib.hid (show OwnI wr pm (.slice (some ⟨pm, 0, none⟩) n n) (P.rowOf n (fun _ => -1)) from by
        rw [show P.rowOf n (fun _ => (-1 : Int)) = P.rowOf n (fun y => if y < k then -1 else 0) from P.rowOf_congr fun y hy => by rw [if_pos (by omega)]]
        exact HOW.out)
      go_wp2_with fail
      exact bodyPost_ret (v := (.slice (some ⟨pm, 0, none⟩) n n)) (by simp [results, Tryd.results31, go_sem]) rfl ⟨pm, rfl, by rw [HPM.out]; exact HMV.out, by rw [HPM.out]; exact HGR.out⟩
end W
end Go.Proofs.YtpjmboonaciplaaDoor
