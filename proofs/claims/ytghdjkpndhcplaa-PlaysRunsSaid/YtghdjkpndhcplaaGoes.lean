/- Is it one of a position's moves? The document's. -/
import Derived.Test.YtghdjkpndhcplaaSameGame
import Derived.Test.YtghdjkpndhcplaaGrowR
import Derived.Test.YtghdjkpndhcplaaReads
import Derived.Test.YtghdjkpndhcplaaMovP
import Derived.Test.YtghdjkpndhcplaaRCopy
import Derived.Deep.Cut
import Derived.Lib.Hide
import Derived.Deep.QuietTactic
import Derived.BigQuiet
import Derived.StillTailTactics
namespace Go.Proofs.Ytghdjkpndhcplaa
open Go.RowKit
namespace W

set_option maxRecDepth 100000 in
set_option maxHeartbeats 1000000 in
theorem goes_any (g : P.G) (hr : g.Right) (n : Nat) (hn : g.owner.length = n) (v : Value) (x : Nat) (z : Int) (w : World) (hv : GameV w v g) (hx : x < n) :
    Calls Try.prog 16 #[v, .int .i64 (x : Int), .int .i64 z] w fun e w' => e = .returned (.bool (decide (z ∈ g.moves.getD x []))) ∧ Below w.heap.size w w' := by
  have hop := hr.prio
  have hmp := hr.moves
  have h0 := hr.pos
  have hat := hr.at x (by omega)
  rw [hn] at hop hmp h0 hat
  obtain ⟨ba, oa, ka, bb, ob, kb, bc, oc, kc, rfl, -, -, hcc⟩ := hv.open_ hn hop hmp h0
  obtain ⟨row, hrow⟩ : ∃ row, g.moves.getD x [] = row := ⟨_, rfl⟩
  rw [hrow] at hat ⊢
  obtain ⟨rv, hcr, hri⟩ := hcc w (Below.refl _ _) x hx
  rw [hrow] at hri
  obtain ⟨k, hk⟩ : ∃ k, row.length = k := ⟨_, rfl⟩
  have hk0 : 0 < k := by
    rw [← hk]
    exact List.length_pos_iff.2 hat.2.2.2.1
  have hk1 : k ≤ 17592186043904 := by rw [← hk]; exact hri.fits1
  obtain ⟨bm, om, km, rfl, hcm⟩ := hri.open_ hk hk0
  have HCR : Hid (∀ w', Below w.heap.size w w' → w'.cell? ⟨bc, oc + x, none⟩ = some (.slice (some ⟨bm, om, none⟩) k km)) := Lib.hid fun w' hb => by rw [hb.cell (p := ⟨bc, oc + x, none⟩) (cell_lt hcr)]; exact hcr
  have HK := Lib.hid hk
  have HCM := Lib.hid hcm
  have hxi : (x : Int) < (n : Int) := by omega
  have hx0 : (0 : Int) ≤ (x : Int) := Int.natCast_nonneg _
  clear hr hn hop hmp hv hcc hat hrow hri hcr hk hcm
  go_enter Try.func16, Try.ntmps16
  go_wp2_with fail
  have bx0 : Box (w.alloc (.cells #[.slice (some ⟨ba, oa, none⟩) n ka, .slice (some ⟨bb, ob, none⟩) n kb, .slice (some ⟨bc, oc, none⟩) n kc] 25)) (w.heap.size) 25 #[.slice (some ⟨ba, oa, none⟩) n ka, .slice (some ⟨bb, ob, none⟩) n kb, .slice (some ⟨bc, oc, none⟩) n kc] := Box.new w 25 #[.slice (some ⟨ba, oa, none⟩) n ka, .slice (some ⟨bb, ob, none⟩) n kb, .slice (some ⟨bc, oc, none⟩) n kc]
  have hbq : Below w.heap.size w (w.alloc (.cells #[.slice (some ⟨ba, oa, none⟩) n ka, .slice (some ⟨bb, ob, none⟩) n kb, .slice (some ⟨bc, oc, none⟩) n kc] 25)) := (Below.refl _ w).alloc (Nat.le_refl _) _
  have hle0 : w.heap.size ≤ w.heap.size := Nat.le_refl _
  generalize (w.alloc (.cells #[.slice (some ⟨ba, oa, none⟩) n ka, .slice (some ⟨bb, ob, none⟩) n kb, .slice (some ⟨bc, oc, none⟩) n kc] 25)) = w0 at bx0 hbq  ⊢
  have BQ3 := Lib.hid bx0
  have W := Lib.hid hbq
  have LE3 := Lib.hid hle0
  clear hbq hle0 bx0 
  obtain ⟨q3, hq3⟩ : ∃ q3, w.heap.size = q3 := ⟨_, rfl⟩
  rw [hq3] at BQ3 ⊢
  have LE3 : Hid (w.heap.size ≤ q3) := Lib.hid (by omega)
  clear hq3
  go_loopw [7] (fun iv wr => ∃ j : Nat, j ≤ k ∧ iv = .int .i64 (j : Int) ∧ decide (z ∈ row) = decide (z ∈ row.drop j) ∧ wr = w0) (fun iv _ => k - (intOf iv).toNat)
  case atStart => exact ⟨0, Nat.zero_le _, rfl, rfl, by first | trivial | rfl⟩
  case round =>
    obtain ⟨j, hj, rfl, he, hw⟩ := hrel
    rw [hw]
    clear hw
    have HE := Lib.hid he
    clear he
    have hj0 : (0 : Int) ≤ (j : Int) := Int.natCast_nonneg _
    have hcr := HCR.out w0 W.out
    have gc0 : w0.cell? ⟨q3, 0, none⟩ = some (.slice (some ⟨ba, oa, none⟩) n ka) := BQ3.out.cell 0 _ rfl
    have gc1 : w0.cell? ⟨q3, 1, none⟩ = some (.slice (some ⟨bb, ob, none⟩) n kb) := BQ3.out.cell 1 _ rfl
    have gc2 : w0.cell? ⟨q3, 2, none⟩ = some (.slice (some ⟨bc, oc, none⟩) n kc) := BQ3.out.cell 2 _ rfl
    by_cases hlt : j < k
    · have fj : decide ((j : Int) < (k : Int)) = true := decide_eq_true (by omega)
      have hji : (j : Int) < (k : Int) := by omega
      have hjl : j < row.length := by rw [HK.out]; exact hlt
      have hcj := HCM.out w0 W.out j hlt
      have hd : row.drop j = row.getD j 0 :: row.drop (j + 1) := by
        rw [List.drop_eq_getElem_cons hjl]
        congr 1
        rw [List.getD_eq_getElem?_getD, List.getElem?_eq_getElem hjl]
        rfl
      generalize row.getD j 0 = u at hcj hd
      have HD := Lib.hid hd
      clear hd hjl
      by_cases e : u = z
      · have g1 : (u == z) = true := by rw [beq_iff_eq]; exact e
        have HF := Lib.hid (show decide (z ∈ row) = true by rw [HE.out, HD.out]; simp [e])
        clear e
        go_wp2_with fail
        go_ret
        exact ⟨by rw [HF.out]; rfl, W.out⟩
      · have g1 : (u == z) = false := by rw [beq_eq_false_iff_ne]; exact e
        have HF := Lib.hid (show decide (z ∈ row) = decide (z ∈ row.drop (j + 1)) by rw [HE.out, HD.out]; simp [Ne.symm e])
        clear e
        go_wp2_with fail
        go_roundw
        case rel => exact ⟨j + 1, by omega, by go_num, HF.out, by first | trivial | rfl⟩
        case measure => simp [intOf]; omega
    · have fj : decide ((j : Int) < (k : Int)) = false := decide_eq_false (by omega)
      have HF := Lib.hid (show decide (z ∈ row) = false by rw [HE.out, List.drop_eq_nil_of_le (by rw [HK.out]; omega)]; simp)
      go_wp2_with fail
      go_ret
      exact ⟨by rw [HF.out]; rfl, W.out⟩
end W
end Go.Proofs.Ytghdjkpndhcplaa
