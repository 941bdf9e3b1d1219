/- The set of a list's numbers: the walk. -/
import Derived.Test.YtpfponiidppldaaDoorMem
import Derived.IntWalk
import Derived.Lib.Hide
import Derived.Outline
namespace Go.Proofs.YtpfponiidppldaaDoor
open Go.RowKit Go.Sort
namespace P
/-- The set of those numbers of a list that may be in one. -/
def ofL (l : List Int) : BitVec 256 := l.foldl (fun s n => s ||| bit n) 0#256
theorem ofL_nil : ofL [] = 0#256 := rfl
theorem ofL_snoc (l : List Int) (n : Int) : ofL (l ++ [n]) = ofL l ||| bit n := by unfold ofL; rw [List.foldl_append]; rfl
theorem take_snoc (zs : List Int) (k : Nat) (hk : k < zs.length) : zs.take (k + 1) = zs.take k ++ [zs.getD k 0] := by
  rw [List.take_succ_eq_append_getElem hk]; simp [List.getD, List.getElem?_eq_getElem hk]
end P
namespace W
set_option maxHeartbeats 1000000 in
theorem of_any (b off len cap : Nat) (zs : List Int) (w : World) (hz : len ≤ zs.length) (hm : len ≤ maxLen) (hb : b < w.heap.size)
    (hc : ∀ j, j < len → w.cell? ⟨b, off + j, none⟩ = some (.int .i64 (zs.getD j 0))) :
    Calls Tryd.prog 24 #[.slice (some ⟨b, off, none⟩) len cap] w fun e w' => e = .returned (.agg #[.int .u64 (P.wrd (P.ofL (zs.take len)) 0), .int .u64 (P.wrd (P.ofL (zs.take len)) 1), .int .u64 (P.wrd (P.ofL (zs.take len)) 2), .int .u64 (P.wrd (P.ofL (zs.take len)) 3)]) ∧ Below w.heap.size w w' := by
  unfold maxLen at hm
  go_enter Tryd.func24, Tryd.ntmps24
  go_wp2
  go_loopw [8] (fun i wr => ∃ k : Nat, k ≤ len ∧ i = .int .i64 k ∧ Blk wr (w.heap.size + 1) (P.ofL (zs.take k)) 28 ∧ Below (w.heap.size + 1) ((w.alloc (.cells #[.int .u64 0, .int .u64 0, .int .u64 0, .int .u64 0] 28)).alloc (.cells #[.int .u64 0, .int .u64 0, .int .u64 0, .int .u64 0] 28)) wr) (fun i _ => len - (intOf i).toNat)
  case atStart => exact ⟨0, Nat.zero_le _, rfl, Blk.zero (heap_alloc2_new w _ _), Below.refl _ _⟩
  case round =>
    obtain ⟨k, hk, rfl, hB, hW⟩ := hrel
    have hlt := hB.lt
    have f0 := hB.free 0
    have f1 := hB.free 1
    have f2 := hB.free 2
    have f3 := hB.free 3
    have g0 := hB.c0
    have g1 := hB.c1
    have g2 := hB.c2
    have g3 := hB.c3
    by_cases hlt : k < len
    · have hcell : wr.cell? ⟨b, off + k, none⟩ = some (.int .i64 (zs.getD k 0)) := by
        rw [hW.cell (p := ⟨b, off + k, none⟩) (by show b < _; omega), World.cell?_alloc_past _ _ _ (by simp; omega), World.cell?_alloc_past _ _ _ hb]; exact hc k hlt
      have HB := Lib.hid hB
      have HW := Lib.hid hW
      have HT := Lib.hid (P.take_snoc zs k (by omega))
      clear hB hW
      go_wp2_with fail
      refine (with_any _ _ _).mono ?_
      rintro e w1 ⟨rfl, hb1⟩
      have hB1 := HB.out.on hb1
      have HW1 := Lib.hid (HW.out.trans (hb1.mono (by have := hB1.lt; omega)))
      clear hb1 f0 f1 f2 f3 g0 g1 g2 g3 hcell
      have f0 := hB1.free 0
      have f1 := hB1.free 1
      have f2 := hB1.free 2
      have f3 := hB1.free 3
      have g0 := hB1.c0
      have g1 := hB1.c1
      have g2 := hB1.c2
      have g3 := hB1.c3
      have HB1 := Lib.hid hB1
      clear hB1
      go_wp2
      go_roundw
      case rel => exact ⟨k + 1, by omega, by go_num, by rw [HT.out, P.ofL_snoc]; exact HB1.out.store _, (((HW1.out.setCell (Nat.le_refl _) _).setCell (Nat.le_refl _) _).setCell (Nat.le_refl _) _).setCell (Nat.le_refl _) _⟩
      case measure => simp [intOf]; omega
    · obtain rfl : k = len := by omega
      have hR : wr.frozen? ⟨w.heap.size, 0, none⟩ = false ∧ wr.frozen? ⟨w.heap.size, 1, none⟩ = false ∧ wr.frozen? ⟨w.heap.size, 2, none⟩ = false ∧ wr.frozen? ⟨w.heap.size, 3, none⟩ = false := by
        refine ⟨?_, ?_, ?_, ?_⟩ <;> (rw [hW.frozen (by show w.heap.size < _; omega)]; simp [go_sem])
      obtain ⟨r0, r1, r2, r3⟩ := hR
      have hC : wr.cell? ⟨w.heap.size, 0, none⟩ = some (.int .u64 0) ∧ wr.cell? ⟨w.heap.size, 1, none⟩ = some (.int .u64 0) ∧ wr.cell? ⟨w.heap.size, 2, none⟩ = some (.int .u64 0) ∧ wr.cell? ⟨w.heap.size, 3, none⟩ = some (.int .u64 0) := by
        refine ⟨?_, ?_, ?_, ?_⟩ <;> (rw [hW.cell (by show w.heap.size < _; omega)]; simp [go_sem])
      obtain ⟨q0, q1, q2, q3⟩ := hC
      have HR := Lib.hid (show Blk wr w.heap.size 0#256 28 from Blk.zero (by rw [hW.block w.heap.size (by omega)]; exact heap_alloc2_old w _ _))
      have HW := Lib.hid hW
      clear hW hB
      go_wp2
      refine bodyPost_ret (v := .agg #[.int .u64 (P.wrd (P.ofL (zs.take k)) 0), .int .u64 (P.wrd (P.ofL (zs.take k)) 1), .int .u64 (P.wrd (P.ofL (zs.take k)) 2), .int .u64 (P.wrd (P.ofL (zs.take k)) 3)]) (results_cell_row Tryd.results24 _ _ w.heap.size 28 _ (0, 0) _ rfl ((HR.out).store _) Tryd.underlying28 rfl (by kernel_rfl)) rfl ⟨rfl, ?_⟩
      refine Below.trans ?_ ((((HW.out.mono (Nat.le_succ w.heap.size)).setCell (Nat.le_refl _) _).setCell (Nat.le_refl _) _).setCell (Nat.le_refl _) _ |>.setCell (Nat.le_refl _) _)
      exact ((Below.refl _ _).alloc (Nat.le_refl _) _).alloc (by simp) _
end W
end Go.Proofs.YtpfponiidppldaaDoor
