/- The places of a list at which a number stands: the program's set. The positions of a player, of a priority: the program's sets. Where a number stands: plain. -/
import Derived.Test.YtghdjkpndhcplaaDoorMemA
import Derived.Test.YtghdjkpndhcplaaDoorMoves
section
namespace Go.Proofs.YtghdjkpndhcplaaDoor
open Go.RowKit Go.Sort
namespace P
/-- The places, of the first k, at which a number stands. -/
def places (n : Int) (zs : List Int) (k : Nat) : BitVec 256 := (List.range k).foldl (fun s i => if zs.getD i 0 = n then s ||| bit (i : Int) else s) 0#256
theorem places_succ (n : Int) (zs : List Int) (k : Nat) : places n zs (k + 1) = if zs.getD k 0 = n then places n zs k ||| bit (k : Int) else places n zs k := by
  unfold places
  rw [List.range_succ, List.foldl_append]
  rfl
end P
namespace W

set_option maxRecDepth 100000 in
set_option maxHeartbeats 1000000 in
theorem where_any (v : Value) (zs : List Int) (n : Int) (w : World) (hv : Ints w v zs) :
    Calls Tryd.prog 28 #[v, .int .i64 n] w fun e w' => e = .returned (.agg #[.int .u64 (P.wrd (P.places n zs zs.length) 0), .int .u64 (P.wrd (P.places n zs zs.length) 1), .int .u64 (P.wrd (P.places n zs zs.length) 2), .int .u64 (P.wrd (P.places n zs zs.length) 3)]) ∧ Below w.heap.size w w' := by
  obtain ⟨ao, cap, rfl, hz, hc⟩ := hv
  have HC := Lib.hid hc
  clear hc
  obtain ⟨len, hlen⟩ : ∃ len, zs.length = len := ⟨_, rfl⟩
  rw [hlen] at hz ⊢
  have HL := Lib.hid hlen
  clear hlen
  go_enter Tryd.func28, Tryd.ntmps28
  go_wp2_with fail
  go_loopw [10] (fun i wr => ∃ k : Nat, k ≤ len ∧ i = .int .i64 k ∧ Blk wr (w.heap.size + 1) (P.places n zs k) 37 ∧ Below (w.heap.size + 1) ((w.alloc (.cells #[.int .u64 0, .int .u64 0, .int .u64 0, .int .u64 0] 37)).alloc (.cells #[.int .u64 0, .int .u64 0, .int .u64 0, .int .u64 0] 37)) wr) (fun i _ => len - (intOf i).toNat)
  case atStart => exact ⟨0, Nat.zero_le _, rfl, Blk.zero (heap_alloc2_new w _ _), Below.refl _ _⟩
  case round =>
    obtain ⟨k, hk, rfl, hB, hW⟩ := hrel
    have hlt0 := hB.lt
    have hk0 : (0 : Int) ≤ (k : Int) := Int.natCast_nonneg _
    have f0 := hB.free 0
    have f1 := hB.free 1
    have f2 := hB.free 2
    have f3 := hB.free 3
    have g0 := hB.c0
    have g1 := hB.c1
    have g2 := hB.c2
    have g3 := hB.c3
    by_cases hlt : k < len
    · have hkl : k < zs.length := by rw [HL.out]; exact hlt
      obtain ⟨b, off, rfl, hb, hc⟩ := HC.out.resolve_left (fun e => by rw [e] at hkl; exact absurd hkl (Nat.not_lt_zero k))
      obtain ⟨x, hx⟩ : ∃ x, zs.getD k 0 = x := ⟨_, rfl⟩
      have hcell : wr.cell? ⟨b, off + k, none⟩ = some (.int .i64 x) := by
        rw [hW.cell (p := ⟨b, off + k, none⟩) (by show b < _; omega), World.cell?_alloc_past _ _ _ (by simp; omega), World.cell?_alloc_past _ _ _ hb, ← hx]; exact hc k hkl
      have fk : decide ((k : Int) < (len : Int)) = true := decide_eq_true (by omega)
      have HB := Lib.hid hB
      have HW := Lib.hid hW
      have HT := Lib.hid (P.places_succ n zs k)
      rw [hx] at HT
      by_cases e : x = n
      · have ge : (x == n) = true := by rw [beq_iff_eq]; exact e
        rw [if_pos e] at HT
        clear hB hW e hx hc hkl
        go_wp2_with fail
        refine (with_any _ _ _).mono ?_
        rintro e w1 ⟨rfl, hb1⟩
        have hB1 := HB.out.on hb1
        have HW1 := Lib.hid (HW.out.trans (hb1.mono (by have := hB1.lt; omega)))
        clear hb1 f0 f1 f2 f3 g0 g1 g2 g3 hcell
        have f0 := hB1.free 0
        have f1 := hB1.free 1
        have f2 := hB1.free 2
        have f3 := hB1.free 3
        have g0 := hB1.c0
        have g1 := hB1.c1
        have g2 := hB1.c2
        have g3 := hB1.c3
        have HB1 := Lib.hid hB1
        clear hB1
        go_wp2
        go_roundw
        case rel => exact ⟨k + 1, by omega, by go_num, by rw [HT.out]; exact HB1.out.store _, (((HW1.out.setCell (Nat.le_refl _) _).setCell (Nat.le_refl _) _).setCell (Nat.le_refl _) _).setCell (Nat.le_refl _) _⟩
        case measure => simp [intOf]; omega
      · have ge : (x == n) = false := by rw [beq_eq_false_iff_ne]; exact e
        rw [if_neg e] at HT
        clear hB hW e hx hc hkl
        go_wp2_with fail
        go_roundw
        case rel => exact ⟨k + 1, by omega, by go_num, by rw [HT.out]; exact HB.out, HW.out⟩
        case measure => simp [intOf]; omega
    · obtain rfl : k = len := by omega
      have hR : wr.frozen? ⟨w.heap.size, 0, none⟩ = false ∧ wr.frozen? ⟨w.heap.size, 1, none⟩ = false ∧ wr.frozen? ⟨w.heap.size, 2, none⟩ = false ∧ wr.frozen? ⟨w.heap.size, 3, none⟩ = false := by
        refine ⟨?_, ?_, ?_, ?_⟩ <;> (rw [hW.frozen (by show w.heap.size < _; omega)]; simp [go_sem])
      obtain ⟨r0, r1, r2, r3⟩ := hR
      have hC : wr.cell? ⟨w.heap.size, 0, none⟩ = some (.int .u64 0) ∧ wr.cell? ⟨w.heap.size, 1, none⟩ = some (.int .u64 0) ∧ wr.cell? ⟨w.heap.size, 2, none⟩ = some (.int .u64 0) ∧ wr.cell? ⟨w.heap.size, 3, none⟩ = some (.int .u64 0) := by
        refine ⟨?_, ?_, ?_, ?_⟩ <;> (rw [hW.cell (by show w.heap.size < _; omega)]; simp [go_sem])
      obtain ⟨q0, q1, q2, q3⟩ := hC
      have HR := Lib.hid (show Blk wr w.heap.size 0#256 37 from Blk.zero (by rw [hW.block w.heap.size (by omega)]; exact heap_alloc2_old w _ _))
      have HW := Lib.hid hW
      clear hW hB
      go_wp2
      refine bodyPost_ret (v := .agg #[.int .u64 (P.wrd (P.places n zs k) 0), .int .u64 (P.wrd (P.places n zs k) 1), .int .u64 (P.wrd (P.places n zs k) 2), .int .u64 (P.wrd (P.places n zs k) 3)]) (results_cell_row Tryd.results28 _ _ w.heap.size 37 _ (0, 0) _ rfl ((HR.out).store _) Tryd.underlying37 rfl (by kernel_rfl)) rfl ⟨rfl, ?_⟩
      refine Below.trans ?_ ((((HW.out.mono (Nat.le_succ w.heap.size)).setCell (Nat.le_refl _) _).setCell (Nat.le_refl _) _).setCell (Nat.le_refl _) _ |>.setCell (Nat.le_refl _) _)
      exact ((Below.refl _ _).alloc (Nat.le_refl _) _).alloc (by simp) _
end W
end Go.Proofs.YtghdjkpndhcplaaDoor
end
section
namespace Go.Proofs.YtghdjkpndhcplaaDoor
open Go.RowKit
namespace W

set_option maxRecDepth 100000 in
set_option maxHeartbeats 1000000 in
theorem own_any (g : P.G) (v : Value) (n : Int) (w : World) (hv : GameV w v g) :
    Calls Tryd.prog 16 #[v, .int .i64 n] w fun e w' => e = .returned (.agg #[.int .u64 (P.wrd (P.places n g.owner g.owner.length) 0), .int .u64 (P.wrd (P.places n g.owner g.owner.length) 1), .int .u64 (P.wrd (P.places n g.owner g.owner.length) 2), .int .u64 (P.wrd (P.places n g.owner g.owner.length) 3)]) ∧ Below w.heap.size w w' := by
  obtain ⟨a, b, c, rfl, ha, hb, hc⟩ := hv
  have HX := Lib.hid ha
  clear ha hb hc
  go_enter Tryd.func16, Tryd.ntmps16
  go_wp2_with fail
  have hall := ((Below.refl w.heap.size w).alloc (Nat.le_refl _) (.cells #[a, b, c] 25)).alloc (by simp) (.cells #[.int .u64 0, .int .u64 0, .int .u64 0, .int .u64 0] 37)
  have hR := Blk.zero (heap_alloc2_new w (.cells #[a, b, c] 25) (.cells #[.int .u64 0, .int .u64 0, .int .u64 0, .int .u64 0] 37))
  refine (where_any _ g.owner n _ (HX.out.on hall)).mono ?_
  rintro e w' ⟨rfl, hb'⟩
  have hR' := hR.on hb'
  have HB := Lib.hid (hall.trans (hb'.mono hall.size))
  clear hb' hall hR
  have f0 := hR'.free 0
  have f1 := hR'.free 1
  have f2 := hR'.free 2
  have f3 := hR'.free 3
  have g0 := hR'.c0
  have g1 := hR'.c1
  have g2 := hR'.c2
  have g3 := hR'.c3
  have HR := Lib.hid hR'
  clear hR'
  go_wp2
  refine bodyPost_ret (v := .agg #[.int .u64 (P.wrd (P.places n g.owner g.owner.length) 0), .int .u64 (P.wrd (P.places n g.owner g.owner.length) 1), .int .u64 (P.wrd (P.places n g.owner g.owner.length) 2), .int .u64 (P.wrd (P.places n g.owner g.owner.length) 3)]) (results_cell_row Tryd.results16 _ _ (w.heap.size + 1) 37 _ (0, 0) _ rfl ((HR.out).store _) Tryd.underlying37 rfl (by kernel_rfl)) rfl ⟨rfl, ?_⟩
  exact (((HB.out.setCell (Nat.le_succ _) _).setCell (Nat.le_succ _) _).setCell (Nat.le_succ _) _).setCell (Nat.le_succ _) _

set_option maxRecDepth 100000 in
set_option maxHeartbeats 1000000 in
theorem at_any (g : P.G) (v : Value) (n : Int) (w : World) (hv : GameV w v g) :
    Calls Tryd.prog 32 #[v, .int .i64 n] w fun e w' => e = .returned (.agg #[.int .u64 (P.wrd (P.places n g.prio g.prio.length) 0), .int .u64 (P.wrd (P.places n g.prio g.prio.length) 1), .int .u64 (P.wrd (P.places n g.prio g.prio.length) 2), .int .u64 (P.wrd (P.places n g.prio g.prio.length) 3)]) ∧ Below w.heap.size w w' := by
  obtain ⟨a, b, c, rfl, ha, hb, hc⟩ := hv
  have HX := Lib.hid hb
  clear ha hb hc
  go_enter Tryd.func32, Tryd.ntmps32
  go_wp2_with fail
  have hall := ((Below.refl w.heap.size w).alloc (Nat.le_refl _) (.cells #[a, b, c] 25)).alloc (by simp) (.cells #[.int .u64 0, .int .u64 0, .int .u64 0, .int .u64 0] 37)
  have hR := Blk.zero (heap_alloc2_new w (.cells #[a, b, c] 25) (.cells #[.int .u64 0, .int .u64 0, .int .u64 0, .int .u64 0] 37))
  refine (where_any _ g.prio n _ (HX.out.on hall)).mono ?_
  rintro e w' ⟨rfl, hb'⟩
  have hR' := hR.on hb'
  have HB := Lib.hid (hall.trans (hb'.mono hall.size))
  clear hb' hall hR
  have f0 := hR'.free 0
  have f1 := hR'.free 1
  have f2 := hR'.free 2
  have f3 := hR'.free 3
  have g0 := hR'.c0
  have g1 := hR'.c1
  have g2 := hR'.c2
  have g3 := hR'.c3
  have HR := Lib.hid hR'
  clear hR'
  go_wp2
  refine bodyPost_ret (v := .agg #[.int .u64 (P.wrd (P.places n g.prio g.prio.length) 0), .int .u64 (P.wrd (P.places n g.prio g.prio.length) 1), .int .u64 (P.wrd (P.places n g.prio g.prio.length) 2), .int .u64 (P.wrd (P.places n g.prio g.prio.length) 3)]) (results_cell_row Tryd.results32 _ _ (w.heap.size + 1) 37 _ (0, 0) _ rfl ((HR.out).store _) Tryd.underlying37 rfl (by kernel_rfl)) rfl ⟨rfl, ?_⟩
  exact (((HB.out.setCell (Nat.le_succ _) _).setCell (Nat.le_succ _) _).setCell (Nat.le_succ _) _).setCell (Nat.le_succ _) _
end W
end Go.Proofs.YtghdjkpndhcplaaDoor
end
section
namespace Go.Proofs.YtghdjkpndhcplaaDoor
open Go.RowKit Go.Sort
namespace P
theorem getLsbD_places (n : Int) (zs : List Int) (i : Nat) (hi : i < 256) : ∀ k, (places n zs k).getLsbD i = (decide (i < k) && decide (zs.getD i 0 = n))
  | 0 => by unfold places; simp
  | k + 1 => by
    rw [places_succ]
    by_cases h : zs.getD k 0 = n
    · rw [if_pos h, BitVec.getLsbD_or, getLsbD_places n zs i hi k, getLsbD_bit]
      by_cases e : i = k
      · subst e
        have : ((i : Int) < 256) := by omega
        simp only [List.getD_eq_getElem?_getD] at h
        simp [this, h]
      · have e2 : ¬ (k : Int) = (i : Int) := by omega
        by_cases h1 : i < k
        · have : i < k + 1 := by omega
          simp [e2, h1, this]
        · have : ¬ i < k + 1 := by omega
          simp [e2, h1, this]
    · rw [if_neg h, getLsbD_places n zs i hi k]
      by_cases e : i = k
      · subst e
        simp only [List.getD_eq_getElem?_getD] at h
        simp [h]
      · by_cases h1 : i < k
        · have : i < k + 1 := by omega
          simp [h1, this]
        · have : ¬ i < k + 1 := by omega
          simp [h1, this]
end P
end Go.Proofs.YtghdjkpndhcplaaDoor
end
