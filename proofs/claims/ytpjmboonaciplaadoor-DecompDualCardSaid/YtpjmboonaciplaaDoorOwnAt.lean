/- The positions of a player, of a priority: the program's sets. -/
import Derived.Test.YtpjmboonaciplaaDoorWhere
namespace Go.Proofs.YtpjmboonaciplaaDoor
open Go.RowKit
namespace W

set_option maxRecDepth 100000 in
set_option maxHeartbeats 1000000 in
theorem own_any (g : P.G) (v : Value) (n : Int) (w : World) (hv : GameV w v g) :
    Calls Tryd.prog 34 #[v, .int .i64 n] w fun e w' => e = .returned (.agg #[.int .u64 (P.wrd (P.places n g.owner g.owner.length) 0), .int .u64 (P.wrd (P.places n g.owner g.owner.length) 1), .int .u64 (P.wrd (P.places n g.owner g.owner.length) 2), .int .u64 (P.wrd (P.places n g.owner g.owner.length) 3)]) ∧ Below w.heap.size w w' := by
  obtain ⟨a, b, c, rfl, ha, hb, hc⟩ := hv
  have HX := Lib.hid ha
  clear ha hb hc
  go_enter Tryd.func34, Tryd.ntmps34
  go_wp2_with fail
  have hall := ((Below.refl w.heap.size w).alloc (Nat.le_refl _) (.cells #[a, b, c] 25)).alloc (by simp) (.cells #[.int .u64 0, .int .u64 0, .int .u64 0, .int .u64 0] 45)
  have hR := Blk.zero (heap_alloc2_new w (.cells #[a, b, c] 25) (.cells #[.int .u64 0, .int .u64 0, .int .u64 0, .int .u64 0] 45))
  refine (where_any _ g.owner n _ (HX.out.on hall)).mono ?_
  rintro e w' ⟨rfl, hb'⟩
  have hR' := hR.on hb'
  have HB := Lib.hid (hall.trans (hb'.mono hall.size))
  clear hb' hall hR
  have f0 := hR'.free 0
  have f1 := hR'.free 1
  have f2 := hR'.free 2
  have f3 := hR'.free 3
  have g0 := hR'.c0
  have g1 := hR'.c1
  have g2 := hR'.c2
  have g3 := hR'.c3
  have HR := Lib.hid hR'
  clear hR'
  go_wp2
  refine bodyPost_ret (v := .agg #[.int .u64 (P.wrd (P.places n g.owner g.owner.length) 0), .int .u64 (P.wrd (P.places n g.owner g.owner.length) 1), .int .u64 (P.wrd (P.places n g.owner g.owner.length) 2), .int .u64 (P.wrd (P.places n g.owner g.owner.length) 3)]) (results_cell_row Tryd.results34 _ _ (w.heap.size + 1) 45 _ (0, 0) _ rfl ((HR.out).store _) Tryd.underlying45 rfl (by kernel_rfl)) rfl ⟨rfl, ?_⟩
  exact (((HB.out.setCell (Nat.le_succ _) _).setCell (Nat.le_succ _) _).setCell (Nat.le_succ _) _).setCell (Nat.le_succ _) _

set_option maxRecDepth 100000 in
set_option maxHeartbeats 1000000 in
theorem at_any (g : P.G) (v : Value) (n : Int) (w : World) (hv : GameV w v g) :
    Calls Tryd.prog 56 #[v, .int .i64 n] w fun e w' => e = .returned (.agg #[.int .u64 (P.wrd (P.places n g.prio g.prio.length) 0), .int .u64 (P.wrd (P.places n g.prio g.prio.length) 1), .int .u64 (P.wrd (P.places n g.prio g.prio.length) 2), .int .u64 (P.wrd (P.places n g.prio g.prio.length) 3)]) ∧ Below w.heap.size w w' := by
  obtain ⟨a, b, c, rfl, ha, hb, hc⟩ := hv
  have HX := Lib.hid hb
  clear ha hb hc
  go_enter Tryd.func56, Tryd.ntmps56
  go_wp2_with fail
  have hall := ((Below.refl w.heap.size w).alloc (Nat.le_refl _) (.cells #[a, b, c] 25)).alloc (by simp) (.cells #[.int .u64 0, .int .u64 0, .int .u64 0, .int .u64 0] 45)
  have hR := Blk.zero (heap_alloc2_new w (.cells #[a, b, c] 25) (.cells #[.int .u64 0, .int .u64 0, .int .u64 0, .int .u64 0] 45))
  refine (where_any _ g.prio n _ (HX.out.on hall)).mono ?_
  rintro e w' ⟨rfl, hb'⟩
  have hR' := hR.on hb'
  have HB := Lib.hid (hall.trans (hb'.mono hall.size))
  clear hb' hall hR
  have f0 := hR'.free 0
  have f1 := hR'.free 1
  have f2 := hR'.free 2
  have f3 := hR'.free 3
  have g0 := hR'.c0
  have g1 := hR'.c1
  have g2 := hR'.c2
  have g3 := hR'.c3
  have HR := Lib.hid hR'
  clear hR'
  go_wp2
  refine bodyPost_ret (v := .agg #[.int .u64 (P.wrd (P.places n g.prio g.prio.length) 0), .int .u64 (P.wrd (P.places n g.prio g.prio.length) 1), .int .u64 (P.wrd (P.places n g.prio g.prio.length) 2), .int .u64 (P.wrd (P.places n g.prio g.prio.length) 3)]) (results_cell_row Tryd.results56 _ _ (w.heap.size + 1) 45 _ (0, 0) _ rfl ((HR.out).store _) Tryd.underlying45 rfl (by kernel_rfl)) rfl ⟨rfl, ?_⟩
  exact (((HB.out.setCell (Nat.le_succ _) _).setCell (Nat.le_succ _) _).setCell (Nat.le_succ _) _).setCell (Nat.le_succ _) _
end W
end Go.Proofs.YtpjmboonaciplaaDoor
