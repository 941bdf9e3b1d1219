/- The document's examples on sets hold, as the program answers them: the walk of 'shown'. -/
import Derived.Test.YtoopjgajpooehaaDoorLeaf2
import Derived.Test.YtoopjgajpooehaaDoorLeaf4
import Derived.Test.YtoopjgajpooehaaDoorOf
import Derived.Test.YtoopjgajpooehaaDoorList
namespace Go.Proofs.YtoopjgajpooehaaDoor
open Go.RowKit Go.Sort
namespace W
theorem eq_full (w : World) : (binOp .eql 26 (.agg #[.int .u64 (P.wrd (P.full 3) 0), .int .u64 (P.wrd (P.full 3) 1), .int .u64 (P.wrd (P.full 3) 2), .int .u64 (P.wrd (P.full 3) 3)]) (.agg #[.int .u64 7, .int .u64 0, .int .u64 0, .int .u64 0])).run Tryd.prog w = .ok (.bool true) w := by
  rw [set_eq4]
  exact congrArg (fun b => Result.ok (Value.bool b) w) (by decide +kernel)
theorem eq_s (w : World) : (binOp .eql 26 (.agg #[.int .u64 (P.wrd (P.ofL [64, 2, 64, -1, 256]) 0), .int .u64 (P.wrd (P.ofL [64, 2, 64, -1, 256]) 1), .int .u64 (P.wrd (P.ofL [64, 2, 64, -1, 256]) 2), .int .u64 (P.wrd (P.ofL [64, 2, 64, -1, 256]) 3)]) (.agg #[.int .u64 4, .int .u64 1, .int .u64 0, .int .u64 0])).run Tryd.prog w = .ok (.bool true) w := by
  rw [set_eq4]
  exact congrArg (fun b => Result.ok (Value.bool b) w) (by decide +kernel)
theorem eq_less (w : World) : (binOp .eql 26 (.agg #[.int .u64 (P.wrd (((P.ofL [64, 2, 64, -1, 256]) ||| P.bit 0) &&& ~~~P.bit 2) 0), .int .u64 (P.wrd (((P.ofL [64, 2, 64, -1, 256]) ||| P.bit 0) &&& ~~~P.bit 2) 1), .int .u64 (P.wrd (((P.ofL [64, 2, 64, -1, 256]) ||| P.bit 0) &&& ~~~P.bit 2) 2), .int .u64 (P.wrd (((P.ofL [64, 2, 64, -1, 256]) ||| P.bit 0) &&& ~~~P.bit 2) 3)]) (.agg #[.int .u64 1, .int .u64 1, .int .u64 0, .int .u64 0])).run Tryd.prog w = .ok (.bool true) w := by
  rw [set_eq4]
  exact congrArg (fun b => Result.ok (Value.bool b) w) (by decide +kernel)
theorem eq_minus (w : World) : (binOp .eql 26 (.agg #[.int .u64 (P.wrd ((P.ofL [1, 2]) &&& ~~~(P.ofL [2, 3])) 0), .int .u64 (P.wrd ((P.ofL [1, 2]) &&& ~~~(P.ofL [2, 3])) 1), .int .u64 (P.wrd ((P.ofL [1, 2]) &&& ~~~(P.ofL [2, 3])) 2), .int .u64 (P.wrd ((P.ofL [1, 2]) &&& ~~~(P.ofL [2, 3])) 3)]) (.agg #[.int .u64 2, .int .u64 0, .int .u64 0, .int .u64 0])).run Tryd.prog w = .ok (.bool true) w := by
  rw [set_eq4]
  exact congrArg (fun b => Result.ok (Value.bool b) w) (by decide +kernel)

theorem s_len : ((P.len (P.ofL [64, 2, 64, -1, 256]) : Nat) : Int) = 2 := by decide +kernel
theorem s_least : P.least (P.ofL [64, 2, 64, -1, 256]) = 2 := by decide +kernel
theorem s_has : P.has (P.ofL [64, 2, 64, -1, 256]) 64 = true := by decide +kernel
theorem s_hasnt : P.has (P.ofL [64, 2, 64, -1, 256]) 3 = false := by decide +kernel
theorem s_lst : P.lst (P.ofL [64, 2, 64, -1, 256]) = [2, 64] := by decide +kernel
theorem of_lit (zs : List Int) (w : World) (hm : zs.length ≤ maxLen) :
    Calls Tryd.prog 14 #[.slice (some ⟨w.heap.size, 0, none⟩) zs.length zs.length] (w.alloc (.cells (zs.map fun z => Value.int .i64 z).toArray 3)) fun e w' => e = .returned (.agg #[.int .u64 (P.wrd (P.ofL zs) 0), .int .u64 (P.wrd (P.ofL zs) 1), .int .u64 (P.wrd (P.ofL zs) 2), .int .u64 (P.wrd (P.ofL zs) 3)]) ∧ Below w.heap.size w w' := by
  have h := of_any w.heap.size 0 zs.length zs.length zs (w.alloc (.cells (zs.map fun z => Value.int .i64 z).toArray 3)) (Nat.le_refl _) hm (by simp) (fun j hj => by
    rw [Nat.zero_add, World.cell?_alloc_at _ _ _ _ rfl]
    simp [List.getD, hj])
  rw [List.take_length] at h
  exact h.mono fun e w' ⟨he, hb⟩ => ⟨he, ((Below.refl _ _).alloc (Nat.le_refl _) _).trans (hb.mono (by simp))⟩
set_option maxHeartbeats 2000000 in
theorem shown_any (w : World) (hT : Tab w) : Calls Tryd.prog 12 #[] w fun e w' => e = .returned (.bool true) ∧ Below w.heap.size w w' := by
  have HT := Lib.hid hT
  clear hT
  have e1 := eq_full
  have e2 := eq_s
  have e3 := eq_less
  have e4 := eq_minus
  have l1 := s_len
  have l2 := s_least
  have l3 := s_has
  have l4 := s_hasnt
  go_enter Tryd.func12, Tryd.ntmps12
  go_wp2_with fail
  refine (of_lit [64, 2, 64, -1, 256] w (by decide)).mono ?_
  rintro e w1 ⟨rfl, hb1⟩
  have HB1 := Lib.hid hb1
  have hz1 := hb1.size
  clear hb1
  go_wp2_with fail
  refine (list_any _ _ ?_).mono ?_
  · exact HT.out.on (HB1.out.alloc hz1 _)
  rintro e w2 ⟨v, rfl, hown, hb2⟩
  have hL : P.lst (P.ofL [64, 2, 64, -1, 256]) = [2, 64] := s_lst
  rw [hL] at hown
  obtain ⟨g, cap, rfl⟩ : ∃ g cap, v = .slice (some ⟨g, 0, none⟩) 2 cap := by
    rcases hown.2 with ⟨_, h⟩ | ⟨g, cap, cur, h, _⟩
    · cases h
    · exact ⟨g, cap, h⟩
  have HD0 := Lib.hid (show w2.cell? ⟨g, 0, none⟩ = some (.int .i64 2) from hown.cellAt 0 (by decide))
  have HD1 := Lib.hid (show w2.cell? ⟨g, 1, none⟩ = some (.int .i64 64) from hown.cellAt 1 (by decide))
  have HG := Lib.hid (show g < w2.heap.size from (hown.lt g rfl).2)
  have HTT := Lib.hid (show Tab w2 from (HT.out.on (HB1.out.alloc hz1 _)).on hb2)
  have HK := Lib.hid ((Blk.new w1 (P.ofL [64, 2, 64, -1, 256]) 26).on hb2)
  have HB2 := Lib.hid (show Below w.heap.size w w2 from (HB1.out.alloc hz1 _).trans (hb2.mono (HB1.out.alloc hz1 _).size))
  have HX0 := Lib.hid (Below.refl w2.heap.size w2)
  clear hown hb2 hz1 hL
  have a0 := HK.out.c0
  have a1 := HK.out.c1
  have a2 := HK.out.c2
  have a3 := HK.out.c3
  have d0 := HD0.out
  have d1 := HD1.out
  go_wp2_with fail
  refine (full_any _ _).mono ?_
  rintro e w' ⟨rfl, hb⟩
  have HX1 := Lib.hid (HX0.out.trans (hb.mono HX0.out.size))
  clear hb a0 a1 a2 a3 d0 d1
  have a0 := (HK.out.on HX1.out).c0
  have a1 := (HK.out.on HX1.out).c1
  have a2 := (HK.out.on HX1.out).c2
  have a3 := (HK.out.on HX1.out).c3
  have d0 := (HX1.out.cell (p := ⟨g, 0, none⟩) HG.out).trans HD0.out
  have d1 := (HX1.out.cell (p := ⟨g, 1, none⟩) HG.out).trans HD1.out
  go_wp2_with fail
  refine (len_any _ _).mono ?_
  rintro e w' ⟨rfl, hb⟩
  have HX2 := Lib.hid (HX1.out.trans (hb.mono HX1.out.size))
  clear hb a0 a1 a2 a3 d0 d1
  have a0 := (HK.out.on HX2.out).c0
  have a1 := (HK.out.on HX2.out).c1
  have a2 := (HK.out.on HX2.out).c2
  have a3 := (HK.out.on HX2.out).c3
  have d0 := (HX2.out.cell (p := ⟨g, 0, none⟩) HG.out).trans HD0.out
  have d1 := (HX2.out.cell (p := ⟨g, 1, none⟩) HG.out).trans HD1.out
  go_wp2_with fail
  refine (least_any _ _ ?_).mono ?_
  · exact HTT.out.on HX2.out
  rintro e w' ⟨rfl, hb⟩
  have HX3 := Lib.hid (HX2.out.trans (hb.mono HX2.out.size))
  clear hb a0 a1 a2 a3 d0 d1
  have a0 := (HK.out.on HX3.out).c0
  have a1 := (HK.out.on HX3.out).c1
  have a2 := (HK.out.on HX3.out).c2
  have a3 := (HK.out.on HX3.out).c3
  have d0 := (HX3.out.cell (p := ⟨g, 0, none⟩) HG.out).trans HD0.out
  have d1 := (HX3.out.cell (p := ⟨g, 1, none⟩) HG.out).trans HD1.out
  go_wp2_with fail
  refine (has_any _ _ _).mono ?_
  rintro e w' ⟨rfl, hb⟩
  have HX4 := Lib.hid (HX3.out.trans (hb.mono HX3.out.size))
  clear hb a0 a1 a2 a3 d0 d1
  have a0 := (HK.out.on HX4.out).c0
  have a1 := (HK.out.on HX4.out).c1
  have a2 := (HK.out.on HX4.out).c2
  have a3 := (HK.out.on HX4.out).c3
  have d0 := (HX4.out.cell (p := ⟨g, 0, none⟩) HG.out).trans HD0.out
  have d1 := (HX4.out.cell (p := ⟨g, 1, none⟩) HG.out).trans HD1.out
  go_wp2_with fail
  refine (has_any _ _ _).mono ?_
  rintro e w' ⟨rfl, hb⟩
  have HX5 := Lib.hid (HX4.out.trans (hb.mono HX4.out.size))
  clear hb a0 a1 a2 a3 d0 d1
  have a0 := (HK.out.on HX5.out).c0
  have a1 := (HK.out.on HX5.out).c1
  have a2 := (HK.out.on HX5.out).c2
  have a3 := (HK.out.on HX5.out).c3
  have d0 := (HX5.out.cell (p := ⟨g, 0, none⟩) HG.out).trans HD0.out
  have d1 := (HX5.out.cell (p := ⟨g, 1, none⟩) HG.out).trans HD1.out
  go_wp2_with fail
  refine (with_any _ _ _).mono ?_
  rintro e w' ⟨rfl, hb⟩
  have HX6 := Lib.hid (HX5.out.trans (hb.mono HX5.out.size))
  clear hb a0 a1 a2 a3 d0 d1
  have a0 := (HK.out.on HX6.out).c0
  have a1 := (HK.out.on HX6.out).c1
  have a2 := (HK.out.on HX6.out).c2
  have a3 := (HK.out.on HX6.out).c3
  have d0 := (HX6.out.cell (p := ⟨g, 0, none⟩) HG.out).trans HD0.out
  have d1 := (HX6.out.cell (p := ⟨g, 1, none⟩) HG.out).trans HD1.out
  go_wp2_with fail
  refine (less_any _ _ _).mono ?_
  rintro e w' ⟨rfl, hb⟩
  have HX7 := Lib.hid (HX6.out.trans (hb.mono HX6.out.size))
  clear hb a0 a1 a2 a3 d0 d1
  have a0 := (HK.out.on HX7.out).c0
  have a1 := (HK.out.on HX7.out).c1
  have a2 := (HK.out.on HX7.out).c2
  have a3 := (HK.out.on HX7.out).c3
  have d0 := (HX7.out.cell (p := ⟨g, 0, none⟩) HG.out).trans HD0.out
  have d1 := (HX7.out.cell (p := ⟨g, 1, none⟩) HG.out).trans HD1.out
  go_wp2_with fail
  refine (of_lit [1, 2] _ (by decide)).mono ?_
  rintro e w' ⟨rfl, hb⟩
  have HX8 := Lib.hid (HX7.out.trans (hb.mono HX7.out.size))
  clear hb a0 a1 a2 a3 d0 d1
  have a0 := (HK.out.on HX8.out).c0
  have a1 := (HK.out.on HX8.out).c1
  have a2 := (HK.out.on HX8.out).c2
  have a3 := (HK.out.on HX8.out).c3
  have d0 := (HX8.out.cell (p := ⟨g, 0, none⟩) HG.out).trans HD0.out
  have d1 := (HX8.out.cell (p := ⟨g, 1, none⟩) HG.out).trans HD1.out
  go_wp2_with fail
  refine (of_lit [2, 3] _ (by decide)).mono ?_
  rintro e w' ⟨rfl, hb⟩
  have HX9 := Lib.hid (HX8.out.trans (hb.mono HX8.out.size))
  clear hb a0 a1 a2 a3 d0 d1
  have a0 := (HK.out.on HX9.out).c0
  have a1 := (HK.out.on HX9.out).c1
  have a2 := (HK.out.on HX9.out).c2
  have a3 := (HK.out.on HX9.out).c3
  have d0 := (HX9.out.cell (p := ⟨g, 0, none⟩) HG.out).trans HD0.out
  have d1 := (HX9.out.cell (p := ⟨g, 1, none⟩) HG.out).trans HD1.out
  go_wp2_with fail
  refine (minus_any _ _ _).mono ?_
  rintro e w' ⟨rfl, hb⟩
  have HX10 := Lib.hid (HX9.out.trans (hb.mono HX9.out.size))
  clear hb a0 a1 a2 a3 d0 d1
  have a0 := (HK.out.on HX10.out).c0
  have a1 := (HK.out.on HX10.out).c1
  have a2 := (HK.out.on HX10.out).c2
  have a3 := (HK.out.on HX10.out).c3
  have d0 := (HX10.out.cell (p := ⟨g, 0, none⟩) HG.out).trans HD0.out
  have d1 := (HX10.out.cell (p := ⟨g, 1, none⟩) HG.out).trans HD1.out
  go_wp2_with fail
  go_ret
  exact ⟨rfl, HB2.out.trans (HX10.out.mono HB2.out.size)⟩
end W
end Go.Proofs.YtoopjgajpooehaaDoor
