/- AttractAgain: the walk. -/
import Derived.Test.YtpfponiidppldaaDoorShown
import Derived.Test.YtpfponiidppldaaDoorLeaf2
import Derived.Test.YtpfponiidppldaaDoorSetN
import Derived.Deep.Cut
namespace Go.Proofs.YtpfponiidppldaaDoor
open Go.RowKit
namespace W

theorem again_moves {g : P.G} {I To : BitVec 256} {p : Int} {m : List Int} (h : if g.ok = true ∧ (p = 0 ∨ p = 1) then P.Played g (I &&& P.full (g.owner.length : Int)) p (P.attOf g I p To) m else m = []) : ∀ j, j < m.length → m.getD j 0 = -1 := by
  intro j hj
  by_cases hc : g.ok = true ∧ (p = 0 ∨ p = 1)
  · rw [if_pos hc] at h
    have hr := (P.G.ok_iff g).1 hc.1
    obtain ⟨A, Q, ou, v, hd, rfl⟩ := h
    rw [P.rowOf_len] at hj
    rw [List.getD_eq_getElem?_getD, P.rowOf_at v hj]
    refine hd.nones j ?_
    by_cases hm : j ∈ Q
    · refine .inr (.inl ?_)
      have h1 := hd.sub j hm
      have h2 : P.attOf g (I &&& P.full (g.owner.length : Int)) p To = P.attOf g I p To := P.attOf_full g I To p
      rw [P.attOf_ok hr hc.2]
      have h3 : ∀ i, i < 256 → ((P.attOf g I p To).getLsbD i = true ↔ P.Att g (I &&& P.full (g.owner.length : Int)) p To i) := fun i _ => by
        rw [← h2, P.attOf_ok hr hc.2, P.attSet_bit hr]
      have h4 := (P.att_again h3 j).1 h1
      rw [P.attSet_bit hr]
      exact (P.att_full hr j).1 h4
    · exact .inl hm
  · rw [if_neg hc] at h
    subst h
    exact absurd hj (Nat.not_lt_zero j)

theorem again_len {g : P.G} {I To : BitVec 256} {p : Int} {m : List Int} (h : if g.ok = true ∧ (p = 0 ∨ p = 1) then P.Played g (I &&& P.full (g.owner.length : Int)) p To m else m = []) : m.length ≤ 200 := by
  by_cases hc : g.ok = true ∧ (p = 0 ∨ p = 1)
  · rw [if_pos hc] at h
    have hr := (P.G.ok_iff g).1 hc.1
    obtain ⟨A, Q, ou, v, hd, rfl⟩ := h
    rw [P.rowOf_len]
    exact hr.many
  · rw [if_neg hc] at h
    rw [h]
    exact Nat.zero_le _
set_option maxRecDepth 100000 in
set_option maxHeartbeats 4000000 in
theorem again_any (g : P.G) (I To More : BitVec 256) (p : Int) (v : Value) (w : World) (hv : GameV w v g) (hT : Tab w) : Calls Tryd.prog 5 #[v, .agg #[.int .u64 (P.wrd I 0), .int .u64 (P.wrd I 1), .int .u64 (P.wrd I 2), .int .u64 (P.wrd I 3)], .int .i64 p, .agg #[.int .u64 (P.wrd To 0), .int .u64 (P.wrd To 1), .int .u64 (P.wrd To 2), .int .u64 (P.wrd To 3)], .agg #[.int .u64 (P.wrd More 0), .int .u64 (P.wrd More 1), .int .u64 (P.wrd More 2), .int .u64 (P.wrd More 3)]] w fun e w' => e = .returned (.bool true) ∧ Below w.heap.size w w' := by
  have HV := Lib.hid hv
  obtain ⟨a, b, c, rfl, -⟩ := hv
  have T := Lib.hid hT
  clear hT
  go_enter Tryd.func5, Tryd.ntmps5
  go_wp2_with fail
  have bx0 : Box ((((w.alloc (.cells #[a, b, c] 25)).alloc (.cells #[.int .u64 (P.wrd I 0), .int .u64 (P.wrd I 1), .int .u64 (P.wrd I 2), .int .u64 (P.wrd I 3)] 28)).alloc (.cells #[.int .u64 (P.wrd To 0), .int .u64 (P.wrd To 1), .int .u64 (P.wrd To 2), .int .u64 (P.wrd To 3)] 28)).alloc (.cells #[.int .u64 (P.wrd More 0), .int .u64 (P.wrd More 1), .int .u64 (P.wrd More 2), .int .u64 (P.wrd More 3)] 28)) (w.heap.size) 25 #[a, b, c] := Box.alloc (Box.alloc (Box.alloc (Box.new w 25 #[a, b, c]) (.cells #[.int .u64 (P.wrd I 0), .int .u64 (P.wrd I 1), .int .u64 (P.wrd I 2), .int .u64 (P.wrd I 3)] 28)) (.cells #[.int .u64 (P.wrd To 0), .int .u64 (P.wrd To 1), .int .u64 (P.wrd To 2), .int .u64 (P.wrd To 3)] 28)) (.cells #[.int .u64 (P.wrd More 0), .int .u64 (P.wrd More 1), .int .u64 (P.wrd More 2), .int .u64 (P.wrd More 3)] 28)
  have bx1 : Box ((((w.alloc (.cells #[a, b, c] 25)).alloc (.cells #[.int .u64 (P.wrd I 0), .int .u64 (P.wrd I 1), .int .u64 (P.wrd I 2), .int .u64 (P.wrd I 3)] 28)).alloc (.cells #[.int .u64 (P.wrd To 0), .int .u64 (P.wrd To 1), .int .u64 (P.wrd To 2), .int .u64 (P.wrd To 3)] 28)).alloc (.cells #[.int .u64 (P.wrd More 0), .int .u64 (P.wrd More 1), .int .u64 (P.wrd More 2), .int .u64 (P.wrd More 3)] 28)) (w.heap.size + 1) 28 #[.int .u64 (P.wrd I 0), .int .u64 (P.wrd I 1), .int .u64 (P.wrd I 2), .int .u64 (P.wrd I 3)] := by
    have := Box.alloc (Box.alloc (Box.new (w.alloc (.cells #[a, b, c] 25)) 28 #[.int .u64 (P.wrd I 0), .int .u64 (P.wrd I 1), .int .u64 (P.wrd I 2), .int .u64 (P.wrd I 3)]) (.cells #[.int .u64 (P.wrd To 0), .int .u64 (P.wrd To 1), .int .u64 (P.wrd To 2), .int .u64 (P.wrd To 3)] 28)) (.cells #[.int .u64 (P.wrd More 0), .int .u64 (P.wrd More 1), .int .u64 (P.wrd More 2), .int .u64 (P.wrd More 3)] 28)
    simpa using this
  have bx2 : Box ((((w.alloc (.cells #[a, b, c] 25)).alloc (.cells #[.int .u64 (P.wrd I 0), .int .u64 (P.wrd I 1), .int .u64 (P.wrd I 2), .int .u64 (P.wrd I 3)] 28)).alloc (.cells #[.int .u64 (P.wrd To 0), .int .u64 (P.wrd To 1), .int .u64 (P.wrd To 2), .int .u64 (P.wrd To 3)] 28)).alloc (.cells #[.int .u64 (P.wrd More 0), .int .u64 (P.wrd More 1), .int .u64 (P.wrd More 2), .int .u64 (P.wrd More 3)] 28)) (w.heap.size + 1 + 1) 28 #[.int .u64 (P.wrd To 0), .int .u64 (P.wrd To 1), .int .u64 (P.wrd To 2), .int .u64 (P.wrd To 3)] := by
    have := Box.alloc (Box.new ((w.alloc (.cells #[a, b, c] 25)).alloc (.cells #[.int .u64 (P.wrd I 0), .int .u64 (P.wrd I 1), .int .u64 (P.wrd I 2), .int .u64 (P.wrd I 3)] 28)) 28 #[.int .u64 (P.wrd To 0), .int .u64 (P.wrd To 1), .int .u64 (P.wrd To 2), .int .u64 (P.wrd To 3)]) (.cells #[.int .u64 (P.wrd More 0), .int .u64 (P.wrd More 1), .int .u64 (P.wrd More 2), .int .u64 (P.wrd More 3)] 28)
    simpa using this
  have bx3 : Box ((((w.alloc (.cells #[a, b, c] 25)).alloc (.cells #[.int .u64 (P.wrd I 0), .int .u64 (P.wrd I 1), .int .u64 (P.wrd I 2), .int .u64 (P.wrd I 3)] 28)).alloc (.cells #[.int .u64 (P.wrd To 0), .int .u64 (P.wrd To 1), .int .u64 (P.wrd To 2), .int .u64 (P.wrd To 3)] 28)).alloc (.cells #[.int .u64 (P.wrd More 0), .int .u64 (P.wrd More 1), .int .u64 (P.wrd More 2), .int .u64 (P.wrd More 3)] 28)) (w.heap.size + 1 + 1 + 1) 28 #[.int .u64 (P.wrd More 0), .int .u64 (P.wrd More 1), .int .u64 (P.wrd More 2), .int .u64 (P.wrd More 3)] := by
    have := Box.new (((w.alloc (.cells #[a, b, c] 25)).alloc (.cells #[.int .u64 (P.wrd I 0), .int .u64 (P.wrd I 1), .int .u64 (P.wrd I 2), .int .u64 (P.wrd I 3)] 28)).alloc (.cells #[.int .u64 (P.wrd To 0), .int .u64 (P.wrd To 1), .int .u64 (P.wrd To 2), .int .u64 (P.wrd To 3)] 28)) 28 #[.int .u64 (P.wrd More 0), .int .u64 (P.wrd More 1), .int .u64 (P.wrd More 2), .int .u64 (P.wrd More 3)]
    simpa using this
  have hbq : Below w.heap.size w ((((w.alloc (.cells #[a, b, c] 25)).alloc (.cells #[.int .u64 (P.wrd I 0), .int .u64 (P.wrd I 1), .int .u64 (P.wrd I 2), .int .u64 (P.wrd I 3)] 28)).alloc (.cells #[.int .u64 (P.wrd To 0), .int .u64 (P.wrd To 1), .int .u64 (P.wrd To 2), .int .u64 (P.wrd To 3)] 28)).alloc (.cells #[.int .u64 (P.wrd More 0), .int .u64 (P.wrd More 1), .int .u64 (P.wrd More 2), .int .u64 (P.wrd More 3)] 28)) := ((((Below.refl _ w).alloc (Nat.le_refl _) _).alloc (by simp) _).alloc (by simp; omega) _).alloc (by simp; omega) _
  have lt0 : w.heap.size < w.heap.size + 1 := Nat.lt_succ_self _
  have lt1 : w.heap.size + 1 < w.heap.size + 1 + 1 := Nat.lt_succ_self _
  have lt2 : w.heap.size + 1 + 1 < w.heap.size + 1 + 1 + 1 := Nat.lt_succ_self _
  have hle0 : w.heap.size ≤ w.heap.size := Nat.le_refl _
  generalize ((((w.alloc (.cells #[a, b, c] 25)).alloc (.cells #[.int .u64 (P.wrd I 0), .int .u64 (P.wrd I 1), .int .u64 (P.wrd I 2), .int .u64 (P.wrd I 3)] 28)).alloc (.cells #[.int .u64 (P.wrd To 0), .int .u64 (P.wrd To 1), .int .u64 (P.wrd To 2), .int .u64 (P.wrd To 3)] 28)).alloc (.cells #[.int .u64 (P.wrd More 0), .int .u64 (P.wrd More 1), .int .u64 (P.wrd More 2), .int .u64 (P.wrd More 3)] 28)) = w0 at bx0 bx1 bx2 bx3 hbq  ⊢
  have BQg := Lib.hid bx0
  have BQi := Lib.hid bx1
  have BQt := Lib.hid bx2
  have BQm := Lib.hid bx3
  have W := Lib.hid hbq
  have LTgi := Lib.hid lt0
  have LTit := Lib.hid lt1
  have LTtm := Lib.hid lt2
  have LEg := Lib.hid hle0
  clear hbq hle0 bx0 bx1 bx2 bx3 lt0 lt1 lt2
  generalize w.heap.size + 1 + 1 + 1 = qm at BQm LTtm ⊢
  generalize w.heap.size + 1 + 1 = qt at BQt LTtm LTit ⊢
  generalize w.heap.size + 1 = qi at BQi LTit LTgi ⊢
  obtain ⟨qg, hqg⟩ : ∃ qg, w.heap.size = qg := ⟨_, rfl⟩
  rw [hqg] at BQg LTgi ⊢
  have LEg : Hid (w.heap.size ≤ qg) := Lib.hid (by omega)
  clear hqg
  refine (shown_any _ (T.out.on W.out)).mono ?_
  rintro e w1 ⟨rfl, hb⟩
  replace BQg := Lib.hid (BQg.out.keep (grown_of_below hb none))
  replace BQi := Lib.hid (BQi.out.keep (grown_of_below hb none))
  replace BQt := Lib.hid (BQt.out.keep (grown_of_below hb none))
  replace BQm := Lib.hid (BQm.out.keep (grown_of_below hb none))
  replace W := Lib.hid (W.out.trans (hb.mono W.out.size))
  clear hb
  go_upto_region 2 with (fail)
  have hbb := BQg.out
  have gc0 : w1.cell? ⟨qg, 0, none⟩ = some a := hbb.cell 0 _ rfl
  have gc1 : w1.cell? ⟨qg, 1, none⟩ = some b := hbb.cell 1 _ rfl
  have gc2 : w1.cell? ⟨qg, 2, none⟩ = some c := hbb.cell 2 _ rfl
  clear hbb
  have hbb := BQi.out
  have ic0 : w1.cell? ⟨qi, 0, none⟩ = some (.int .u64 (P.wrd I 0)) := hbb.cell 0 _ rfl
  have ic1 : w1.cell? ⟨qi, 1, none⟩ = some (.int .u64 (P.wrd I 1)) := hbb.cell 1 _ rfl
  have ic2 : w1.cell? ⟨qi, 2, none⟩ = some (.int .u64 (P.wrd I 2)) := hbb.cell 2 _ rfl
  have ic3 : w1.cell? ⟨qi, 3, none⟩ = some (.int .u64 (P.wrd I 3)) := hbb.cell 3 _ rfl
  clear hbb
  have hbb := BQt.out
  have tc0 : w1.cell? ⟨qt, 0, none⟩ = some (.int .u64 (P.wrd To 0)) := hbb.cell 0 _ rfl
  have tc1 : w1.cell? ⟨qt, 1, none⟩ = some (.int .u64 (P.wrd To 1)) := hbb.cell 1 _ rfl
  have tc2 : w1.cell? ⟨qt, 2, none⟩ = some (.int .u64 (P.wrd To 2)) := hbb.cell 2 _ rfl
  have tc3 : w1.cell? ⟨qt, 3, none⟩ = some (.int .u64 (P.wrd To 3)) := hbb.cell 3 _ rfl
  clear hbb
  go_wp2_with fail
  refine (attract_any g I To p _ _ (HV.out.on W.out) (T.out.on W.out)).mono ?_
  rintro e u1 ⟨v1, m1, rfl, ho1, hm1, hb⟩
  obtain ⟨vo1, vk1, rfl, -⟩ := own_at ho1
  replace BQg := Lib.hid (BQg.out.keep (grown_of_below hb none))
  replace BQi := Lib.hid (BQi.out.keep (grown_of_below hb none))
  replace BQt := Lib.hid (BQt.out.keep (grown_of_below hb none))
  replace BQm := Lib.hid (BQm.out.keep (grown_of_below hb none))
  replace W := Lib.hid (W.out.trans (hb.mono W.out.size))
  obtain ⟨s1, hs1⟩ : ∃ s, P.attOf g I p To = s := ⟨_, rfl⟩
  rw [hs1]
  have HS1 := Lib.hid hs1
  clear hb hs1 gc0 gc1 gc2 ic0 ic1 ic2 ic3 tc0 tc1 tc2 tc3
  clear ho1 hm1
  go_upto_region 3 with (fail)
  have bq : Box (u1.alloc (.cells #[.int .u64 (P.wrd s1 0), .int .u64 (P.wrd s1 1), .int .u64 (P.wrd s1 2), .int .u64 (P.wrd s1 3)] 28)) u1.heap.size 28 #[.int .u64 (P.wrd s1 0), .int .u64 (P.wrd s1 1), .int .u64 (P.wrd s1 2), .int .u64 (P.wrd s1 3)] := Box.new _ _ _
  have hgq := World.grownBy_alloc u1 (.cells #[.int .u64 (P.wrd s1 0), .int .u64 (P.wrd s1 1), .int .u64 (P.wrd s1 2), .int .u64 (P.wrd s1 3)] 28) none
  replace BQg := Lib.hid (BQg.out.keep hgq)
  replace BQi := Lib.hid (BQi.out.keep hgq)
  replace BQt := Lib.hid (BQt.out.keep hgq)
  replace BQm := Lib.hid (BQm.out.keep hgq)
  replace W := Lib.hid (W.out.trans ((below_of_grown hgq).mono W.out.size))
  generalize (u1.alloc (.cells #[.int .u64 (P.wrd s1 0), .int .u64 (P.wrd s1 1), .int .u64 (P.wrd s1 2), .int .u64 (P.wrd s1 3)] 28)) = x1 at bq BQg BQi BQt BQm W ⊢
  generalize u1.heap.size = q1 at bq ⊢
  have BQ1 := Lib.hid bq
  clear bq hgq
  have hbb := BQg.out
  have gc0 : x1.cell? ⟨qg, 0, none⟩ = some a := hbb.cell 0 _ rfl
  have gc1 : x1.cell? ⟨qg, 1, none⟩ = some b := hbb.cell 1 _ rfl
  have gc2 : x1.cell? ⟨qg, 2, none⟩ = some c := hbb.cell 2 _ rfl
  clear hbb
  have hbb := BQi.out
  have ic0 : x1.cell? ⟨qi, 0, none⟩ = some (.int .u64 (P.wrd I 0)) := hbb.cell 0 _ rfl
  have ic1 : x1.cell? ⟨qi, 1, none⟩ = some (.int .u64 (P.wrd I 1)) := hbb.cell 1 _ rfl
  have ic2 : x1.cell? ⟨qi, 2, none⟩ = some (.int .u64 (P.wrd I 2)) := hbb.cell 2 _ rfl
  have ic3 : x1.cell? ⟨qi, 3, none⟩ = some (.int .u64 (P.wrd I 3)) := hbb.cell 3 _ rfl
  clear hbb
  have hbb := BQ1.out
  have tc0 : x1.cell? ⟨q1, 0, none⟩ = some (.int .u64 (P.wrd s1 0)) := hbb.cell 0 _ rfl
  have tc1 : x1.cell? ⟨q1, 1, none⟩ = some (.int .u64 (P.wrd s1 1)) := hbb.cell 1 _ rfl
  have tc2 : x1.cell? ⟨q1, 2, none⟩ = some (.int .u64 (P.wrd s1 2)) := hbb.cell 2 _ rfl
  have tc3 : x1.cell? ⟨q1, 3, none⟩ = some (.int .u64 (P.wrd s1 3)) := hbb.cell 3 _ rfl
  clear hbb
  go_wp2_with fail
  refine (attract_any g I s1 p _ _ (HV.out.on W.out) (T.out.on W.out)).mono ?_
  rintro e u2 ⟨v2, m2, rfl, ho2, hm2, hb⟩
  obtain ⟨vo2, vk2, rfl, -⟩ := own_at ho2
  replace BQg := Lib.hid (BQg.out.keep (grown_of_below hb none))
  replace BQi := Lib.hid (BQi.out.keep (grown_of_below hb none))
  replace BQt := Lib.hid (BQt.out.keep (grown_of_below hb none))
  replace BQm := Lib.hid (BQm.out.keep (grown_of_below hb none))
  replace W := Lib.hid (W.out.trans (hb.mono W.out.size))
  replace BQ1 := Lib.hid (BQ1.out.keep (grown_of_below hb none))
  obtain ⟨s2, hs2⟩ : ∃ s, P.attOf g I p s1 = s := ⟨_, rfl⟩
  rw [hs2]
  have HS2 := Lib.hid hs2
  clear hb hs2 gc0 gc1 gc2 ic0 ic1 ic2 ic3 tc0 tc1 tc2 tc3
  have HO2 := Lib.hid ho2
  have HM2 := Lib.hid hm2
  clear ho2 hm2
  have HMV := Lib.hid (again_moves (by have h := HM2.out; rw [← HS1.out] at h; exact h))
  have IV := Lib.hid (HO2.out.ints (by have := again_len HM2.out; omega))
  go_upto_region 4 with (fail)
  have bq : Box (u2.alloc (.cells #[.int .u64 (P.wrd s2 0), .int .u64 (P.wrd s2 1), .int .u64 (P.wrd s2 2), .int .u64 (P.wrd s2 3)] 28)) u2.heap.size 28 #[.int .u64 (P.wrd s2 0), .int .u64 (P.wrd s2 1), .int .u64 (P.wrd s2 2), .int .u64 (P.wrd s2 3)] := Box.new _ _ _
  have hgq := World.grownBy_alloc u2 (.cells #[.int .u64 (P.wrd s2 0), .int .u64 (P.wrd s2 1), .int .u64 (P.wrd s2 2), .int .u64 (P.wrd s2 3)] 28) none
  replace BQg := Lib.hid (BQg.out.keep hgq)
  replace BQi := Lib.hid (BQi.out.keep hgq)
  replace BQt := Lib.hid (BQt.out.keep hgq)
  replace BQm := Lib.hid (BQm.out.keep hgq)
  replace W := Lib.hid (W.out.trans ((below_of_grown hgq).mono W.out.size))
  replace BQ1 := Lib.hid (BQ1.out.keep hgq)
  replace IV := Lib.hid (IV.out.on (below_of_grown hgq))
  generalize (u2.alloc (.cells #[.int .u64 (P.wrd s2 0), .int .u64 (P.wrd s2 1), .int .u64 (P.wrd s2 2), .int .u64 (P.wrd s2 3)] 28)) = x2 at bq BQg BQi BQt BQm W BQ1 IV ⊢
  generalize u2.heap.size = q2 at bq ⊢
  have BQ2 := Lib.hid bq
  clear bq hgq
  refine Rk.wp_region_lit (fun idx => match idx with | 0 => (fun v _ _ => v = .agg #[a, b, c]) | 1 => (fun v _ _ => v = .agg #[.int .u64 (P.wrd I 0), .int .u64 (P.wrd I 1), .int .u64 (P.wrd I 2), .int .u64 (P.wrd I 3)]) | 2 => (fun v _ _ => v = .int .i64 p) | 3 => (fun v _ _ => v = .agg #[.int .u64 (P.wrd To 0), .int .u64 (P.wrd To 1), .int .u64 (P.wrd To 2), .int .u64 (P.wrd To 3)]) | 4 => (fun v _ _ => v = .agg #[.int .u64 (P.wrd More 0), .int .u64 (P.wrd More 1), .int .u64 (P.wrd More 2), .int .u64 (P.wrd More 3)]) | 5 => (fun v _ _ => v = .agg #[.int .u64 (P.wrd (To ||| More) 0), .int .u64 (P.wrd (To ||| More) 1), .int .u64 (P.wrd (To ||| More) 2), .int .u64 (P.wrd (To ||| More) 3)]) | 6 => (fun v _ w' => AttT x2.heap.size (P.attOf g I p (To ||| More)) v w') | 7 => (fun v ds w' => v = ds.getD 0 undef ∧ AttT x2.heap.size (P.attOf g I p (To ||| More)) v w') | 8 => (fun v ds _ => v = tupAt (ds.getD 0 undef) 0) | 9 => (fun v ds _ => v = tupAt (ds.getD 0 undef) 1) | 10 => (fun v _ _ => ∃ qp, v = .pointer (some ⟨qp, 0, none⟩) ∧ x2.heap.size ≤ qp) | 11 => (fun _ ds w' => ∃ qp, ds.getD 0 undef = .pointer (some ⟨qp, 0, none⟩) ∧ Box w' qp 28 #[.int .u64 (P.wrd (P.attOf g I p (To ||| More)) 0), .int .u64 (P.wrd (P.attOf g I p (To ||| More)) 1), .int .u64 (P.wrd (P.attOf g I p (To ||| More)) 2), .int .u64 (P.wrd (P.attOf g I p (To ||| More)) 3)]) | _ => fun _ _ _ => True) (fun idx => match idx with | 10 => (fun v _ w' => ∃ qp, v = .pointer (some ⟨qp, 0, none⟩) ∧ Box w' qp 28 #[.int .u64 0, .int .u64 0, .int .u64 0, .int .u64 0]) | _ => fun _ _ _ => True) (KG x2.heap.size 28) 11 (by kernel_rfl) (by rfl) (by kernel_rfl) (by rfl) ?_ ?_ ?_ ?_
  · refine ⟨?_, ?_, ?_, ?_, ?_, ?_, ?_, ?_, ?_, ?_, ?_, ?_, trivial⟩
    · intro A w' K vals h hn hT hgk hK0
      have hg : x2.grownBy w' none := keeps_old hgk
      have hK := fun v u (h1 : w'.grownBy u none) h2 => hK0 v u (Rk.keep_of h1) h2 trivial
      clear hT hgk hK0
      have r0 : A.tmps[5]?.getD undef = .pointer (some ⟨qg, 0, none⟩) := Rg.slot h.1
      have hbb := BQg.out.keep hg
      have cc0 : w'.cell? ⟨qg, 0, none⟩ = some a := hbb.cell 0 _ rfl
      have cc1 : w'.cell? ⟨qg, 1, none⟩ = some b := hbb.cell 1 _ rfl
      have cc2 : w'.cell? ⟨qg, 2, none⟩ = some c := hbb.cell 2 _ rfl
      clear h hn hg hbb
      simp [Oper.wp, execOp, go_sem, r0, cc0, cc1, cc2]
      exact hK _ _ (Rg.grown_refl _ _) rfl
    · intro A w' K vals h hn hT hgk hK0
      have hg : x2.grownBy w' none := keeps_old hgk
      have hK := fun v u (h1 : w'.grownBy u none) h2 => hK0 v u (Rk.keep_of h1) h2 trivial
      clear hT hgk hK0
      have r0 : A.tmps[6]?.getD undef = .pointer (some ⟨qi, 0, none⟩) := Rg.slot h.1
      have bs := BQi.out.keep hg
      have cc0 : w'.cell? ⟨qi, 0, none⟩ = some (.int .u64 (P.wrd I 0)) := bs.cell 0 _ rfl
      have cc1 : w'.cell? ⟨qi, 1, none⟩ = some (.int .u64 (P.wrd I 1)) := bs.cell 1 _ rfl
      have cc2 : w'.cell? ⟨qi, 2, none⟩ = some (.int .u64 (P.wrd I 2)) := bs.cell 2 _ rfl
      have cc3 : w'.cell? ⟨qi, 3, none⟩ = some (.int .u64 (P.wrd I 3)) := bs.cell 3 _ rfl
      clear h hn hg bs
      simp [Oper.wp, execOp, go_sem, r0, cc0, cc1, cc2, cc3]
      exact hK _ _ (Rg.grown_refl _ _) rfl
    · intro A w' K vals h hn hT hgk hK0
      have hg : x2.grownBy w' none := keeps_old hgk
      have hK := fun v u (h1 : w'.grownBy u none) h2 => hK0 v u (Rk.keep_of h1) h2 trivial
      clear hT hgk hK0
      have r0 : A.tmps[2]?.getD undef = .int .i64 p := Rg.slot h.1
      clear h hn hg
      simp [Oper.wp, execOp, go_sem, r0]
      exact hK _ _ (Rg.grown_refl _ _) rfl
    · intro A w' K vals h hn hT hgk hK0
      have hg : x2.grownBy w' none := keeps_old hgk
      have hK := fun v u (h1 : w'.grownBy u none) h2 => hK0 v u (Rk.keep_of h1) h2 trivial
      clear hT hgk hK0
      have r0 : A.tmps[8]?.getD undef = .pointer (some ⟨qt, 0, none⟩) := Rg.slot h.1
      have bs := BQt.out.keep hg
      have cc0 : w'.cell? ⟨qt, 0, none⟩ = some (.int .u64 (P.wrd To 0)) := bs.cell 0 _ rfl
      have cc1 : w'.cell? ⟨qt, 1, none⟩ = some (.int .u64 (P.wrd To 1)) := bs.cell 1 _ rfl
      have cc2 : w'.cell? ⟨qt, 2, none⟩ = some (.int .u64 (P.wrd To 2)) := bs.cell 2 _ rfl
      have cc3 : w'.cell? ⟨qt, 3, none⟩ = some (.int .u64 (P.wrd To 3)) := bs.cell 3 _ rfl
      clear h hn hg bs
      simp [Oper.wp, execOp, go_sem, r0, cc0, cc1, cc2, cc3]
      exact hK _ _ (Rg.grown_refl _ _) rfl
    · intro A w' K vals h hn hT hgk hK0
      have hg : x2.grownBy w' none := keeps_old hgk
      have hK := fun v u (h1 : w'.grownBy u none) h2 => hK0 v u (Rk.keep_of h1) h2 trivial
      clear hT hgk hK0
      have r0 : A.tmps[9]?.getD undef = .pointer (some ⟨qm, 0, none⟩) := Rg.slot h.1
      have bs := BQm.out.keep hg
      have cc0 : w'.cell? ⟨qm, 0, none⟩ = some (.int .u64 (P.wrd More 0)) := bs.cell 0 _ rfl
      have cc1 : w'.cell? ⟨qm, 1, none⟩ = some (.int .u64 (P.wrd More 1)) := bs.cell 1 _ rfl
      have cc2 : w'.cell? ⟨qm, 2, none⟩ = some (.int .u64 (P.wrd More 2)) := bs.cell 2 _ rfl
      have cc3 : w'.cell? ⟨qm, 3, none⟩ = some (.int .u64 (P.wrd More 3)) := bs.cell 3 _ rfl
      clear h hn hg bs
      simp [Oper.wp, execOp, go_sem, r0, cc0, cc1, cc2, cc3]
      exact hK _ _ (Rg.grown_refl _ _) rfl
    · intro A w' K vals h hn hT hgk hK0
      have hg : x2.grownBy w' none := keeps_old hgk
      have hK := fun v u (h1 : w'.grownBy u none) h2 => hK0 v u (Rk.keep_of h1) h2 trivial
      clear hT hgk hK0
      have r0 : A.tmps[44]?.getD undef = vals 3 := Rg.slot h.2.1
      have s0 : vals 3 = .agg #[.int .u64 (P.wrd To 0), .int .u64 (P.wrd To 1), .int .u64 (P.wrd To 2), .int .u64 (P.wrd To 3)] := hn.1
      have r1 : A.tmps[45]?.getD undef = vals 4 := Rg.slot h.2.2.1
      have s1 : vals 4 = .agg #[.int .u64 (P.wrd More 0), .int .u64 (P.wrd More 1), .int .u64 (P.wrd More 2), .int .u64 (P.wrd More 3)] := hn.2.1
      clear h hn
      simp [Oper.wp, go_sem, r0, s0, r1, s1]
      refine (or_any To More w').mono ?_
      rintro e w'' ⟨rfl, hb⟩
      exact hK _ _ (grown_of_below hb _) rfl
    · intro A w' K vals h hn hT hgk hK0
      have hg : x2.grownBy w' none := keeps_old hgk
      have hK := fun v u (h1 : w'.grownBy u none) h2 => hK0 v u (Rk.keep_of h1) h2 trivial
      clear hT hgk hK0
      have r0 : A.tmps[41]?.getD undef = vals 0 := Rg.slot h.2.1
      have r1 : A.tmps[42]?.getD undef = vals 1 := Rg.slot h.2.2.1
      have r2 : A.tmps[43]?.getD undef = vals 2 := Rg.slot h.2.2.2.1
      have r3 : A.tmps[46]?.getD undef = vals 5 := Rg.slot h.2.2.2.2.1
      have s0 : vals 0 = .agg #[a, b, c] := hn.1
      have s1 : vals 1 = .agg #[.int .u64 (P.wrd I 0), .int .u64 (P.wrd I 1), .int .u64 (P.wrd I 2), .int .u64 (P.wrd I 3)] := hn.2.1
      have s2 : vals 2 = .int .i64 p := hn.2.2.1
      have s3 : vals 5 = .agg #[.int .u64 (P.wrd (To ||| More) 0), .int .u64 (P.wrd (To ||| More) 1), .int .u64 (P.wrd (To ||| More) 2), .int .u64 (P.wrd (To ||| More) 3)] := hn.2.2.2.1
      clear h hn
      simp [Oper.wp, go_sem, r0, r1, r2, r3, s0, s1, s2, s3]
      refine (attract_t g I (To ||| More) p (.agg #[a, b, c]) w' (HV.out.on (W.out.trans ((below_of_grown hg).mono W.out.size))) (T.out.on (W.out.trans ((below_of_grown hg).mono W.out.size)))).mono ?_
      rintro e w'' ⟨u, rfl, hu, hb⟩
      exact hK _ _ (grown_of_below hb _) (hu.low hg.size)
    · intro A w' K vals h hn hT hgk hK0
      have hg : x2.grownBy w' none := keeps_old hgk
      have hK := fun v u (h1 : w'.grownBy u none) h2 => hK0 v u (Rk.keep_of h1) h2 trivial
      clear hT hgk hK0
      have r0 : A.tmps[47]?.getD undef = vals 6 := Rg.slot h.1
      have n3 : AttT x2.heap.size (P.attOf g I p (To ||| More)) (vals 6) w' := hn.1
      clear h hn hg
      simp [Oper.wp, execOp, go_sem, r0]
      exact hK _ _ (Rg.grown_refl _ _) ⟨rfl, n3⟩
    · intro A w' K vals h hn hT hgk hK0
      have hg : x2.grownBy w' none := keeps_old hgk
      have hK := fun v u (h1 : w'.grownBy u none) h2 => hK0 v u (Rk.keep_of h1) h2 trivial
      clear hT hgk hK0
      have r0 : A.tmps[40]?.getD undef = vals 7 := Rg.slot h.1
      obtain ⟨x, k, m, hv, -⟩ : AttT x2.heap.size (P.attOf g I p (To ||| More)) (vals 7) w' := hn.1.2
      clear h hn hg
      simp [Oper.wp, execOp, go_sem, r0, hv]
      refine hK _ _ (Rg.grown_refl _ _) ?_
      show _ = tupAt (vals 7) 0
      rw [hv]
      rfl
    · intro A w' K vals h hn hT hgk hK0
      have hg : x2.grownBy w' none := keeps_old hgk
      have hK := fun v u (h1 : w'.grownBy u none) h2 => hK0 v u (Rk.keep_of h1) h2 trivial
      clear hT hgk hK0
      have r0 : A.tmps[40]?.getD undef = vals 7 := Rg.slot h.1
      obtain ⟨x, k, m, hv, -⟩ : AttT x2.heap.size (P.attOf g I p (To ||| More)) (vals 7) w' := hn.1.2
      clear h hn hg
      simp [Oper.wp, execOp, go_sem, r0, hv]
      refine hK _ _ (Rg.grown_refl _ _) ?_
      show _ = tupAt (vals 7) 1
      rw [hv]
      rfl
    · intro A w' K vals h hn hT hgk hK0
      clear h hn hT
      simp [Oper.wp, execOp, go_sem]
      exact hK0 _ _ (Rk.keep_of (World.grownBy_alloc _ _ _)) ⟨_, rfl, hgk.size⟩ ⟨_, rfl, Box.new _ _ _⟩
    · intro A w' K vals h hn hT hgk hK0
      have r0 : A.tmps[16]?.getD undef = vals 10 := Rg.slot h.1
      have r1 : A.tmps[48]?.getD undef = vals 8 := Rg.slot h.2.1
      obtain ⟨qp, hp, hbx⟩ : ∃ qp, vals 10 = .pointer (some ⟨qp, 0, none⟩) ∧ Box w' qp 28 #[.int .u64 0, .int .u64 0, .int .u64 0, .int .u64 0] := (hT rfl).1
      obtain ⟨qp', hp', hlo⟩ : ∃ qp, vals 10 = .pointer (some ⟨qp, 0, none⟩) ∧ x2.heap.size ≤ qp := hn.1
      have s6 : vals 8 = tupAt (vals 7) 0 := hn.2.1
      obtain ⟨x, k, m, s5, -⟩ : AttT x2.heap.size (P.attOf g I p (To ||| More)) (vals 7) w' := hn.2.2.2.2.2.2.2.2.2.2.1.2
      rw [s5] at s6
      have s6 : vals 8 = .agg #[.int .u64 (P.wrd (P.attOf g I p (To ||| More)) 0), .int .u64 (P.wrd (P.attOf g I p (To ||| More)) 1), .int .u64 (P.wrd (P.attOf g I p (To ||| More)) 2), .int .u64 (P.wrd (P.attOf g I p (To ||| More)) 3)] := s6
      obtain rfl : qp' = qp := by rw [hp'] at hp; injection hp with hp; injection hp with hp; injection hp with hp
      clear h hn hT s5
      have qc0 : w'.cell? ⟨qp', 0, none⟩ = some (.int .u64 0) := hbx.cell 0 _ rfl
      have qc1 : w'.cell? ⟨qp', 1, none⟩ = some (.int .u64 0) := hbx.cell 1 _ rfl
      have qc2 : w'.cell? ⟨qp', 2, none⟩ = some (.int .u64 0) := hbx.cell 2 _ rfl
      have qc3 : w'.cell? ⟨qp', 3, none⟩ = some (.int .u64 0) := hbx.cell 3 _ rfl
      have qf0 : w'.frozen? ⟨qp', 0, none⟩ = false := hbx.frozen 0
      have qf1 : w'.frozen? ⟨qp', 1, none⟩ = false := hbx.frozen 1
      have qf2 : w'.frozen? ⟨qp', 2, none⟩ = false := hbx.frozen 2
      have qf3 : w'.frozen? ⟨qp', 3, none⟩ = false := hbx.frozen 3
      simp [Oper.wp, execOp, go_sem, r0, r1, hp', s6, qc0, qc1, qc2, qc3, qf0, qf1, qf2, qf3]
      refine hK0 undef _ ((((keeps_set hbx hlo _ _).trans (keeps_set (hbx.set _ _) hlo _ _)).trans (keeps_set ((hbx.set _ _).set _ _) hlo _ _)).trans (keeps_set (((hbx.set _ _).set _ _).set _ _) hlo _ _)) ⟨qp', hp', ((((hbx.set 0 (.int .u64 (P.wrd (P.attOf g I p (To ||| More)) 0))).set 1 (.int .u64 (P.wrd (P.attOf g I p (To ||| More)) 1))).set 2 (.int .u64 (P.wrd (P.attOf g I p (To ||| More)) 2))).set 3 (.int .u64 (P.wrd (P.attOf g I p (To ||| More)) 3)))⟩ trivial
  · refine ⟨?_, ?_, ?_, ?_, ?_, ?_, ?_, ?_, ?_, ?_, ?_, ?_, trivial⟩
    · exact fun _ _ _ _ _ _ h => h
    · exact fun _ _ _ _ _ _ h => h
    · exact fun _ _ _ _ _ _ h => h
    · exact fun _ _ _ _ _ _ h => h
    · exact fun _ _ _ _ _ _ h => h
    · exact fun _ _ _ _ _ _ h => h
    · exact fun _ _ _ _ _ h ⟨x, k, m, hv, ho⟩ => ⟨x, k, m, hv, own_other ho h (by decide)⟩
    · exact fun _ _ _ _ _ h ⟨he, x, k, m, hv, ho⟩ => ⟨he, x, k, m, hv, own_other ho h (by decide)⟩
    · exact fun _ _ _ _ _ _ h => h
    · exact fun _ _ _ _ _ _ h => h
    · exact fun _ _ _ _ _ _ h => h
    · exact fun _ _ _ _ _ h ⟨qp, h1, hb⟩ => ⟨qp, h1, hb.keep (Rk.grown_of h)⟩
  · intro k v ds w w' hk h
    match k, h with
    | 10, h => exact ⟨h.choose, h.choose_spec.1, h.choose_spec.2.keep (Rk.grown_of hk)⟩
    | 0, _ | 1, _ | 2, _ | 3, _ | 4, _ | 5, _ | 6, _ | 7, _ | 8, _ | 9, _ | _ + 11, _ => trivial
  · intro vals u3 G hgk hS hG
    have hg := keeps_old hgk
    obtain ⟨vo3, vk3, m3, s5, -⟩ : AttT x2.heap.size (P.attOf g I p (To ||| More)) (vals 7) u3 := hS.2.2.2.2.2.2.2.1.2
    have s7 : vals 9 = tupAt (vals 7) 1 := hS.2.2.2.2.2.2.2.2.2.1
    obtain ⟨q3, s8, hb5⟩ : ∃ qp, vals 10 = .pointer (some ⟨qp, 0, none⟩) ∧ Box u3 qp 28 #[.int .u64 (P.wrd (P.attOf g I p (To ||| More)) 0), .int .u64 (P.wrd (P.attOf g I p (To ||| More)) 1), .int .u64 (P.wrd (P.attOf g I p (To ||| More)) 2), .int .u64 (P.wrd (P.attOf g I p (To ||| More)) 3)] := hS.2.2.2.2.2.2.2.2.2.2.2.1
    clear hS
    rw [s5] at s7
    have s7 : vals 9 = .slice vo3 m3.length vk3 := s7
    obtain ⟨s3, hs3⟩ : ∃ s, (P.attOf g I p (To ||| More)) = s := ⟨_, rfl⟩
    rw [hs3] at hb5 s5
    replace BQg := Lib.hid (BQg.out.keep (grown_of_below (below_of_grown hg) none))
    replace BQi := Lib.hid (BQi.out.keep (grown_of_below (below_of_grown hg) none))
    replace BQt := Lib.hid (BQt.out.keep (grown_of_below (below_of_grown hg) none))
    replace BQm := Lib.hid (BQm.out.keep (grown_of_below (below_of_grown hg) none))
    replace W := Lib.hid (W.out.trans ((below_of_grown hg).mono W.out.size))
    replace BQ1 := Lib.hid (BQ1.out.keep (grown_of_below (below_of_grown hg) none))
    replace BQ2 := Lib.hid (BQ2.out.keep (grown_of_below (below_of_grown hg) none))
    replace IV := Lib.hid (IV.out.on (below_of_grown hg))
    have BQ3 := Lib.hid hb5
    have HS3 := Lib.hid hs3
    clear hb5 hs3 hgk hg
    refine hG ?_
    clear hG
    simp [Rg.putAll, Oper.wp, execOp, go_sem, s5, s7, s8]
    clear s5 s7 s8
    go_upto_region 5 with (fail)
    generalize u3 = x3 at BQg BQi BQt BQm W BQ1 BQ2 IV BQ3 ⊢
    have hbb := BQg.out
    have gc0 : x3.cell? ⟨qg, 0, none⟩ = some a := hbb.cell 0 _ rfl
    have gc1 : x3.cell? ⟨qg, 1, none⟩ = some b := hbb.cell 1 _ rfl
    have gc2 : x3.cell? ⟨qg, 2, none⟩ = some c := hbb.cell 2 _ rfl
    clear hbb
    have hbb := BQi.out
    have ic0 : x3.cell? ⟨qi, 0, none⟩ = some (.int .u64 (P.wrd I 0)) := hbb.cell 0 _ rfl
    have ic1 : x3.cell? ⟨qi, 1, none⟩ = some (.int .u64 (P.wrd I 1)) := hbb.cell 1 _ rfl
    have ic2 : x3.cell? ⟨qi, 2, none⟩ = some (.int .u64 (P.wrd I 2)) := hbb.cell 2 _ rfl
    have ic3 : x3.cell? ⟨qi, 3, none⟩ = some (.int .u64 (P.wrd I 3)) := hbb.cell 3 _ rfl
    clear hbb
    go_wp2_with fail
    refine (attract_to0 g I p _ _ (HV.out.on W.out) (T.out.on W.out)).mono ?_
    rintro e u4 ⟨v4, m4, rfl, ho4, hm4, hb⟩
    obtain ⟨vo4, vk4, rfl, -⟩ := own_at ho4
    replace BQg := Lib.hid (BQg.out.keep (grown_of_below hb none))
    replace BQi := Lib.hid (BQi.out.keep (grown_of_below hb none))
    replace BQt := Lib.hid (BQt.out.keep (grown_of_below hb none))
    replace BQm := Lib.hid (BQm.out.keep (grown_of_below hb none))
    replace W := Lib.hid (W.out.trans (hb.mono W.out.size))
    replace BQ1 := Lib.hid (BQ1.out.keep (grown_of_below hb none))
    replace BQ2 := Lib.hid (BQ2.out.keep (grown_of_below hb none))
    replace BQ3 := Lib.hid (BQ3.out.keep (grown_of_below hb none))
    replace IV := Lib.hid (IV.out.on hb)
    obtain ⟨s4, hs4⟩ : ∃ s, P.attOf g I p 0#256 = s := ⟨_, rfl⟩
    rw [hs4]
    have HS4 := Lib.hid hs4
    clear hb hs4 gc0 gc1 gc2 ic0 ic1 ic2 ic3 
    clear ho4 hm4
    go_upto_region 6 with (fail)
    have bq : Box (u4.alloc (.cells #[.int .u64 (P.wrd s4 0), .int .u64 (P.wrd s4 1), .int .u64 (P.wrd s4 2), .int .u64 (P.wrd s4 3)] 28)) u4.heap.size 28 #[.int .u64 (P.wrd s4 0), .int .u64 (P.wrd s4 1), .int .u64 (P.wrd s4 2), .int .u64 (P.wrd s4 3)] := Box.new _ _ _
    have hgq := World.grownBy_alloc u4 (.cells #[.int .u64 (P.wrd s4 0), .int .u64 (P.wrd s4 1), .int .u64 (P.wrd s4 2), .int .u64 (P.wrd s4 3)] 28) none
    replace BQg := Lib.hid (BQg.out.keep hgq)
    replace BQi := Lib.hid (BQi.out.keep hgq)
    replace BQt := Lib.hid (BQt.out.keep hgq)
    replace BQm := Lib.hid (BQm.out.keep hgq)
    replace W := Lib.hid (W.out.trans ((below_of_grown hgq).mono W.out.size))
    replace BQ1 := Lib.hid (BQ1.out.keep hgq)
    replace BQ2 := Lib.hid (BQ2.out.keep hgq)
    replace BQ3 := Lib.hid (BQ3.out.keep hgq)
    replace IV := Lib.hid (IV.out.on (below_of_grown hgq))
    generalize (u4.alloc (.cells #[.int .u64 (P.wrd s4 0), .int .u64 (P.wrd s4 1), .int .u64 (P.wrd s4 2), .int .u64 (P.wrd s4 3)] 28)) = x4 at bq BQg BQi BQt BQm W BQ1 BQ2 BQ3 IV ⊢
    generalize u4.heap.size = q4 at bq ⊢
    have BQ4 := Lib.hid bq
    clear bq hgq
    have hbb := BQg.out
    have gc0 : x4.cell? ⟨qg, 0, none⟩ = some a := hbb.cell 0 _ rfl
    have gc1 : x4.cell? ⟨qg, 1, none⟩ = some b := hbb.cell 1 _ rfl
    have gc2 : x4.cell? ⟨qg, 2, none⟩ = some c := hbb.cell 2 _ rfl
    clear hbb
    have hbb := BQt.out
    have tc0 : x4.cell? ⟨qt, 0, none⟩ = some (.int .u64 (P.wrd To 0)) := hbb.cell 0 _ rfl
    have tc1 : x4.cell? ⟨qt, 1, none⟩ = some (.int .u64 (P.wrd To 1)) := hbb.cell 1 _ rfl
    have tc2 : x4.cell? ⟨qt, 2, none⟩ = some (.int .u64 (P.wrd To 2)) := hbb.cell 2 _ rfl
    have tc3 : x4.cell? ⟨qt, 3, none⟩ = some (.int .u64 (P.wrd To 3)) := hbb.cell 3 _ rfl
    clear hbb
    go_wp2_with fail
    refine (attract_in0 g To p _ _ (HV.out.on W.out) (T.out.on W.out)).mono ?_
    rintro e u5 ⟨v5, m5, rfl, ho5, hm5, hb⟩
    obtain ⟨vo5, vk5, rfl, -⟩ := own_at ho5
    replace BQg := Lib.hid (BQg.out.keep (grown_of_below hb none))
    replace BQi := Lib.hid (BQi.out.keep (grown_of_below hb none))
    replace BQt := Lib.hid (BQt.out.keep (grown_of_below hb none))
    replace BQm := Lib.hid (BQm.out.keep (grown_of_below hb none))
    replace W := Lib.hid (W.out.trans (hb.mono W.out.size))
    replace BQ1 := Lib.hid (BQ1.out.keep (grown_of_below hb none))
    replace BQ2 := Lib.hid (BQ2.out.keep (grown_of_below hb none))
    replace BQ3 := Lib.hid (BQ3.out.keep (grown_of_below hb none))
    replace BQ4 := Lib.hid (BQ4.out.keep (grown_of_below hb none))
    replace IV := Lib.hid (IV.out.on hb)
    obtain ⟨s5, hs5⟩ : ∃ s, P.attOf g 0#256 p To = s := ⟨_, rfl⟩
    rw [hs5]
    have HS5 := Lib.hid hs5
    clear hb hs5 gc0 gc1 gc2 tc0 tc1 tc2 tc3
    clear ho5 hm5
    go_upto_region 7 with (fail)
    have bq : Box (u5.alloc (.cells #[.int .u64 (P.wrd s5 0), .int .u64 (P.wrd s5 1), .int .u64 (P.wrd s5 2), .int .u64 (P.wrd s5 3)] 28)) u5.heap.size 28 #[.int .u64 (P.wrd s5 0), .int .u64 (P.wrd s5 1), .int .u64 (P.wrd s5 2), .int .u64 (P.wrd s5 3)] := Box.new _ _ _
    have hgq := World.grownBy_alloc u5 (.cells #[.int .u64 (P.wrd s5 0), .int .u64 (P.wrd s5 1), .int .u64 (P.wrd s5 2), .int .u64 (P.wrd s5 3)] 28) none
    replace BQg := Lib.hid (BQg.out.keep hgq)
    replace BQi := Lib.hid (BQi.out.keep hgq)
    replace BQt := Lib.hid (BQt.out.keep hgq)
    replace BQm := Lib.hid (BQm.out.keep hgq)
    replace W := Lib.hid (W.out.trans ((below_of_grown hgq).mono W.out.size))
    replace BQ1 := Lib.hid (BQ1.out.keep hgq)
    replace BQ2 := Lib.hid (BQ2.out.keep hgq)
    replace BQ3 := Lib.hid (BQ3.out.keep hgq)
    replace BQ4 := Lib.hid (BQ4.out.keep hgq)
    replace IV := Lib.hid (IV.out.on (below_of_grown hgq))
    generalize (u5.alloc (.cells #[.int .u64 (P.wrd s5 0), .int .u64 (P.wrd s5 1), .int .u64 (P.wrd s5 2), .int .u64 (P.wrd s5 3)] 28)) = x5 at bq BQg BQi BQt BQm W BQ1 BQ2 BQ3 BQ4 IV ⊢
    generalize u5.heap.size = q5 at bq ⊢
    have BQ5 := Lib.hid bq
    clear bq hgq
    have HL2 := Lib.hid (again_len HM2.out)
    have hl2 := HL2.out
    obtain ⟨n2, hn2⟩ : ∃ n, m2.length = n := ⟨_, rfl⟩
    rw [hn2] at hl2 ⊢
    have HN2 := Lib.hid hn2
    clear hn2
    go_wp2_with fail
    go_loopw [22] (fun i wr => ∃ j : Nat, j ≤ n2 ∧ i = .int .i64 (j : Int) ∧ wr = x5) (fun i _ => n2 - (intOf i).toNat)
    case atStart => exact ⟨0, Nat.zero_le _, rfl, by first | trivial | rfl⟩
    case round =>
      obtain ⟨j, hj, rfl, hw⟩ := hrel
      obtain rfl : x5 = wr := hw.symm
      clear hw
      have hj0 : (0 : Int) ≤ (j : Int) := Int.natCast_nonneg _
      by_cases hlt : j < n2
      · have fj : decide ((j : Int) < (n2 : Int)) = true := decide_eq_true (by omega)
        have hji : (j : Int) < (n2 : Int) := by omega
        obtain ⟨b2, off, k2, e2, hcell⟩ := IV.out.open_ HN2.out (by omega)
        obtain ⟨rfl, -, rfl⟩ : vo2 = some ⟨b2, off, none⟩ ∧ m2.length = n2 ∧ vk2 = k2 := by injection e2 with h1 h2 h3; exact ⟨h1, h2, h3⟩
        have cj := hcell x5 (Below.refl _ _) j hlt
        rw [HMV.out j (by rw [HN2.out]; exact hlt)] at cj
        clear e2 hcell
        go_wp2_with fail
        go_roundw
        case rel => exact ⟨j + 1, by omega, by go_num, by first | trivial | rfl⟩
        case measure => simp [intOf]; omega
      · have fj : decide ((j : Int) < (n2 : Int)) = false := decide_eq_false (by omega)
        have e12 : s2 = s1 := by rw [← HS2.out, ← HS1.out]; exact P.attOf_again g I To p
        have hin : decide (s1 ||| s3 = s3) = true := decide_eq_true (by rw [← HS1.out, ← HS3.out]; exact P.attOf_more g I To More p)
        have e4 : s4 = 0#256 := by rw [← HS4.out]; exact P.attOf_none g I p
        have e5 : s5 = 0#256 := by rw [← HS5.out]; exact P.attOf_nowhere g To p
        have eqa := fun w => set_eq s1 s2 w
        have eqb := fun w => set_eq s4 0#256 w
        have eqc := fun w => set_eq s5 0#256 w
        rw [decide_eq_true e12.symm] at eqa
        rw [decide_eq_true e4, zero_set] at eqb
        rw [decide_eq_true e5, zero_set] at eqc
        have HIN := Lib.hid hin
        clear e12 hin e4 e5
        have hbb := BQ1.out
        have yc0 : x5.cell? ⟨q1, 0, none⟩ = some (.int .u64 (P.wrd s1 0)) := hbb.cell 0 _ rfl
        have yc1 : x5.cell? ⟨q1, 1, none⟩ = some (.int .u64 (P.wrd s1 1)) := hbb.cell 1 _ rfl
        have yc2 : x5.cell? ⟨q1, 2, none⟩ = some (.int .u64 (P.wrd s1 2)) := hbb.cell 2 _ rfl
        have yc3 : x5.cell? ⟨q1, 3, none⟩ = some (.int .u64 (P.wrd s1 3)) := hbb.cell 3 _ rfl
        clear hbb
        have hbb := BQ2.out
        have zc0 : x5.cell? ⟨q2, 0, none⟩ = some (.int .u64 (P.wrd s2 0)) := hbb.cell 0 _ rfl
        have zc1 : x5.cell? ⟨q2, 1, none⟩ = some (.int .u64 (P.wrd s2 1)) := hbb.cell 1 _ rfl
        have zc2 : x5.cell? ⟨q2, 2, none⟩ = some (.int .u64 (P.wrd s2 2)) := hbb.cell 2 _ rfl
        have zc3 : x5.cell? ⟨q2, 3, none⟩ = some (.int .u64 (P.wrd s2 3)) := hbb.cell 3 _ rfl
        clear hbb
        have hbb := BQ3.out
        have uc0 : x5.cell? ⟨q3, 0, none⟩ = some (.int .u64 (P.wrd s3 0)) := hbb.cell 0 _ rfl
        have uc1 : x5.cell? ⟨q3, 1, none⟩ = some (.int .u64 (P.wrd s3 1)) := hbb.cell 1 _ rfl
        have uc2 : x5.cell? ⟨q3, 2, none⟩ = some (.int .u64 (P.wrd s3 2)) := hbb.cell 2 _ rfl
        have uc3 : x5.cell? ⟨q3, 3, none⟩ = some (.int .u64 (P.wrd s3 3)) := hbb.cell 3 _ rfl
        clear hbb
        go_wp2_with fail
        refine (in_any s1 s3 _).mono ?_
        rintro e x6 ⟨rfl, hb⟩
        rw [HIN.out]
        replace BQ4 := Lib.hid (BQ4.out.keep (grown_of_below hb none))
        replace BQ5 := Lib.hid (BQ5.out.keep (grown_of_below hb none))
        replace W := Lib.hid (W.out.trans (hb.mono W.out.size))
        clear hb
        have hbb := BQ4.out
        have pc0 : x6.cell? ⟨q4, 0, none⟩ = some (.int .u64 (P.wrd s4 0)) := hbb.cell 0 _ rfl
        have pc1 : x6.cell? ⟨q4, 1, none⟩ = some (.int .u64 (P.wrd s4 1)) := hbb.cell 1 _ rfl
        have pc2 : x6.cell? ⟨q4, 2, none⟩ = some (.int .u64 (P.wrd s4 2)) := hbb.cell 2 _ rfl
        have pc3 : x6.cell? ⟨q4, 3, none⟩ = some (.int .u64 (P.wrd s4 3)) := hbb.cell 3 _ rfl
        clear hbb
        have hbb := BQ5.out
        have rc0 : x6.cell? ⟨q5, 0, none⟩ = some (.int .u64 (P.wrd s5 0)) := hbb.cell 0 _ rfl
        have rc1 : x6.cell? ⟨q5, 1, none⟩ = some (.int .u64 (P.wrd s5 1)) := hbb.cell 1 _ rfl
        have rc2 : x6.cell? ⟨q5, 2, none⟩ = some (.int .u64 (P.wrd s5 2)) := hbb.cell 2 _ rfl
        have rc3 : x6.cell? ⟨q5, 3, none⟩ = some (.int .u64 (P.wrd s5 3)) := hbb.cell 3 _ rfl
        clear hbb
        go_wp2_with fail
        exact bodyPost_ret (v := .bool true) (by simp [results, Tryd.results5, go_sem]) rfl ⟨rfl, W.out⟩
end W
end Go.Proofs.YtpfponiidppldaaDoor
