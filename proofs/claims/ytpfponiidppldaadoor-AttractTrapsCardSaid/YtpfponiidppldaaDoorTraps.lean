/- AttractTraps: the walk. -/
import Derived.Test.YtpfponiidppldaaDoorShown
import Derived.Test.YtpfponiidppldaaDoorLeaf2
import Derived.Test.YtpfponiidppldaaDoorSetN
import Derived.Test.YtpfponiidppldaaDoorCls
import Derived.Deep.Cut
namespace Go.Proofs.YtpfponiidppldaaDoor
open Go.RowKit Go.Sort
namespace W

theorem rIn (W : World) (s t : BitVec 256) (d : Nat) (os : Array Obj) : Calls Tryd.prog 21 #[.agg #[.int .u64 (P.wrd s 0), .int .u64 (P.wrd s 1), .int .u64 (P.wrd s 2), .int .u64 (P.wrd s 3)], .agg #[.int .u64 (P.wrd t 0), .int .u64 (P.wrd t 1), .int .u64 (P.wrd t 2), .int .u64 (P.wrd t 3)]] (grow (redrawn W d) os) fun e w'' => e = .returned (.bool (decide (s ||| t = t))) ∧ ∃ p : Regrown, w'' = grow (redrawn W p.d) p.os := Calls.regrown_of (in_any s t _)

set_option maxRecDepth 100000 in
set_option maxHeartbeats 1000000 in
theorem traps_wrong (g : P.G) (I To : BitVec 256) (p : Int) (v : Value) (w : World) (hv : GameV w v g) (hT : Tab w) (hok : g.ok = false) : Calls Tryd.prog 4 #[v, .agg #[.int .u64 (P.wrd I 0), .int .u64 (P.wrd I 1), .int .u64 (P.wrd I 2), .int .u64 (P.wrd I 3)], .int .i64 p, .agg #[.int .u64 (P.wrd To 0), .int .u64 (P.wrd To 1), .int .u64 (P.wrd To 2), .int .u64 (P.wrd To 3)]] w fun e w' => e = .returned (.bool true) ∧ Below w.heap.size w w' := by
  have hq0 : g.right.2 ≠ 0 := by unfold P.G.ok at hok; exact beq_eq_false_iff_ne.1 hok
  have HV := Lib.hid hv
  obtain ⟨a, b, c, rfl, -⟩ := hv
  clear hok
  have T := Lib.hid hT
  clear hT
  go_enter Tryd.func4, Tryd.ntmps4
  go_wp2_with fail
  have bx0 : Box (((w.alloc (.cells #[a, b, c] 25)).alloc (.cells #[.int .u64 (P.wrd I 0), .int .u64 (P.wrd I 1), .int .u64 (P.wrd I 2), .int .u64 (P.wrd I 3)] 28)).alloc (.cells #[.int .u64 (P.wrd To 0), .int .u64 (P.wrd To 1), .int .u64 (P.wrd To 2), .int .u64 (P.wrd To 3)] 28)) (w.heap.size) 25 #[a, b, c] := Box.alloc (Box.alloc (Box.new w 25 #[a, b, c]) (.cells #[.int .u64 (P.wrd I 0), .int .u64 (P.wrd I 1), .int .u64 (P.wrd I 2), .int .u64 (P.wrd I 3)] 28)) (.cells #[.int .u64 (P.wrd To 0), .int .u64 (P.wrd To 1), .int .u64 (P.wrd To 2), .int .u64 (P.wrd To 3)] 28)
  have bx1 : Box (((w.alloc (.cells #[a, b, c] 25)).alloc (.cells #[.int .u64 (P.wrd I 0), .int .u64 (P.wrd I 1), .int .u64 (P.wrd I 2), .int .u64 (P.wrd I 3)] 28)).alloc (.cells #[.int .u64 (P.wrd To 0), .int .u64 (P.wrd To 1), .int .u64 (P.wrd To 2), .int .u64 (P.wrd To 3)] 28)) (w.heap.size + 1) 28 #[.int .u64 (P.wrd I 0), .int .u64 (P.wrd I 1), .int .u64 (P.wrd I 2), .int .u64 (P.wrd I 3)] := by
    have := Box.alloc (Box.new (w.alloc (.cells #[a, b, c] 25)) 28 #[.int .u64 (P.wrd I 0), .int .u64 (P.wrd I 1), .int .u64 (P.wrd I 2), .int .u64 (P.wrd I 3)]) (.cells #[.int .u64 (P.wrd To 0), .int .u64 (P.wrd To 1), .int .u64 (P.wrd To 2), .int .u64 (P.wrd To 3)] 28)
    simpa using this
  have bx2 : Box (((w.alloc (.cells #[a, b, c] 25)).alloc (.cells #[.int .u64 (P.wrd I 0), .int .u64 (P.wrd I 1), .int .u64 (P.wrd I 2), .int .u64 (P.wrd I 3)] 28)).alloc (.cells #[.int .u64 (P.wrd To 0), .int .u64 (P.wrd To 1), .int .u64 (P.wrd To 2), .int .u64 (P.wrd To 3)] 28)) (w.heap.size + 1 + 1) 28 #[.int .u64 (P.wrd To 0), .int .u64 (P.wrd To 1), .int .u64 (P.wrd To 2), .int .u64 (P.wrd To 3)] := by
    have := Box.new ((w.alloc (.cells #[a, b, c] 25)).alloc (.cells #[.int .u64 (P.wrd I 0), .int .u64 (P.wrd I 1), .int .u64 (P.wrd I 2), .int .u64 (P.wrd I 3)] 28)) 28 #[.int .u64 (P.wrd To 0), .int .u64 (P.wrd To 1), .int .u64 (P.wrd To 2), .int .u64 (P.wrd To 3)]
    simpa using this
  have hbq : Below w.heap.size w (((w.alloc (.cells #[a, b, c] 25)).alloc (.cells #[.int .u64 (P.wrd I 0), .int .u64 (P.wrd I 1), .int .u64 (P.wrd I 2), .int .u64 (P.wrd I 3)] 28)).alloc (.cells #[.int .u64 (P.wrd To 0), .int .u64 (P.wrd To 1), .int .u64 (P.wrd To 2), .int .u64 (P.wrd To 3)] 28)) := (((Below.refl _ w).alloc (Nat.le_refl _) _).alloc (by simp) _).alloc (by simp; omega) _
  have lt0 : w.heap.size < w.heap.size + 1 := Nat.lt_succ_self _
  have lt1 : w.heap.size + 1 < w.heap.size + 1 + 1 := Nat.lt_succ_self _
  have hle0 : w.heap.size ≤ w.heap.size := Nat.le_refl _
  generalize (((w.alloc (.cells #[a, b, c] 25)).alloc (.cells #[.int .u64 (P.wrd I 0), .int .u64 (P.wrd I 1), .int .u64 (P.wrd I 2), .int .u64 (P.wrd I 3)] 28)).alloc (.cells #[.int .u64 (P.wrd To 0), .int .u64 (P.wrd To 1), .int .u64 (P.wrd To 2), .int .u64 (P.wrd To 3)] 28)) = w0 at bx0 bx1 bx2 hbq  ⊢
  have BQg := Lib.hid bx0
  have BQi := Lib.hid bx1
  have BQt := Lib.hid bx2
  have W := Lib.hid hbq
  have LTgi := Lib.hid lt0
  have LTit := Lib.hid lt1
  have LEg := Lib.hid hle0
  clear hbq hle0 bx0 bx1 bx2 lt0 lt1
  generalize w.heap.size + 1 + 1 = qt at BQt LTit ⊢
  generalize w.heap.size + 1 = qi at BQi LTit LTgi ⊢
  obtain ⟨qg, hqg⟩ : ∃ qg, w.heap.size = qg := ⟨_, rfl⟩
  rw [hqg] at BQg LTgi ⊢
  have LEg : Hid (w.heap.size ≤ qg) := Lib.hid (by omega)
  clear hqg
  refine (shown_any _ (T.out.on W.out)).mono ?_
  rintro e w1 ⟨rfl, hb⟩
  replace BQg := Lib.hid (BQg.out.keep (grown_of_below hb none))
  replace BQi := Lib.hid (BQi.out.keep (grown_of_below hb none))
  replace BQt := Lib.hid (BQt.out.keep (grown_of_below hb none))
  replace W := Lib.hid (W.out.trans (hb.mono W.out.size))
  clear hb
  have hbb := BQg.out
  have gc0 : w1.cell? ⟨qg, 0, none⟩ = some a := hbb.cell 0 _ rfl
  have gc1 : w1.cell? ⟨qg, 1, none⟩ = some b := hbb.cell 1 _ rfl
  have gc2 : w1.cell? ⟨qg, 2, none⟩ = some c := hbb.cell 2 _ rfl
  clear hbb
  go_wp2_with fail
  refine (right_any g _ _ (HV.out.on W.out)).mono ?_
  rintro e w2 ⟨rfl, hb⟩
  replace BQg := Lib.hid (BQg.out.keep (grown_of_below hb none))
  replace BQi := Lib.hid (BQi.out.keep (grown_of_below hb none))
  replace BQt := Lib.hid (BQt.out.keep (grown_of_below hb none))
  replace W := Lib.hid (W.out.trans (hb.mono W.out.size))
  clear hb gc0 gc1 gc2
  obtain ⟨z, hz⟩ : ∃ z, g.right.2 = z := ⟨_, rfl⟩
  rw [hz] at hq0 ⊢
  have fq : (((z : Nat) : Int) != 0) = true := by rw [bne_iff_ne]; omega
  clear hz hq0
  go_wp2_with fail
  exact bodyPost_ret (v := .bool true) (by simp [results, Tryd.results4, go_sem]) rfl ⟨rfl, W.out⟩

set_option maxRecDepth 100000 in
set_option maxHeartbeats 1000000 in
theorem traps_away (g : P.G) (I To : BitVec 256) (p : Int) (v : Value) (w : World) (hv : GameV w v g) (hT : Tab w) (hok : g.ok = true) (h0 : p ≠ 0) (h1 : p ≠ 1) : Calls Tryd.prog 4 #[v, .agg #[.int .u64 (P.wrd I 0), .int .u64 (P.wrd I 1), .int .u64 (P.wrd I 2), .int .u64 (P.wrd I 3)], .int .i64 p, .agg #[.int .u64 (P.wrd To 0), .int .u64 (P.wrd To 1), .int .u64 (P.wrd To 2), .int .u64 (P.wrd To 3)]] w fun e w' => e = .returned (.bool true) ∧ Below w.heap.size w w' := by
  have hq0 : g.right.2 = 0 := by unfold P.G.ok at hok; exact beq_iff_eq.1 hok
  have f0 : (p != 0) = true := bne_iff_ne.2 h0
  have f1 : (p != 1) = true := bne_iff_ne.2 h1
  have HV := Lib.hid hv
  obtain ⟨a, b, c, rfl, -⟩ := hv
  clear hok h0 h1
  have T := Lib.hid hT
  clear hT
  go_enter Tryd.func4, Tryd.ntmps4
  go_wp2_with fail
  have bx0 : Box (((w.alloc (.cells #[a, b, c] 25)).alloc (.cells #[.int .u64 (P.wrd I 0), .int .u64 (P.wrd I 1), .int .u64 (P.wrd I 2), .int .u64 (P.wrd I 3)] 28)).alloc (.cells #[.int .u64 (P.wrd To 0), .int .u64 (P.wrd To 1), .int .u64 (P.wrd To 2), .int .u64 (P.wrd To 3)] 28)) (w.heap.size) 25 #[a, b, c] := Box.alloc (Box.alloc (Box.new w 25 #[a, b, c]) (.cells #[.int .u64 (P.wrd I 0), .int .u64 (P.wrd I 1), .int .u64 (P.wrd I 2), .int .u64 (P.wrd I 3)] 28)) (.cells #[.int .u64 (P.wrd To 0), .int .u64 (P.wrd To 1), .int .u64 (P.wrd To 2), .int .u64 (P.wrd To 3)] 28)
  have bx1 : Box (((w.alloc (.cells #[a, b, c] 25)).alloc (.cells #[.int .u64 (P.wrd I 0), .int .u64 (P.wrd I 1), .int .u64 (P.wrd I 2), .int .u64 (P.wrd I 3)] 28)).alloc (.cells #[.int .u64 (P.wrd To 0), .int .u64 (P.wrd To 1), .int .u64 (P.wrd To 2), .int .u64 (P.wrd To 3)] 28)) (w.heap.size + 1) 28 #[.int .u64 (P.wrd I 0), .int .u64 (P.wrd I 1), .int .u64 (P.wrd I 2), .int .u64 (P.wrd I 3)] := by
    have := Box.alloc (Box.new (w.alloc (.cells #[a, b, c] 25)) 28 #[.int .u64 (P.wrd I 0), .int .u64 (P.wrd I 1), .int .u64 (P.wrd I 2), .int .u64 (P.wrd I 3)]) (.cells #[.int .u64 (P.wrd To 0), .int .u64 (P.wrd To 1), .int .u64 (P.wrd To 2), .int .u64 (P.wrd To 3)] 28)
    simpa using this
  have bx2 : Box (((w.alloc (.cells #[a, b, c] 25)).alloc (.cells #[.int .u64 (P.wrd I 0), .int .u64 (P.wrd I 1), .int .u64 (P.wrd I 2), .int .u64 (P.wrd I 3)] 28)).alloc (.cells #[.int .u64 (P.wrd To 0), .int .u64 (P.wrd To 1), .int .u64 (P.wrd To 2), .int .u64 (P.wrd To 3)] 28)) (w.heap.size + 1 + 1) 28 #[.int .u64 (P.wrd To 0), .int .u64 (P.wrd To 1), .int .u64 (P.wrd To 2), .int .u64 (P.wrd To 3)] := by
    have := Box.new ((w.alloc (.cells #[a, b, c] 25)).alloc (.cells #[.int .u64 (P.wrd I 0), .int .u64 (P.wrd I 1), .int .u64 (P.wrd I 2), .int .u64 (P.wrd I 3)] 28)) 28 #[.int .u64 (P.wrd To 0), .int .u64 (P.wrd To 1), .int .u64 (P.wrd To 2), .int .u64 (P.wrd To 3)]
    simpa using this
  have hbq : Below w.heap.size w (((w.alloc (.cells #[a, b, c] 25)).alloc (.cells #[.int .u64 (P.wrd I 0), .int .u64 (P.wrd I 1), .int .u64 (P.wrd I 2), .int .u64 (P.wrd I 3)] 28)).alloc (.cells #[.int .u64 (P.wrd To 0), .int .u64 (P.wrd To 1), .int .u64 (P.wrd To 2), .int .u64 (P.wrd To 3)] 28)) := (((Below.refl _ w).alloc (Nat.le_refl _) _).alloc (by simp) _).alloc (by simp; omega) _
  have lt0 : w.heap.size < w.heap.size + 1 := Nat.lt_succ_self _
  have lt1 : w.heap.size + 1 < w.heap.size + 1 + 1 := Nat.lt_succ_self _
  have hle0 : w.heap.size ≤ w.heap.size := Nat.le_refl _
  generalize (((w.alloc (.cells #[a, b, c] 25)).alloc (.cells #[.int .u64 (P.wrd I 0), .int .u64 (P.wrd I 1), .int .u64 (P.wrd I 2), .int .u64 (P.wrd I 3)] 28)).alloc (.cells #[.int .u64 (P.wrd To 0), .int .u64 (P.wrd To 1), .int .u64 (P.wrd To 2), .int .u64 (P.wrd To 3)] 28)) = w0 at bx0 bx1 bx2 hbq  ⊢
  have BQg := Lib.hid bx0
  have BQi := Lib.hid bx1
  have BQt := Lib.hid bx2
  have W := Lib.hid hbq
  have LTgi := Lib.hid lt0
  have LTit := Lib.hid lt1
  have LEg := Lib.hid hle0
  clear hbq hle0 bx0 bx1 bx2 lt0 lt1
  generalize w.heap.size + 1 + 1 = qt at BQt LTit ⊢
  generalize w.heap.size + 1 = qi at BQi LTit LTgi ⊢
  obtain ⟨qg, hqg⟩ : ∃ qg, w.heap.size = qg := ⟨_, rfl⟩
  rw [hqg] at BQg LTgi ⊢
  have LEg : Hid (w.heap.size ≤ qg) := Lib.hid (by omega)
  clear hqg
  refine (shown_any _ (T.out.on W.out)).mono ?_
  rintro e w1 ⟨rfl, hb⟩
  replace BQg := Lib.hid (BQg.out.keep (grown_of_below hb none))
  replace BQi := Lib.hid (BQi.out.keep (grown_of_below hb none))
  replace BQt := Lib.hid (BQt.out.keep (grown_of_below hb none))
  replace W := Lib.hid (W.out.trans (hb.mono W.out.size))
  clear hb
  have hbb := BQg.out
  have gc0 : w1.cell? ⟨qg, 0, none⟩ = some a := hbb.cell 0 _ rfl
  have gc1 : w1.cell? ⟨qg, 1, none⟩ = some b := hbb.cell 1 _ rfl
  have gc2 : w1.cell? ⟨qg, 2, none⟩ = some c := hbb.cell 2 _ rfl
  clear hbb
  go_wp2_with fail
  refine (right_any g _ _ (HV.out.on W.out)).mono ?_
  rintro e w2 ⟨rfl, hb⟩
  replace BQg := Lib.hid (BQg.out.keep (grown_of_below hb none))
  replace BQi := Lib.hid (BQi.out.keep (grown_of_below hb none))
  replace BQt := Lib.hid (BQt.out.keep (grown_of_below hb none))
  replace W := Lib.hid (W.out.trans (hb.mono W.out.size))
  clear hb gc0 gc1 gc2
  obtain ⟨z, hz⟩ : ∃ z, g.right.2 = z := ⟨_, rfl⟩
  rw [hz] at hq0 ⊢
  have fq : (((z : Nat) : Int) != 0) = false := by rw [bne_eq_false_iff_eq]; omega
  clear hz hq0
  go_wp2_with fail
  exact bodyPost_ret (v := .bool true) (by simp [results, Tryd.results4, go_sem]) rfl ⟨rfl, W.out⟩

set_option maxRecDepth 100000 in
set_option maxHeartbeats 4000000 in
theorem traps_0 (g : P.G) (I To : BitVec 256) (v : Value) (w : World) (hv : GameV w v g) (hT : Tab w) (hok : g.ok = true) : Calls Tryd.prog 4 #[v, .agg #[.int .u64 (P.wrd I 0), .int .u64 (P.wrd I 1), .int .u64 (P.wrd I 2), .int .u64 (P.wrd I 3)], .int .i64 0, .agg #[.int .u64 (P.wrd To 0), .int .u64 (P.wrd To 1), .int .u64 (P.wrd To 2), .int .u64 (P.wrd To 3)]] w fun e w' => e = .returned (.bool true) ∧ Below w.heap.size w w' := by
  have hq0 : g.right.2 = 0 := by unfold P.G.ok at hok; exact beq_iff_eq.1 hok
  have hr := (P.G.ok_iff g).1 hok
  have HV := Lib.hid hv
  have hop := hr.prio
  have hmp := hr.moves
  have hmany := hr.many
  have h0 := hr.pos
  obtain ⟨n, hn⟩ : ∃ n, g.owner.length = n := ⟨_, rfl⟩
  rw [hn] at hop hmp hmany h0
  obtain ⟨ba, oa, ka, bb, ob, kb, bc, oc, kc, rfl, hca, -, hcc⟩ := hv.open_ hn hop hmp h0
  have HCA := Lib.hid hca
  have HCC := Lib.hid hcc
  have HR := Lib.hid hr
  have HN := Lib.hid hn
  clear hca hcc hr hn hop hmp hv
  clear hok
  have T := Lib.hid hT
  clear hT
  go_enter Tryd.func4, Tryd.ntmps4
  go_wp2_with fail
  have bx0 : Box (((w.alloc (.cells #[.slice (some ⟨ba, oa, none⟩) n ka, .slice (some ⟨bb, ob, none⟩) n kb, .slice (some ⟨bc, oc, none⟩) n kc] 25)).alloc (.cells #[.int .u64 (P.wrd I 0), .int .u64 (P.wrd I 1), .int .u64 (P.wrd I 2), .int .u64 (P.wrd I 3)] 28)).alloc (.cells #[.int .u64 (P.wrd To 0), .int .u64 (P.wrd To 1), .int .u64 (P.wrd To 2), .int .u64 (P.wrd To 3)] 28)) (w.heap.size) 25 #[.slice (some ⟨ba, oa, none⟩) n ka, .slice (some ⟨bb, ob, none⟩) n kb, .slice (some ⟨bc, oc, none⟩) n kc] := Box.alloc (Box.alloc (Box.new w 25 #[.slice (some ⟨ba, oa, none⟩) n ka, .slice (some ⟨bb, ob, none⟩) n kb, .slice (some ⟨bc, oc, none⟩) n kc]) (.cells #[.int .u64 (P.wrd I 0), .int .u64 (P.wrd I 1), .int .u64 (P.wrd I 2), .int .u64 (P.wrd I 3)] 28)) (.cells #[.int .u64 (P.wrd To 0), .int .u64 (P.wrd To 1), .int .u64 (P.wrd To 2), .int .u64 (P.wrd To 3)] 28)
  have bx1 : Box (((w.alloc (.cells #[.slice (some ⟨ba, oa, none⟩) n ka, .slice (some ⟨bb, ob, none⟩) n kb, .slice (some ⟨bc, oc, none⟩) n kc] 25)).alloc (.cells #[.int .u64 (P.wrd I 0), .int .u64 (P.wrd I 1), .int .u64 (P.wrd I 2), .int .u64 (P.wrd I 3)] 28)).alloc (.cells #[.int .u64 (P.wrd To 0), .int .u64 (P.wrd To 1), .int .u64 (P.wrd To 2), .int .u64 (P.wrd To 3)] 28)) (w.heap.size + 1) 28 #[.int .u64 (P.wrd I 0), .int .u64 (P.wrd I 1), .int .u64 (P.wrd I 2), .int .u64 (P.wrd I 3)] := by
    have := Box.alloc (Box.new (w.alloc (.cells #[.slice (some ⟨ba, oa, none⟩) n ka, .slice (some ⟨bb, ob, none⟩) n kb, .slice (some ⟨bc, oc, none⟩) n kc] 25)) 28 #[.int .u64 (P.wrd I 0), .int .u64 (P.wrd I 1), .int .u64 (P.wrd I 2), .int .u64 (P.wrd I 3)]) (.cells #[.int .u64 (P.wrd To 0), .int .u64 (P.wrd To 1), .int .u64 (P.wrd To 2), .int .u64 (P.wrd To 3)] 28)
    simpa using this
  have bx2 : Box (((w.alloc (.cells #[.slice (some ⟨ba, oa, none⟩) n ka, .slice (some ⟨bb, ob, none⟩) n kb, .slice (some ⟨bc, oc, none⟩) n kc] 25)).alloc (.cells #[.int .u64 (P.wrd I 0), .int .u64 (P.wrd I 1), .int .u64 (P.wrd I 2), .int .u64 (P.wrd I 3)] 28)).alloc (.cells #[.int .u64 (P.wrd To 0), .int .u64 (P.wrd To 1), .int .u64 (P.wrd To 2), .int .u64 (P.wrd To 3)] 28)) (w.heap.size + 1 + 1) 28 #[.int .u64 (P.wrd To 0), .int .u64 (P.wrd To 1), .int .u64 (P.wrd To 2), .int .u64 (P.wrd To 3)] := by
    have := Box.new ((w.alloc (.cells #[.slice (some ⟨ba, oa, none⟩) n ka, .slice (some ⟨bb, ob, none⟩) n kb, .slice (some ⟨bc, oc, none⟩) n kc] 25)).alloc (.cells #[.int .u64 (P.wrd I 0), .int .u64 (P.wrd I 1), .int .u64 (P.wrd I 2), .int .u64 (P.wrd I 3)] 28)) 28 #[.int .u64 (P.wrd To 0), .int .u64 (P.wrd To 1), .int .u64 (P.wrd To 2), .int .u64 (P.wrd To 3)]
    simpa using this
  have hbq : Below w.heap.size w (((w.alloc (.cells #[.slice (some ⟨ba, oa, none⟩) n ka, .slice (some ⟨bb, ob, none⟩) n kb, .slice (some ⟨bc, oc, none⟩) n kc] 25)).alloc (.cells #[.int .u64 (P.wrd I 0), .int .u64 (P.wrd I 1), .int .u64 (P.wrd I 2), .int .u64 (P.wrd I 3)] 28)).alloc (.cells #[.int .u64 (P.wrd To 0), .int .u64 (P.wrd To 1), .int .u64 (P.wrd To 2), .int .u64 (P.wrd To 3)] 28)) := (((Below.refl _ w).alloc (Nat.le_refl _) _).alloc (by simp) _).alloc (by simp; omega) _
  have lt0 : w.heap.size < w.heap.size + 1 := Nat.lt_succ_self _
  have lt1 : w.heap.size + 1 < w.heap.size + 1 + 1 := Nat.lt_succ_self _
  have hle0 : w.heap.size ≤ w.heap.size := Nat.le_refl _
  generalize (((w.alloc (.cells #[.slice (some ⟨ba, oa, none⟩) n ka, .slice (some ⟨bb, ob, none⟩) n kb, .slice (some ⟨bc, oc, none⟩) n kc] 25)).alloc (.cells #[.int .u64 (P.wrd I 0), .int .u64 (P.wrd I 1), .int .u64 (P.wrd I 2), .int .u64 (P.wrd I 3)] 28)).alloc (.cells #[.int .u64 (P.wrd To 0), .int .u64 (P.wrd To 1), .int .u64 (P.wrd To 2), .int .u64 (P.wrd To 3)] 28)) = w0 at bx0 bx1 bx2 hbq  ⊢
  have BQg := Lib.hid bx0
  have BQi := Lib.hid bx1
  have BQt := Lib.hid bx2
  have W := Lib.hid hbq
  have LTgi := Lib.hid lt0
  have LTit := Lib.hid lt1
  have LEg := Lib.hid hle0
  clear hbq hle0 bx0 bx1 bx2 lt0 lt1
  generalize w.heap.size + 1 + 1 = qt at BQt LTit ⊢
  generalize w.heap.size + 1 = qi at BQi LTit LTgi ⊢
  obtain ⟨qg, hqg⟩ : ∃ qg, w.heap.size = qg := ⟨_, rfl⟩
  rw [hqg] at BQg LTgi ⊢
  have LEg : Hid (w.heap.size ≤ qg) := Lib.hid (by omega)
  clear hqg
  refine (shown_any _ (T.out.on W.out)).mono ?_
  rintro e w1 ⟨rfl, hb⟩
  replace BQg := Lib.hid (BQg.out.keep (grown_of_below hb none))
  replace BQi := Lib.hid (BQi.out.keep (grown_of_below hb none))
  replace BQt := Lib.hid (BQt.out.keep (grown_of_below hb none))
  replace W := Lib.hid (W.out.trans (hb.mono W.out.size))
  clear hb
  have hbb := BQg.out
  have gc0 : w1.cell? ⟨qg, 0, none⟩ = some (.slice (some ⟨ba, oa, none⟩) n ka) := hbb.cell 0 _ rfl
  have gc1 : w1.cell? ⟨qg, 1, none⟩ = some (.slice (some ⟨bb, ob, none⟩) n kb) := hbb.cell 1 _ rfl
  have gc2 : w1.cell? ⟨qg, 2, none⟩ = some (.slice (some ⟨bc, oc, none⟩) n kc) := hbb.cell 2 _ rfl
  clear hbb
  go_wp2_with fail
  refine (right_any g _ _ (HV.out.on W.out)).mono ?_
  rintro e w2 ⟨rfl, hb⟩
  replace BQg := Lib.hid (BQg.out.keep (grown_of_below hb none))
  replace BQi := Lib.hid (BQi.out.keep (grown_of_below hb none))
  replace BQt := Lib.hid (BQt.out.keep (grown_of_below hb none))
  replace W := Lib.hid (W.out.trans (hb.mono W.out.size))
  clear hb gc0 gc1 gc2
  obtain ⟨z, hz⟩ : ∃ z, g.right.2 = z := ⟨_, rfl⟩
  rw [hz] at hq0 ⊢
  have fq : (((z : Nat) : Int) != 0) = false := by rw [bne_eq_false_iff_eq]; omega
  clear hz hq0
  have hbb := BQg.out
  have gc0 : w2.cell? ⟨qg, 0, none⟩ = some (.slice (some ⟨ba, oa, none⟩) n ka) := hbb.cell 0 _ rfl
  have gc1 : w2.cell? ⟨qg, 1, none⟩ = some (.slice (some ⟨bb, ob, none⟩) n kb) := hbb.cell 1 _ rfl
  have gc2 : w2.cell? ⟨qg, 2, none⟩ = some (.slice (some ⟨bc, oc, none⟩) n kc) := hbb.cell 2 _ rfl
  clear hbb
  go_upto_region 6 with (fail)
  clear gc0 gc1 gc2
  refine Rg.wp_region_lit (fun idx => match idx with | 0 => (fun v _ _ => v = .agg #[.int .u64 (P.wrd I 0), .int .u64 (P.wrd I 1), .int .u64 (P.wrd I 2), .int .u64 (P.wrd I 3)]) | 1 => (fun v _ _ => v = (.int .i64 (n : Int))) | 2 => (fun v _ _ => v = .agg #[.int .u64 (P.wrd (P.full (n : Int)) 0), .int .u64 (P.wrd (P.full (n : Int)) 1), .int .u64 (P.wrd (P.full (n : Int)) 2), .int .u64 (P.wrd (P.full (n : Int)) 3)]) | 3 => (fun v _ _ => v = .agg #[.int .u64 (P.wrd (I &&& P.full (n : Int)) 0), .int .u64 (P.wrd (I &&& P.full (n : Int)) 1), .int .u64 (P.wrd (I &&& P.full (n : Int)) 2), .int .u64 (P.wrd (I &&& P.full (n : Int)) 3)]) | _ => fun _ _ _ => True) (none) 99 (by kernel_rfl) (by rfl) (by kernel_rfl) (by rfl) ?_ ?_ ?_
  · refine ⟨?_, ?_, ?_, ?_, trivial⟩
    · intro A w' K vals h hn hg hK
      have r0 : A.tmps[5]?.getD undef = .pointer (some ⟨qi, 0, none⟩) := Rg.slot h.1
      have bs := BQi.out.keep hg
      have cc0 : w'.cell? ⟨qi, 0, none⟩ = some (.int .u64 (P.wrd I 0)) := bs.cell 0 _ rfl
      have cc1 : w'.cell? ⟨qi, 1, none⟩ = some (.int .u64 (P.wrd I 1)) := bs.cell 1 _ rfl
      have cc2 : w'.cell? ⟨qi, 2, none⟩ = some (.int .u64 (P.wrd I 2)) := bs.cell 2 _ rfl
      have cc3 : w'.cell? ⟨qi, 3, none⟩ = some (.int .u64 (P.wrd I 3)) := bs.cell 3 _ rfl
      clear h hn hg bs
      simp [Oper.wp, execOp, go_sem, r0, cc0, cc1, cc2, cc3]
      exact hK _ _ (Rg.grown_refl _ _) rfl
    · intro A w' K vals h hn hg hK
      have r0 : A.tmps[12]?.getD undef = .int .i64 (n : Int) := Rg.slot (h.1)
      clear h hn hg
      simp [Oper.wp, execOp, go_sem, r0]
      exact hK _ _ (Rg.grown_refl _ _) rfl
    · intro A w' K vals h hn hg hK
      have r0 : A.tmps[43]?.getD undef = vals 1 := Rg.slot h.2.1
      have s0 : vals 1 = (.int .i64 (n : Int)) := hn.1
      clear h hn
      simp [Oper.wp, go_sem, r0, s0]
      refine (full_any (n : Int) w').mono ?_
      rintro e w'' ⟨rfl, hb⟩
      exact hK _ _ (grown_of_below hb _) rfl
    · intro A w' K vals h hn hg hK
      have r0 : A.tmps[42]?.getD undef = vals 0 := Rg.slot h.2.1
      have s0 : vals 0 = .agg #[.int .u64 (P.wrd I 0), .int .u64 (P.wrd I 1), .int .u64 (P.wrd I 2), .int .u64 (P.wrd I 3)] := hn.1
      have r1 : A.tmps[44]?.getD undef = vals 2 := Rg.slot h.2.2.1
      have s1 : vals 2 = .agg #[.int .u64 (P.wrd (P.full (n : Int)) 0), .int .u64 (P.wrd (P.full (n : Int)) 1), .int .u64 (P.wrd (P.full (n : Int)) 2), .int .u64 (P.wrd (P.full (n : Int)) 3)] := hn.2.1
      clear h hn
      simp [Oper.wp, go_sem, r0, s0, r1, s1]
      refine (and_any I (P.full (n : Int)) w').mono ?_
      rintro e w'' ⟨rfl, hb⟩
      exact hK _ _ (grown_of_below hb _) rfl
  · refine ⟨?_, ?_, ?_, ?_, trivial⟩
    · exact fun _ _ _ _ _ _ h => h
    · exact fun _ _ _ _ _ _ h => h
    · exact fun _ _ _ _ _ _ h => h
    · exact fun _ _ _ _ _ _ h => h
  · intro vals w3 G hg hS hG
    have s3 : vals 3 = .agg #[.int .u64 (P.wrd (I &&& P.full (n : Int)) 0), .int .u64 (P.wrd (I &&& P.full (n : Int)) 1), .int .u64 (P.wrd (I &&& P.full (n : Int)) 2), .int .u64 (P.wrd (I &&& P.full (n : Int)) 3)] := hS.2.2.2.1
    clear hS
    have hb := below_of_grown hg
    replace BQg := Lib.hid (BQg.out.keep (grown_of_below hb none))
    replace BQi := Lib.hid (BQi.out.keep (grown_of_below hb none))
    replace BQt := Lib.hid (BQt.out.keep (grown_of_below hb none))
    replace W := Lib.hid (W.out.trans (hb.mono W.out.size))
    clear hb hg
    have hbb := BQi.out
    have ic0 : w3.cell? ⟨qi, 0, none⟩ = some (.int .u64 (P.wrd I 0)) := hbb.cell 0 _ rfl
    have ic1 : w3.cell? ⟨qi, 1, none⟩ = some (.int .u64 (P.wrd I 1)) := hbb.cell 1 _ rfl
    have ic2 : w3.cell? ⟨qi, 2, none⟩ = some (.int .u64 (P.wrd I 2)) := hbb.cell 2 _ rfl
    have ic3 : w3.cell? ⟨qi, 3, none⟩ = some (.int .u64 (P.wrd I 3)) := hbb.cell 3 _ rfl
    have if0 : w3.frozen? ⟨qi, 0, none⟩ = false := hbb.frozen 0
    have if1 : w3.frozen? ⟨qi, 1, none⟩ = false := hbb.frozen 1
    have if2 : w3.frozen? ⟨qi, 2, none⟩ = false := hbb.frozen 2
    have if3 : w3.frozen? ⟨qi, 3, none⟩ = false := hbb.frozen 3
    clear hbb
    refine hG ?_
    clear hG
    simp [List.dropLast, Rg.putAll, Oper.wp, execOp, go_sem, s3, ic0, ic1, ic2, ic3, if0, if1, if2, if3]
    clear s3 ic0 ic1 ic2 ic3 if0 if1 if2 if3
    have BQi := Lib.hid (show Box ((((w3.setCell ⟨qi, 0, none⟩ (.int .u64 (P.wrd (I &&& P.full (n : Int)) 0))).setCell ⟨qi, 1, none⟩ (.int .u64 (P.wrd (I &&& P.full (n : Int)) 1))).setCell ⟨qi, 2, none⟩ (.int .u64 (P.wrd (I &&& P.full (n : Int)) 2))).setCell ⟨qi, 3, none⟩ (.int .u64 (P.wrd (I &&& P.full (n : Int)) 3))) qi 28 #[.int .u64 (P.wrd (I &&& P.full (n : Int)) 0), .int .u64 (P.wrd (I &&& P.full (n : Int)) 1), .int .u64 (P.wrd (I &&& P.full (n : Int)) 2), .int .u64 (P.wrd (I &&& P.full (n : Int)) 3)] from Blk.store (show Blk w3 qi I 28 from BQi.out) (I &&& P.full (n : Int)))
    have BQg := Lib.hid (far4 (.int .u64 (P.wrd (I &&& P.full (n : Int)) 0)) (.int .u64 (P.wrd (I &&& P.full (n : Int)) 1)) (.int .u64 (P.wrd (I &&& P.full (n : Int)) 2)) (.int .u64 (P.wrd (I &&& P.full (n : Int)) 3)) BQg.out (show qg ≠ qi by have := LTgi.out; omega))
    have BQt := Lib.hid (far4 (.int .u64 (P.wrd (I &&& P.full (n : Int)) 0)) (.int .u64 (P.wrd (I &&& P.full (n : Int)) 1)) (.int .u64 (P.wrd (I &&& P.full (n : Int)) 2)) (.int .u64 (P.wrd (I &&& P.full (n : Int)) 3)) BQt.out (show qt ≠ qi by have := LTit.out; omega))
    replace W := Lib.hid (W.out.trans (below4 (w := w3) (q := qi) (.int .u64 (P.wrd (I &&& P.full (n : Int)) 0)) (.int .u64 (P.wrd (I &&& P.full (n : Int)) 1)) (.int .u64 (P.wrd (I &&& P.full (n : Int)) 2)) (.int .u64 (P.wrd (I &&& P.full (n : Int)) 3)) (by have := LTgi.out; have := LEg.out; omega)))
    generalize ((((w3.setCell ⟨qi, 0, none⟩ (.int .u64 (P.wrd (I &&& P.full (n : Int)) 0))).setCell ⟨qi, 1, none⟩ (.int .u64 (P.wrd (I &&& P.full (n : Int)) 1))).setCell ⟨qi, 2, none⟩ (.int .u64 (P.wrd (I &&& P.full (n : Int)) 2))).setCell ⟨qi, 3, none⟩ (.int .u64 (P.wrd (I &&& P.full (n : Int)) 3))) = w4 at BQg BQi BQt W ⊢
    have hbb := BQg.out
    have gc0 : w4.cell? ⟨qg, 0, none⟩ = some (.slice (some ⟨ba, oa, none⟩) n ka) := hbb.cell 0 _ rfl
    have gc1 : w4.cell? ⟨qg, 1, none⟩ = some (.slice (some ⟨bb, ob, none⟩) n kb) := hbb.cell 1 _ rfl
    have gc2 : w4.cell? ⟨qg, 2, none⟩ = some (.slice (some ⟨bc, oc, none⟩) n kc) := hbb.cell 2 _ rfl
    clear hbb
    have hbb := BQi.out
    have ic0 : w4.cell? ⟨qi, 0, none⟩ = some (.int .u64 (P.wrd (I &&& P.full (n : Int)) 0)) := hbb.cell 0 _ rfl
    have ic1 : w4.cell? ⟨qi, 1, none⟩ = some (.int .u64 (P.wrd (I &&& P.full (n : Int)) 1)) := hbb.cell 1 _ rfl
    have ic2 : w4.cell? ⟨qi, 2, none⟩ = some (.int .u64 (P.wrd (I &&& P.full (n : Int)) 2)) := hbb.cell 2 _ rfl
    have ic3 : w4.cell? ⟨qi, 3, none⟩ = some (.int .u64 (P.wrd (I &&& P.full (n : Int)) 3)) := hbb.cell 3 _ rfl
    clear hbb
    have hbb := BQt.out
    have tc0 : w4.cell? ⟨qt, 0, none⟩ = some (.int .u64 (P.wrd To 0)) := hbb.cell 0 _ rfl
    have tc1 : w4.cell? ⟨qt, 1, none⟩ = some (.int .u64 (P.wrd To 1)) := hbb.cell 1 _ rfl
    have tc2 : w4.cell? ⟨qt, 2, none⟩ = some (.int .u64 (P.wrd To 2)) := hbb.cell 2 _ rfl
    have tc3 : w4.cell? ⟨qt, 3, none⟩ = some (.int .u64 (P.wrd To 3)) := hbb.cell 3 _ rfl
    clear hbb
    go_wp2_with fail
    refine (attract_any g (I &&& P.full (n : Int)) To 0 _ _ (HV.out.on W.out) (T.out.on W.out)).mono ?_
    rintro e u1 ⟨v1, m1, rfl, ho1, hm1, hb⟩
    obtain ⟨vo1, vk1, rfl, -⟩ := own_at ho1
    replace BQg := Lib.hid (BQg.out.keep (grown_of_below hb none))
    replace BQi := Lib.hid (BQi.out.keep (grown_of_below hb none))
    replace BQt := Lib.hid (BQt.out.keep (grown_of_below hb none))
    replace W := Lib.hid (W.out.trans (hb.mono W.out.size))
    obtain ⟨s1, hs1⟩ : ∃ s, P.attOf g (I &&& P.full (n : Int)) 0 To = s := ⟨_, rfl⟩
    rw [hs1]
    have HS1 := Lib.hid hs1
    clear hb hs1 gc0 gc1 gc2 ic0 ic1 ic2 ic3 tc0 tc1 tc2 tc3
    clear ho1 hm1
    go_upto_region 8 with (fail)
    have bq : Box (u1.alloc (.cells #[.int .u64 (P.wrd s1 0), .int .u64 (P.wrd s1 1), .int .u64 (P.wrd s1 2), .int .u64 (P.wrd s1 3)] 28)) u1.heap.size 28 #[.int .u64 (P.wrd s1 0), .int .u64 (P.wrd s1 1), .int .u64 (P.wrd s1 2), .int .u64 (P.wrd s1 3)] := Box.new _ _ _
    have hgq := World.grownBy_alloc u1 (.cells #[.int .u64 (P.wrd s1 0), .int .u64 (P.wrd s1 1), .int .u64 (P.wrd s1 2), .int .u64 (P.wrd s1 3)] 28) none
    replace BQg := Lib.hid (BQg.out.keep hgq)
    replace BQi := Lib.hid (BQi.out.keep hgq)
    replace BQt := Lib.hid (BQt.out.keep hgq)
    replace W := Lib.hid (W.out.trans ((below_of_grown hgq).mono W.out.size))
    generalize (u1.alloc (.cells #[.int .u64 (P.wrd s1 0), .int .u64 (P.wrd s1 1), .int .u64 (P.wrd s1 2), .int .u64 (P.wrd s1 3)] 28)) = x1 at bq BQg BQi BQt W ⊢
    generalize u1.heap.size = q1 at bq ⊢
    have BQ1 := Lib.hid bq
    clear bq hgq
    have h1 : decide (s1 ||| (I &&& P.full (n : Int)) = (I &&& P.full (n : Int))) = true := decide_eq_true (by rw [← HS1.out]; exact P.attOf_within g (I &&& P.full (n : Int)) To 0)
    have h2 : decide (To &&& (I &&& P.full (n : Int)) ||| s1 = s1) = true := decide_eq_true (by
      have h := P.attOf_holds HR.out (p := 0) (by omega) (I &&& P.full (n : Int)) To
      rw [HS1.out, HN.out, BitVec.and_assoc, BitVec.and_self] at h
      exact h)
    have c1 := fun d os => rIn x1 s1 (I &&& P.full (n : Int)) d os
    rw [h1] at c1
    have c2 := fun d os => rAnd x1 To (I &&& P.full (n : Int)) d os
    have c3 := fun d os => rIn x1 (To &&& (I &&& P.full (n : Int))) s1 d os
    rw [h2] at c3
    clear h1 h2
    have ki0 : ∀ (d : Nat) (os : Array Obj), (grow (redrawn x1 d) os).cell? ⟨qi, 0, none⟩ = some (.int .u64 (P.wrd (I &&& P.full (n : Int)) 0)) := fun d os => (BQi.out.keep (grown_of_below (below_regrown x1 d os) none)).cell 0 _ rfl
    have ki1 : ∀ (d : Nat) (os : Array Obj), (grow (redrawn x1 d) os).cell? ⟨qi, 1, none⟩ = some (.int .u64 (P.wrd (I &&& P.full (n : Int)) 1)) := fun d os => (BQi.out.keep (grown_of_below (below_regrown x1 d os) none)).cell 1 _ rfl
    have ki2 : ∀ (d : Nat) (os : Array Obj), (grow (redrawn x1 d) os).cell? ⟨qi, 2, none⟩ = some (.int .u64 (P.wrd (I &&& P.full (n : Int)) 2)) := fun d os => (BQi.out.keep (grown_of_below (below_regrown x1 d os) none)).cell 2 _ rfl
    have ki3 : ∀ (d : Nat) (os : Array Obj), (grow (redrawn x1 d) os).cell? ⟨qi, 3, none⟩ = some (.int .u64 (P.wrd (I &&& P.full (n : Int)) 3)) := fun d os => (BQi.out.keep (grown_of_below (below_regrown x1 d os) none)).cell 3 _ rfl
    have kt0 : ∀ (d : Nat) (os : Array Obj), (grow (redrawn x1 d) os).cell? ⟨qt, 0, none⟩ = some (.int .u64 (P.wrd To 0)) := fun d os => (BQt.out.keep (grown_of_below (below_regrown x1 d os) none)).cell 0 _ rfl
    have kt1 : ∀ (d : Nat) (os : Array Obj), (grow (redrawn x1 d) os).cell? ⟨qt, 1, none⟩ = some (.int .u64 (P.wrd To 1)) := fun d os => (BQt.out.keep (grown_of_below (below_regrown x1 d os) none)).cell 1 _ rfl
    have kt2 : ∀ (d : Nat) (os : Array Obj), (grow (redrawn x1 d) os).cell? ⟨qt, 2, none⟩ = some (.int .u64 (P.wrd To 2)) := fun d os => (BQt.out.keep (grown_of_below (below_regrown x1 d os) none)).cell 2 _ rfl
    have kt3 : ∀ (d : Nat) (os : Array Obj), (grow (redrawn x1 d) os).cell? ⟨qt, 3, none⟩ = some (.int .u64 (P.wrd To 3)) := fun d os => (BQt.out.keep (grown_of_below (below_regrown x1 d os) none)).cell 3 _ rfl
    have ky0 : ∀ (d : Nat) (os : Array Obj), (grow (redrawn x1 d) os).cell? ⟨q1, 0, none⟩ = some (.int .u64 (P.wrd s1 0)) := fun d os => (BQ1.out.keep (grown_of_below (below_regrown x1 d os) none)).cell 0 _ rfl
    have ky1 : ∀ (d : Nat) (os : Array Obj), (grow (redrawn x1 d) os).cell? ⟨q1, 1, none⟩ = some (.int .u64 (P.wrd s1 1)) := fun d os => (BQ1.out.keep (grown_of_below (below_regrown x1 d os) none)).cell 1 _ rfl
    have ky2 : ∀ (d : Nat) (os : Array Obj), (grow (redrawn x1 d) os).cell? ⟨q1, 2, none⟩ = some (.int .u64 (P.wrd s1 2)) := fun d os => (BQ1.out.keep (grown_of_below (below_regrown x1 d os) none)).cell 2 _ rfl
    have ky3 : ∀ (d : Nat) (os : Array Obj), (grow (redrawn x1 d) os).cell? ⟨q1, 3, none⟩ = some (.int .u64 (P.wrd s1 3)) := fun d os => (BQ1.out.keep (grown_of_below (below_regrown x1 d os) none)).cell 3 _ rfl
    refine wp_region_quiet_below (by kernel_rfl) (by kernel_rfl) ?_
    repeat (quiet_step (first | with_reducible exact c1 _ _ | with_reducible exact c2 _ _ | with_reducible exact c3 _ _))
    refine wpQuiet_nil ?_
    intro _ hw'
    obtain ⟨⟨dq, osq⟩, hw''⟩ := hw'
    subst hw''
    clear c1 c2 c3 ki0 ki1 ki2 ki3 kt0 kt1 kt2 kt3 ky0 ky1 ky2 ky3
    have hb := below_regrown x1 dq osq
    replace BQg := Lib.hid (BQg.out.keep (grown_of_below hb none))
    replace BQi := Lib.hid (BQi.out.keep (grown_of_below hb none))
    replace BQt := Lib.hid (BQt.out.keep (grown_of_below hb none))
    replace BQ1 := Lib.hid (BQ1.out.keep (grown_of_below hb none))
    replace W := Lib.hid (W.out.trans (hb.mono W.out.size))
    clear hb
    generalize (grow (redrawn x1 dq) osq) = x2 at BQg BQi BQt BQ1 W ⊢
    have hbb := BQi.out
    have ic0 : x2.cell? ⟨qi, 0, none⟩ = some (.int .u64 (P.wrd (I &&& P.full (n : Int)) 0)) := hbb.cell 0 _ rfl
    have ic1 : x2.cell? ⟨qi, 1, none⟩ = some (.int .u64 (P.wrd (I &&& P.full (n : Int)) 1)) := hbb.cell 1 _ rfl
    have ic2 : x2.cell? ⟨qi, 2, none⟩ = some (.int .u64 (P.wrd (I &&& P.full (n : Int)) 2)) := hbb.cell 2 _ rfl
    have ic3 : x2.cell? ⟨qi, 3, none⟩ = some (.int .u64 (P.wrd (I &&& P.full (n : Int)) 3)) := hbb.cell 3 _ rfl
    clear hbb
    have hbb := BQ1.out
    have yc0 : x2.cell? ⟨q1, 0, none⟩ = some (.int .u64 (P.wrd s1 0)) := hbb.cell 0 _ rfl
    have yc1 : x2.cell? ⟨q1, 1, none⟩ = some (.int .u64 (P.wrd s1 1)) := hbb.cell 1 _ rfl
    have yc2 : x2.cell? ⟨q1, 2, none⟩ = some (.int .u64 (P.wrd s1 2)) := hbb.cell 2 _ rfl
    have yc3 : x2.cell? ⟨q1, 3, none⟩ = some (.int .u64 (P.wrd s1 3)) := hbb.cell 3 _ rfl
    clear hbb
    go_wp2_with fail
    refine (minus_any (I &&& P.full (n : Int)) s1 _).mono ?_
    rintro e x3 ⟨rfl, hb⟩
    replace BQg := Lib.hid (BQg.out.keep (grown_of_below hb none))
    replace BQi := Lib.hid (BQi.out.keep (grown_of_below hb none))
    replace BQt := Lib.hid (BQt.out.keep (grown_of_below hb none))
    replace BQ1 := Lib.hid (BQ1.out.keep (grown_of_below hb none))
    replace W := Lib.hid (W.out.trans (hb.mono W.out.size))
    clear hb ic0 ic1 ic2 ic3 yc0 yc1 yc2 yc3
    go_upto_region 11 with (fail)
    have bq : Box (x3.alloc (.cells #[.int .u64 (P.wrd ((I &&& P.full (n : Int)) &&& ~~~s1) 0), .int .u64 (P.wrd ((I &&& P.full (n : Int)) &&& ~~~s1) 1), .int .u64 (P.wrd ((I &&& P.full (n : Int)) &&& ~~~s1) 2), .int .u64 (P.wrd ((I &&& P.full (n : Int)) &&& ~~~s1) 3)] 28)) x3.heap.size 28 #[.int .u64 (P.wrd ((I &&& P.full (n : Int)) &&& ~~~s1) 0), .int .u64 (P.wrd ((I &&& P.full (n : Int)) &&& ~~~s1) 1), .int .u64 (P.wrd ((I &&& P.full (n : Int)) &&& ~~~s1) 2), .int .u64 (P.wrd ((I &&& P.full (n : Int)) &&& ~~~s1) 3)] := Box.new _ _ _
    have hgq := World.grownBy_alloc x3 (.cells #[.int .u64 (P.wrd ((I &&& P.full (n : Int)) &&& ~~~s1) 0), .int .u64 (P.wrd ((I &&& P.full (n : Int)) &&& ~~~s1) 1), .int .u64 (P.wrd ((I &&& P.full (n : Int)) &&& ~~~s1) 2), .int .u64 (P.wrd ((I &&& P.full (n : Int)) &&& ~~~s1) 3)] 28) none
    replace BQg := Lib.hid (BQg.out.keep hgq)
    replace BQi := Lib.hid (BQi.out.keep hgq)
    replace BQt := Lib.hid (BQt.out.keep hgq)
    replace BQ1 := Lib.hid (BQ1.out.keep hgq)
    replace W := Lib.hid (W.out.trans ((below_of_grown hgq).mono W.out.size))
    generalize (x3.alloc (.cells #[.int .u64 (P.wrd ((I &&& P.full (n : Int)) &&& ~~~s1) 0), .int .u64 (P.wrd ((I &&& P.full (n : Int)) &&& ~~~s1) 1), .int .u64 (P.wrd ((I &&& P.full (n : Int)) &&& ~~~s1) 2), .int .u64 (P.wrd ((I &&& P.full (n : Int)) &&& ~~~s1) 3)] 28)) = x4 at bq BQg BQi BQt BQ1 W ⊢
    generalize x3.heap.size = qx at bq ⊢
    have BQx := Lib.hid bq
    clear bq hgq
    go_wp2_with fail
    have Lg := Lib.hid BQg.out.lt
    have Li := Lib.hid BQi.out.lt
    have Lt := Lib.hid BQt.out.lt
    have L1 := Lib.hid BQ1.out.lt
    have Lx := Lib.hid BQx.out.lt
    have HBG := BQg
    have HBI := BQi
    have HBT := BQt
    have HB1 := BQ1
    have HBX := BQx
    have HWX := W
    go_loopw [16] (fun i wr => ∃ j : Nat, j ≤ n ∧ i = .int .i64 (j : Int) ∧ Below x4.heap.size x4 wr) (fun i _ => n - (intOf i).toNat)
    case atStart => exact ⟨0, Nat.zero_le _, rfl, Below.refl _ _⟩
    case round =>
      obtain ⟨j, hj, rfl, hbw⟩ := hrel
      have WB := Lib.hid hbw
      have BQg := Lib.hid (HBG.out.keep (grown_of_below hbw none))
      have BQi := Lib.hid (HBI.out.keep (grown_of_below hbw none))
      have BQt := Lib.hid (HBT.out.keep (grown_of_below hbw none))
      have BQ1 := Lib.hid (HB1.out.keep (grown_of_below hbw none))
      have BQx := Lib.hid (HBX.out.keep (grown_of_below hbw none))
      have W := Lib.hid (HWX.out.trans (hbw.mono HWX.out.size))
      clear hbw
      have hj0 : (0 : Int) ≤ (j : Int) := Int.natCast_nonneg _
      by_cases hlt : j < n
      · have fj : decide ((j : Int) < (n : Int)) = true := decide_eq_true (by omega)
        have hji : (j : Int) < (n : Int) := by omega
        have hbb := BQx.out
        have xc0 : wr.cell? ⟨qx, 0, none⟩ = some (.int .u64 (P.wrd ((I &&& P.full (n : Int)) &&& ~~~s1) 0)) := hbb.cell 0 _ rfl
        have xc1 : wr.cell? ⟨qx, 1, none⟩ = some (.int .u64 (P.wrd ((I &&& P.full (n : Int)) &&& ~~~s1) 1)) := hbb.cell 1 _ rfl
        have xc2 : wr.cell? ⟨qx, 2, none⟩ = some (.int .u64 (P.wrd ((I &&& P.full (n : Int)) &&& ~~~s1) 2)) := hbb.cell 2 _ rfl
        have xc3 : wr.cell? ⟨qx, 3, none⟩ = some (.int .u64 (P.wrd ((I &&& P.full (n : Int)) &&& ~~~s1) 3)) := hbb.cell 3 _ rfl
        clear hbb
        go_wp2_with fail
        refine (has_any ((I &&& P.full (n : Int)) &&& ~~~s1) (j : Int) _).mono ?_
        rintro e w6 ⟨rfl, hb⟩
        replace BQg := Lib.hid (BQg.out.keep (grown_of_below hb none))
        replace BQi := Lib.hid (BQi.out.keep (grown_of_below hb none))
        replace BQt := Lib.hid (BQt.out.keep (grown_of_below hb none))
        replace BQ1 := Lib.hid (BQ1.out.keep (grown_of_below hb none))
        replace BQx := Lib.hid (BQx.out.keep (grown_of_below hb none))
        replace W := Lib.hid (W.out.trans (hb.mono W.out.size))
        replace WB := Lib.hid (WB.out.trans (hb.mono WB.out.size))
        clear hb xc0 xc1 xc2 xc3
        rw [P.has_nat]
        obtain ⟨hs, hhs⟩ : ∃ hs, ((I &&& P.full (n : Int)) &&& ~~~s1).getLsbD j = hs := ⟨_, rfl⟩
        rw [hhs]
        have HHS := Lib.hid hhs
        clear hhs
        cases hs with
        | false =>
          go_wp2_with fail
          go_roundw
          case rel => exact ⟨j + 1, by omega, by go_num, WB.out⟩
          case measure => simp [intOf]; omega
        | true =>
          have HIB : Hid ((I &&& P.full (n : Int)).getLsbD j = true) := Lib.hid (by
            have h := HHS.out
            rw [BitVec.getLsbD_and, Bool.and_eq_true] at h
            exact h.1)
          have HSB : Hid (s1.getLsbD j = false) := Lib.hid (by
            have h := HHS.out
            rw [BitVec.getLsbD_and, Bool.and_eq_true, BitVec.getLsbD_not, Bool.and_eq_true, Bool.not_eq_true'] at h
            exact h.2.2)
          obtain ⟨wq, rfl⟩ : ∃ wq : World, wq = wr := ⟨_, rfl⟩
          obtain ⟨wr, rfl⟩ : ∃ wr : World, wr = w6 := ⟨_, rfl⟩
          have co := HCA.out wr W.out j hlt
          obtain ⟨xv, hcx, hxv⟩ := HCC.out wr W.out j hlt
          obtain ⟨ms, hms⟩ : ∃ ms, g.moves.getD j [] = ms := ⟨_, rfl⟩
          rw [hms] at hxv
          have IX := Lib.hid hxv
          obtain ⟨mo, mk, rfl, -, -⟩ := hxv
          have HCX := Lib.hid hcx
          have HMS := Lib.hid hms
          have LCO := Lib.hid (cell_lt co)
          have LW := Lib.hid W.out.size
          have LWB := Lib.hid WB.out.size
          have Lg := Lib.hid BQg.out.lt
          have Li := Lib.hid BQi.out.lt
          have Lt := Lib.hid BQt.out.lt
          have L1 := Lib.hid BQ1.out.lt
          have Lx := Lib.hid BQx.out.lt
          clear hms hcx
          go_upto_region 15 with (fail)
          refine Rg.wp_region_lit (fun idx => match idx with | 0 => (fun v _ _ => v = (.pointer (some ⟨qg, 2, none⟩))) | 1 => (fun v _ _ => v = (.slice (some ⟨bc, oc, none⟩) n kc)) | 2 => (fun v _ _ => v = (.int .i64 (j : Int))) | 3 => (fun v _ _ => v = (.pointer (some ⟨bc, oc + j, none⟩))) | 4 => (fun v _ _ => v = (.slice mo ms.length mk)) | 5 => (fun v _ _ => v = .agg #[.int .u64 (P.wrd (P.ofL ms) 0), .int .u64 (P.wrd (P.ofL ms) 1), .int .u64 (P.wrd (P.ofL ms) 2), .int .u64 (P.wrd (P.ofL ms) 3)]) | 6 => (fun v _ _ => v = .agg #[.int .u64 (P.wrd (I &&& P.full (n : Int)) 0), .int .u64 (P.wrd (I &&& P.full (n : Int)) 1), .int .u64 (P.wrd (I &&& P.full (n : Int)) 2), .int .u64 (P.wrd (I &&& P.full (n : Int)) 3)]) | 7 => (fun v _ _ => v = .agg #[.int .u64 (P.wrd (P.ofL ms &&& (I &&& P.full (n : Int))) 0), .int .u64 (P.wrd (P.ofL ms &&& (I &&& P.full (n : Int))) 1), .int .u64 (P.wrd (P.ofL ms &&& (I &&& P.full (n : Int))) 2), .int .u64 (P.wrd (P.ofL ms &&& (I &&& P.full (n : Int))) 3)]) | 8 => (fun v _ w' => ∃ qp, v = .pointer (some ⟨qp, 0, none⟩) ∧ wr.heap.size ≤ qp ∧ Box w' qp 28 #[.int .u64 0, .int .u64 0, .int .u64 0, .int .u64 0]) | _ => fun _ _ _ => True) (none) 99 (by kernel_rfl) (by rfl) (by kernel_rfl) (by rfl) ?_ ?_ ?_
          · refine ⟨?_, ?_, ?_, ?_, ?_, ?_, ?_, ?_, ?_, trivial⟩
            · intro A w' K vals h hn hg hK
              have r0 : A.tmps[4]?.getD undef = (.pointer (some ⟨qg, 0, none⟩)) := Rg.slot (h.1)
              clear h hn hg
              simp [Oper.wp, execOp, go_sem, r0]
              exact hK _ _ (Rg.grown_refl _ _) rfl
            · intro A w' K vals h hn hg hK
              have r0 : A.tmps[78]?.getD undef = vals 0 := Rg.slot h.1
              have r1 : vals 0 = (.pointer (some ⟨qg, 2, none⟩)) := hn.1
              have c : w'.cell? ⟨qg, 2, none⟩ = some (.slice (some ⟨bc, oc, none⟩) n kc) := (BQg.out.keep (hg)).cell _ _ rfl
              clear h hn
              simp [Oper.wp, execOp, go_sem, r0, r1, c]
              exact hK _ _ (Rg.grown_refl _ _) rfl
            · intro A w' K vals h hn hg hK
              have r0 : A.tmps[16]?.getD undef = (.int .i64 (j : Int)) := Rg.slot (h.1)
              clear h hn hg
              simp [Oper.wp, execOp, go_sem, r0]
              exact hK _ _ (Rg.grown_refl _ _) rfl
            · intro A w' K vals h hn hg hK
              have r0 : A.tmps[79]?.getD undef = vals 1 := Rg.slot h.1
              have r1 : A.tmps[80]?.getD undef = vals 2 := Rg.slot h.2.1
              have r2 : vals 1 = (.slice (some ⟨bc, oc, none⟩) n kc) := hn.1
              have r3 : vals 2 = (.int .i64 (j : Int)) := hn.2.1
              clear h hn hg
              simp [Oper.wp, execOp, go_sem, r0, r1, r2, r3, hlt]
              exact hK _ _ (Rg.grown_refl _ _) rfl
            · intro A w' K vals h hn hg hK
              have r0 : A.tmps[81]?.getD undef = vals 3 := Rg.slot h.1
              have r1 : vals 3 = (.pointer (some ⟨bc, oc + j, none⟩)) := hn.1
              have c : w'.cell? ⟨bc, oc + j, none⟩ = some (.slice mo ms.length mk) := hg.cell HCX.out (by simp)
              clear h hn
              simp [Oper.wp, execOp, go_sem, r0, r1, c]
              exact hK _ _ (Rg.grown_refl _ _) rfl
            · intro A w' K vals h hn hg hK
              have r0 : A.tmps[82]?.getD undef = vals 4 := Rg.slot h.2.1
              have s0 : vals 4 = (.slice mo ms.length mk) := hn.1
              clear h hn
              simp [Oper.wp, go_sem, r0, s0]
              refine (of_ints (IX.out.on (below_of_grown hg))).mono ?_
              rintro e w'' ⟨rfl, hb⟩
              exact hK _ _ (grown_of_below hb _) rfl
            · intro A w' K vals h hn hg hK
              have r0 : A.tmps[5]?.getD undef = .pointer (some ⟨qi, 0, none⟩) := Rg.slot h.1
              have bs := BQi.out.keep hg
              have cc0 : w'.cell? ⟨qi, 0, none⟩ = some (.int .u64 (P.wrd (I &&& P.full (n : Int)) 0)) := bs.cell 0 _ rfl
              have cc1 : w'.cell? ⟨qi, 1, none⟩ = some (.int .u64 (P.wrd (I &&& P.full (n : Int)) 1)) := bs.cell 1 _ rfl
              have cc2 : w'.cell? ⟨qi, 2, none⟩ = some (.int .u64 (P.wrd (I &&& P.full (n : Int)) 2)) := bs.cell 2 _ rfl
              have cc3 : w'.cell? ⟨qi, 3, none⟩ = some (.int .u64 (P.wrd (I &&& P.full (n : Int)) 3)) := bs.cell 3 _ rfl
              clear h hn hg bs
              simp [Oper.wp, execOp, go_sem, r0, cc0, cc1, cc2, cc3]
              exact hK _ _ (Rg.grown_refl _ _) rfl
            · intro A w' K vals h hn hg hK
              have r0 : A.tmps[83]?.getD undef = vals 5 := Rg.slot h.2.1
              have s0 : vals 5 = .agg #[.int .u64 (P.wrd (P.ofL ms) 0), .int .u64 (P.wrd (P.ofL ms) 1), .int .u64 (P.wrd (P.ofL ms) 2), .int .u64 (P.wrd (P.ofL ms) 3)] := hn.1
              have r1 : A.tmps[84]?.getD undef = vals 6 := Rg.slot h.2.2.1
              have s1 : vals 6 = .agg #[.int .u64 (P.wrd (I &&& P.full (n : Int)) 0), .int .u64 (P.wrd (I &&& P.full (n : Int)) 1), .int .u64 (P.wrd (I &&& P.full (n : Int)) 2), .int .u64 (P.wrd (I &&& P.full (n : Int)) 3)] := hn.2.1
              clear h hn
              simp [Oper.wp, go_sem, r0, s0, r1, s1]
              refine (and_any (P.ofL ms) (I &&& P.full (n : Int)) w').mono ?_
              rintro e w'' ⟨rfl, hb⟩
              exact hK _ _ (grown_of_below hb _) rfl
            · intro A w' K vals h hn hg hK
              clear h hn
              simp [Oper.wp, execOp, go_sem]
              exact hK _ _ (World.grownBy_alloc _ _ _) ⟨_, rfl, hg.size, Box.new _ _ _⟩
          · refine ⟨?_, ?_, ?_, ?_, ?_, ?_, ?_, ?_, ?_, trivial⟩
            · exact fun _ _ _ _ _ _ h => h
            · exact fun _ _ _ _ _ _ h => h
            · exact fun _ _ _ _ _ _ h => h
            · exact fun _ _ _ _ _ _ h => h
            · exact fun _ _ _ _ _ _ h => h
            · exact fun _ _ _ _ _ _ h => h
            · exact fun _ _ _ _ _ _ h => h
            · exact fun _ _ _ _ _ _ h => h
            · exact fun _ _ _ _ _ h ⟨qp, hv, hq, hb⟩ => ⟨qp, hv, hq, hb.keep h⟩
          · intro vals w7 G hg hS hG
            have s7 : vals 7 = .agg #[.int .u64 (P.wrd (P.ofL ms &&& (I &&& P.full (n : Int))) 0), .int .u64 (P.wrd (P.ofL ms &&& (I &&& P.full (n : Int))) 1), .int .u64 (P.wrd (P.ofL ms &&& (I &&& P.full (n : Int))) 2), .int .u64 (P.wrd (P.ofL ms &&& (I &&& P.full (n : Int))) 3)] := hS.2.2.2.2.2.2.2.1
            obtain ⟨ql, s8, hql, hbl⟩ : ∃ qp, vals 8 = .pointer (some ⟨qp, 0, none⟩) ∧ wr.heap.size ≤ qp ∧ Box w7 qp 28 #[.int .u64 0, .int .u64 0, .int .u64 0, .int .u64 0] := hS.2.2.2.2.2.2.2.2.1
            clear hS
            have hb := below_of_grown hg
            have HQL := Lib.hid hql
            replace BQg := Lib.hid (BQg.out.keep (grown_of_below hb none))
            replace BQi := Lib.hid (BQi.out.keep (grown_of_below hb none))
            replace BQt := Lib.hid (BQt.out.keep (grown_of_below hb none))
            replace BQ1 := Lib.hid (BQ1.out.keep (grown_of_below hb none))
            replace BQx := Lib.hid (BQx.out.keep (grown_of_below hb none))
            replace W := Lib.hid (W.out.trans (hb.mono W.out.size))
            replace WB := Lib.hid (WB.out.trans (hb.mono WB.out.size))
            have hco := (hb.cell (p := ⟨ba, oa + j, none⟩) (cell_lt co)).trans co
            clear hb co
            have lc0 : w7.cell? ⟨ql, 0, none⟩ = some (.int .u64 0) := hbl.cell 0 _ rfl
            have lc1 : w7.cell? ⟨ql, 1, none⟩ = some (.int .u64 0) := hbl.cell 1 _ rfl
            have lc2 : w7.cell? ⟨ql, 2, none⟩ = some (.int .u64 0) := hbl.cell 2 _ rfl
            have lc3 : w7.cell? ⟨ql, 3, none⟩ = some (.int .u64 0) := hbl.cell 3 _ rfl
            have lf0 : w7.frozen? ⟨ql, 0, none⟩ = false := hbl.frozen 0
            have lf1 : w7.frozen? ⟨ql, 1, none⟩ = false := hbl.frozen 1
            have lf2 : w7.frozen? ⟨ql, 2, none⟩ = false := hbl.frozen 2
            have lf3 : w7.frozen? ⟨ql, 3, none⟩ = false := hbl.frozen 3
            have BQl := Lib.hid (show Box ((((w7.setCell ⟨ql, 0, none⟩ (.int .u64 (P.wrd (P.ofL ms &&& (I &&& P.full (n : Int))) 0))).setCell ⟨ql, 1, none⟩ (.int .u64 (P.wrd (P.ofL ms &&& (I &&& P.full (n : Int))) 1))).setCell ⟨ql, 2, none⟩ (.int .u64 (P.wrd (P.ofL ms &&& (I &&& P.full (n : Int))) 2))).setCell ⟨ql, 3, none⟩ (.int .u64 (P.wrd (P.ofL ms &&& (I &&& P.full (n : Int))) 3))) ql 28 #[.int .u64 (P.wrd (P.ofL ms &&& (I &&& P.full (n : Int))) 0), .int .u64 (P.wrd (P.ofL ms &&& (I &&& P.full (n : Int))) 1), .int .u64 (P.wrd (P.ofL ms &&& (I &&& P.full (n : Int))) 2), .int .u64 (P.wrd (P.ofL ms &&& (I &&& P.full (n : Int))) 3)] from Blk.store (Blk.zero hbl) (P.ofL ms &&& (I &&& P.full (n : Int))))
            have hne : ∀ q, q < wr.heap.size → q ≠ ql := fun q hq e => by omega
            have BQg := Lib.hid (far4 (.int .u64 (P.wrd (P.ofL ms &&& (I &&& P.full (n : Int))) 0)) (.int .u64 (P.wrd (P.ofL ms &&& (I &&& P.full (n : Int))) 1)) (.int .u64 (P.wrd (P.ofL ms &&& (I &&& P.full (n : Int))) 2)) (.int .u64 (P.wrd (P.ofL ms &&& (I &&& P.full (n : Int))) 3)) BQg.out (hne _ Lg.out))
            have BQi := Lib.hid (far4 (.int .u64 (P.wrd (P.ofL ms &&& (I &&& P.full (n : Int))) 0)) (.int .u64 (P.wrd (P.ofL ms &&& (I &&& P.full (n : Int))) 1)) (.int .u64 (P.wrd (P.ofL ms &&& (I &&& P.full (n : Int))) 2)) (.int .u64 (P.wrd (P.ofL ms &&& (I &&& P.full (n : Int))) 3)) BQi.out (hne _ Li.out))
            have BQt := Lib.hid (far4 (.int .u64 (P.wrd (P.ofL ms &&& (I &&& P.full (n : Int))) 0)) (.int .u64 (P.wrd (P.ofL ms &&& (I &&& P.full (n : Int))) 1)) (.int .u64 (P.wrd (P.ofL ms &&& (I &&& P.full (n : Int))) 2)) (.int .u64 (P.wrd (P.ofL ms &&& (I &&& P.full (n : Int))) 3)) BQt.out (hne _ Lt.out))
            have BQ1 := Lib.hid (far4 (.int .u64 (P.wrd (P.ofL ms &&& (I &&& P.full (n : Int))) 0)) (.int .u64 (P.wrd (P.ofL ms &&& (I &&& P.full (n : Int))) 1)) (.int .u64 (P.wrd (P.ofL ms &&& (I &&& P.full (n : Int))) 2)) (.int .u64 (P.wrd (P.ofL ms &&& (I &&& P.full (n : Int))) 3)) BQ1.out (hne _ L1.out))
            have BQx := Lib.hid (far4 (.int .u64 (P.wrd (P.ofL ms &&& (I &&& P.full (n : Int))) 0)) (.int .u64 (P.wrd (P.ofL ms &&& (I &&& P.full (n : Int))) 1)) (.int .u64 (P.wrd (P.ofL ms &&& (I &&& P.full (n : Int))) 2)) (.int .u64 (P.wrd (P.ofL ms &&& (I &&& P.full (n : Int))) 3)) BQx.out (hne _ Lx.out))
            replace W := Lib.hid (W.out.trans (below4 (w := w7) (q := ql) (.int .u64 (P.wrd (P.ofL ms &&& (I &&& P.full (n : Int))) 0)) (.int .u64 (P.wrd (P.ofL ms &&& (I &&& P.full (n : Int))) 1)) (.int .u64 (P.wrd (P.ofL ms &&& (I &&& P.full (n : Int))) 2)) (.int .u64 (P.wrd (P.ofL ms &&& (I &&& P.full (n : Int))) 3)) (Nat.le_trans LW.out hql)))
            replace WB := Lib.hid (WB.out.trans (below4 (w := w7) (q := ql) (.int .u64 (P.wrd (P.ofL ms &&& (I &&& P.full (n : Int))) 0)) (.int .u64 (P.wrd (P.ofL ms &&& (I &&& P.full (n : Int))) 1)) (.int .u64 (P.wrd (P.ofL ms &&& (I &&& P.full (n : Int))) 2)) (.int .u64 (P.wrd (P.ofL ms &&& (I &&& P.full (n : Int))) 3)) (Nat.le_trans LWB.out hql)))
            have co := (((below4 (w := w7) (B := wr.heap.size) (q := ql) (.int .u64 (P.wrd (P.ofL ms &&& (I &&& P.full (n : Int))) 0)) (.int .u64 (P.wrd (P.ofL ms &&& (I &&& P.full (n : Int))) 1)) (.int .u64 (P.wrd (P.ofL ms &&& (I &&& P.full (n : Int))) 2)) (.int .u64 (P.wrd (P.ofL ms &&& (I &&& P.full (n : Int))) 3)) hql).cell (p := ⟨ba, oa + j, none⟩) LCO.out)).trans hco
            clear hbl hg hql hne hco
            refine hG ?_
            clear hG
            simp [List.dropLast, Rg.putAll, Oper.wp, execOp, go_sem, s7, s8, lc0, lc1, lc2, lc3, lf0, lf1, lf2, lf3]
            clear s7 s8 lc0 lc1 lc2 lc3 lf0 lf1 lf2 lf3
            generalize ((((w7.setCell ⟨ql, 0, none⟩ (.int .u64 (P.wrd (P.ofL ms &&& (I &&& P.full (n : Int))) 0))).setCell ⟨ql, 1, none⟩ (.int .u64 (P.wrd (P.ofL ms &&& (I &&& P.full (n : Int))) 1))).setCell ⟨ql, 2, none⟩ (.int .u64 (P.wrd (P.ofL ms &&& (I &&& P.full (n : Int))) 2))).setCell ⟨ql, 3, none⟩ (.int .u64 (P.wrd (P.ofL ms &&& (I &&& P.full (n : Int))) 3))) = w8 at BQg BQi BQt BQ1 BQx BQl W WB co ⊢
            have hbb := BQg.out
            have gc0 : w8.cell? ⟨qg, 0, none⟩ = some (.slice (some ⟨ba, oa, none⟩) n ka) := hbb.cell 0 _ rfl
            have gc1 : w8.cell? ⟨qg, 1, none⟩ = some (.slice (some ⟨bb, ob, none⟩) n kb) := hbb.cell 1 _ rfl
            have gc2 : w8.cell? ⟨qg, 2, none⟩ = some (.slice (some ⟨bc, oc, none⟩) n kc) := hbb.cell 2 _ rfl
            clear hbb
            have hbb := BQl.out
            have lc0 : w8.cell? ⟨ql, 0, none⟩ = some (.int .u64 (P.wrd (P.ofL ms &&& (I &&& P.full (n : Int))) 0)) := hbb.cell 0 _ rfl
            have lc1 : w8.cell? ⟨ql, 1, none⟩ = some (.int .u64 (P.wrd (P.ofL ms &&& (I &&& P.full (n : Int))) 1)) := hbb.cell 1 _ rfl
            have lc2 : w8.cell? ⟨ql, 2, none⟩ = some (.int .u64 (P.wrd (P.ofL ms &&& (I &&& P.full (n : Int))) 2)) := hbb.cell 2 _ rfl
            have lc3 : w8.cell? ⟨ql, 3, none⟩ = some (.int .u64 (P.wrd (P.ofL ms &&& (I &&& P.full (n : Int))) 3)) := hbb.cell 3 _ rfl
            clear hbb
            have hbb := BQ1.out
            have yc0 : w8.cell? ⟨q1, 0, none⟩ = some (.int .u64 (P.wrd s1 0)) := hbb.cell 0 _ rfl
            have yc1 : w8.cell? ⟨q1, 1, none⟩ = some (.int .u64 (P.wrd s1 1)) := hbb.cell 1 _ rfl
            have yc2 : w8.cell? ⟨q1, 2, none⟩ = some (.int .u64 (P.wrd s1 2)) := hbb.cell 2 _ rfl
            have yc3 : w8.cell? ⟨q1, 3, none⟩ = some (.int .u64 (P.wrd s1 3)) := hbb.cell 3 _ rfl
            clear hbb
            have hbb := BQx.out
            have xc0 : w8.cell? ⟨qx, 0, none⟩ = some (.int .u64 (P.wrd ((I &&& P.full (n : Int)) &&& ~~~s1) 0)) := hbb.cell 0 _ rfl
            have xc1 : w8.cell? ⟨qx, 1, none⟩ = some (.int .u64 (P.wrd ((I &&& P.full (n : Int)) &&& ~~~s1) 1)) := hbb.cell 1 _ rfl
            have xc2 : w8.cell? ⟨qx, 2, none⟩ = some (.int .u64 (P.wrd ((I &&& P.full (n : Int)) &&& ~~~s1) 2)) := hbb.cell 2 _ rfl
            have xc3 : w8.cell? ⟨qx, 3, none⟩ = some (.int .u64 (P.wrd ((I &&& P.full (n : Int)) &&& ~~~s1) 3)) := hbb.cell 3 _ rfl
            clear hbb
            have howner := (HR.out.at j (by rw [HN.out]; exact hlt)).1
            by_cases hzo : g.owner.getD j 0 = 0
            · have hz := P.attOf_mine HR.out (I := (I &&& P.full (n : Int))) (To := To) (p := 0) (i := j) (by omega) (by rw [HN.out]; exact hlt) HIB.out (by rw [HS1.out]; exact HSB.out) hzo
              rw [HMS.out, HS1.out] at hz
              have HZ := Lib.hid hz
              have eqa := fun w => set_neq (P.ofL ms &&& (I &&& P.full (n : Int)) &&& s1) 0#256 w
              rw [decide_eq_true hz, zero_set] at eqa
              have hzo' := hzo
              rw [hzo] at co
              clear hzo hzo' hz howner
              go_wp2_with fail
              refine (and_any (P.ofL ms &&& (I &&& P.full (n : Int))) s1 _).mono ?_
              rintro e w9 ⟨rfl, hb⟩
              replace BQg := Lib.hid (BQg.out.keep (grown_of_below hb none))
              replace BQi := Lib.hid (BQi.out.keep (grown_of_below hb none))
              replace BQt := Lib.hid (BQt.out.keep (grown_of_below hb none))
              replace BQ1 := Lib.hid (BQ1.out.keep (grown_of_below hb none))
              replace BQx := Lib.hid (BQx.out.keep (grown_of_below hb none))
              replace BQl := Lib.hid (BQl.out.keep (grown_of_below hb none))
              replace W := Lib.hid (W.out.trans (hb.mono W.out.size))
              replace WB := Lib.hid (WB.out.trans (hb.mono WB.out.size))
              have hco := co
              clear co
              have co := (hb.cell (p := ⟨ba, oa + j, none⟩) (cell_lt hco)).trans hco
              clear hb hco lc0 lc1 lc2 lc3 gc0 gc1 gc2 yc0 yc1 yc2 yc3
              have hbb := BQg.out
              have gc0 : w9.cell? ⟨qg, 0, none⟩ = some (.slice (some ⟨ba, oa, none⟩) n ka) := hbb.cell 0 _ rfl
              have gc1 : w9.cell? ⟨qg, 1, none⟩ = some (.slice (some ⟨bb, ob, none⟩) n kb) := hbb.cell 1 _ rfl
              have gc2 : w9.cell? ⟨qg, 2, none⟩ = some (.slice (some ⟨bc, oc, none⟩) n kc) := hbb.cell 2 _ rfl
              clear hbb
              go_wp2_with fail
              go_roundw
              case rel => exact ⟨j + 1, by omega, by go_num, WB.out⟩
              case measure => simp [intOf]; omega
            · have hz4 : g.owner.getD j 0 = 1 := by omega
              rw [hz4] at co
              by_cases hl0 : (P.ofL ms &&& (I &&& P.full (n : Int))) = 0#256
              · have eqa := fun w => set_neq (P.ofL ms &&& (I &&& P.full (n : Int))) 0#256 w
                rw [decide_eq_true hl0, zero_set] at eqa
                clear hl0 hz4 hzo howner
                go_wp2_with fail
                go_roundw
                case rel => exact ⟨j + 1, by omega, by go_num, WB.out⟩
                case measure => simp [intOf]; omega
              · have hz := P.attOf_his HR.out (I := (I &&& P.full (n : Int))) (To := To) (p := 0) (i := j) (by omega) (by rw [HN.out]; exact hlt) HIB.out (by rw [HS1.out]; exact HSB.out) hzo (by rw [HMS.out]; exact hl0)
                rw [HMS.out, HS1.out] at hz
                have eqa := fun w => set_neq (P.ofL ms &&& (I &&& P.full (n : Int))) 0#256 w
                rw [decide_eq_false hl0, zero_set] at eqa
                have eqb := fun w => set_eq ((P.ofL ms &&& (I &&& P.full (n : Int))) &&& ((I &&& P.full (n : Int)) &&& ~~~s1)) 0#256 w
                rw [decide_eq_false hz, zero_set] at eqb
                clear hl0 hz hz4 hzo howner
                go_wp2_with fail
                refine (and_any (P.ofL ms &&& (I &&& P.full (n : Int))) ((I &&& P.full (n : Int)) &&& ~~~s1) _).mono ?_
                rintro e w9 ⟨rfl, hb⟩
                replace W := Lib.hid (W.out.trans (hb.mono W.out.size))
                replace WB := Lib.hid (WB.out.trans (hb.mono WB.out.size))
                clear hb
                go_wp2_with fail
                go_roundw
                case rel => exact ⟨j + 1, by omega, by go_num, WB.out⟩
                case measure => simp [intOf]; omega
      · have fj : decide ((j : Int) < (n : Int)) = false := decide_eq_false (by omega)
        go_wp2_with fail
        exact bodyPost_ret (v := .bool true) (by simp [results, Tryd.results4, go_sem]) rfl ⟨rfl, W.out⟩

set_option maxRecDepth 100000 in
set_option maxHeartbeats 4000000 in
theorem traps_1 (g : P.G) (I To : BitVec 256) (v : Value) (w : World) (hv : GameV w v g) (hT : Tab w) (hok : g.ok = true) : Calls Tryd.prog 4 #[v, .agg #[.int .u64 (P.wrd I 0), .int .u64 (P.wrd I 1), .int .u64 (P.wrd I 2), .int .u64 (P.wrd I 3)], .int .i64 1, .agg #[.int .u64 (P.wrd To 0), .int .u64 (P.wrd To 1), .int .u64 (P.wrd To 2), .int .u64 (P.wrd To 3)]] w fun e w' => e = .returned (.bool true) ∧ Below w.heap.size w w' := by
  have hq0 : g.right.2 = 0 := by unfold P.G.ok at hok; exact beq_iff_eq.1 hok
  have hr := (P.G.ok_iff g).1 hok
  have HV := Lib.hid hv
  have hop := hr.prio
  have hmp := hr.moves
  have hmany := hr.many
  have h0 := hr.pos
  obtain ⟨n, hn⟩ : ∃ n, g.owner.length = n := ⟨_, rfl⟩
  rw [hn] at hop hmp hmany h0
  obtain ⟨ba, oa, ka, bb, ob, kb, bc, oc, kc, rfl, hca, -, hcc⟩ := hv.open_ hn hop hmp h0
  have HCA := Lib.hid hca
  have HCC := Lib.hid hcc
  have HR := Lib.hid hr
  have HN := Lib.hid hn
  clear hca hcc hr hn hop hmp hv
  clear hok
  have T := Lib.hid hT
  clear hT
  go_enter Tryd.func4, Tryd.ntmps4
  go_wp2_with fail
  have bx0 : Box (((w.alloc (.cells #[.slice (some ⟨ba, oa, none⟩) n ka, .slice (some ⟨bb, ob, none⟩) n kb, .slice (some ⟨bc, oc, none⟩) n kc] 25)).alloc (.cells #[.int .u64 (P.wrd I 0), .int .u64 (P.wrd I 1), .int .u64 (P.wrd I 2), .int .u64 (P.wrd I 3)] 28)).alloc (.cells #[.int .u64 (P.wrd To 0), .int .u64 (P.wrd To 1), .int .u64 (P.wrd To 2), .int .u64 (P.wrd To 3)] 28)) (w.heap.size) 25 #[.slice (some ⟨ba, oa, none⟩) n ka, .slice (some ⟨bb, ob, none⟩) n kb, .slice (some ⟨bc, oc, none⟩) n kc] := Box.alloc (Box.alloc (Box.new w 25 #[.slice (some ⟨ba, oa, none⟩) n ka, .slice (some ⟨bb, ob, none⟩) n kb, .slice (some ⟨bc, oc, none⟩) n kc]) (.cells #[.int .u64 (P.wrd I 0), .int .u64 (P.wrd I 1), .int .u64 (P.wrd I 2), .int .u64 (P.wrd I 3)] 28)) (.cells #[.int .u64 (P.wrd To 0), .int .u64 (P.wrd To 1), .int .u64 (P.wrd To 2), .int .u64 (P.wrd To 3)] 28)
  have bx1 : Box (((w.alloc (.cells #[.slice (some ⟨ba, oa, none⟩) n ka, .slice (some ⟨bb, ob, none⟩) n kb, .slice (some ⟨bc, oc, none⟩) n kc] 25)).alloc (.cells #[.int .u64 (P.wrd I 0), .int .u64 (P.wrd I 1), .int .u64 (P.wrd I 2), .int .u64 (P.wrd I 3)] 28)).alloc (.cells #[.int .u64 (P.wrd To 0), .int .u64 (P.wrd To 1), .int .u64 (P.wrd To 2), .int .u64 (P.wrd To 3)] 28)) (w.heap.size + 1) 28 #[.int .u64 (P.wrd I 0), .int .u64 (P.wrd I 1), .int .u64 (P.wrd I 2), .int .u64 (P.wrd I 3)] := by
    have := Box.alloc (Box.new (w.alloc (.cells #[.slice (some ⟨ba, oa, none⟩) n ka, .slice (some ⟨bb, ob, none⟩) n kb, .slice (some ⟨bc, oc, none⟩) n kc] 25)) 28 #[.int .u64 (P.wrd I 0), .int .u64 (P.wrd I 1), .int .u64 (P.wrd I 2), .int .u64 (P.wrd I 3)]) (.cells #[.int .u64 (P.wrd To 0), .int .u64 (P.wrd To 1), .int .u64 (P.wrd To 2), .int .u64 (P.wrd To 3)] 28)
    simpa using this
  have bx2 : Box (((w.alloc (.cells #[.slice (some ⟨ba, oa, none⟩) n ka, .slice (some ⟨bb, ob, none⟩) n kb, .slice (some ⟨bc, oc, none⟩) n kc] 25)).alloc (.cells #[.int .u64 (P.wrd I 0), .int .u64 (P.wrd I 1), .int .u64 (P.wrd I 2), .int .u64 (P.wrd I 3)] 28)).alloc (.cells #[.int .u64 (P.wrd To 0), .int .u64 (P.wrd To 1), .int .u64 (P.wrd To 2), .int .u64 (P.wrd To 3)] 28)) (w.heap.size + 1 + 1) 28 #[.int .u64 (P.wrd To 0), .int .u64 (P.wrd To 1), .int .u64 (P.wrd To 2), .int .u64 (P.wrd To 3)] := by
    have := Box.new ((w.alloc (.cells #[.slice (some ⟨ba, oa, none⟩) n ka, .slice (some ⟨bb, ob, none⟩) n kb, .slice (some ⟨bc, oc, none⟩) n kc] 25)).alloc (.cells #[.int .u64 (P.wrd I 0), .int .u64 (P.wrd I 1), .int .u64 (P.wrd I 2), .int .u64 (P.wrd I 3)] 28)) 28 #[.int .u64 (P.wrd To 0), .int .u64 (P.wrd To 1), .int .u64 (P.wrd To 2), .int .u64 (P.wrd To 3)]
    simpa using this
  have hbq : Below w.heap.size w (((w.alloc (.cells #[.slice (some ⟨ba, oa, none⟩) n ka, .slice (some ⟨bb, ob, none⟩) n kb, .slice (some ⟨bc, oc, none⟩) n kc] 25)).alloc (.cells #[.int .u64 (P.wrd I 0), .int .u64 (P.wrd I 1), .int .u64 (P.wrd I 2), .int .u64 (P.wrd I 3)] 28)).alloc (.cells #[.int .u64 (P.wrd To 0), .int .u64 (P.wrd To 1), .int .u64 (P.wrd To 2), .int .u64 (P.wrd To 3)] 28)) := (((Below.refl _ w).alloc (Nat.le_refl _) _).alloc (by simp) _).alloc (by simp; omega) _
  have lt0 : w.heap.size < w.heap.size + 1 := Nat.lt_succ_self _
  have lt1 : w.heap.size + 1 < w.heap.size + 1 + 1 := Nat.lt_succ_self _
  have hle0 : w.heap.size ≤ w.heap.size := Nat.le_refl _
  generalize (((w.alloc (.cells #[.slice (some ⟨ba, oa, none⟩) n ka, .slice (some ⟨bb, ob, none⟩) n kb, .slice (some ⟨bc, oc, none⟩) n kc] 25)).alloc (.cells #[.int .u64 (P.wrd I 0), .int .u64 (P.wrd I 1), .int .u64 (P.wrd I 2), .int .u64 (P.wrd I 3)] 28)).alloc (.cells #[.int .u64 (P.wrd To 0), .int .u64 (P.wrd To 1), .int .u64 (P.wrd To 2), .int .u64 (P.wrd To 3)] 28)) = w0 at bx0 bx1 bx2 hbq  ⊢
  have BQg := Lib.hid bx0
  have BQi := Lib.hid bx1
  have BQt := Lib.hid bx2
  have W := Lib.hid hbq
  have LTgi := Lib.hid lt0
  have LTit := Lib.hid lt1
  have LEg := Lib.hid hle0
  clear hbq hle0 bx0 bx1 bx2 lt0 lt1
  generalize w.heap.size + 1 + 1 = qt at BQt LTit ⊢
  generalize w.heap.size + 1 = qi at BQi LTit LTgi ⊢
  obtain ⟨qg, hqg⟩ : ∃ qg, w.heap.size = qg := ⟨_, rfl⟩
  rw [hqg] at BQg LTgi ⊢
  have LEg : Hid (w.heap.size ≤ qg) := Lib.hid (by omega)
  clear hqg
  refine (shown_any _ (T.out.on W.out)).mono ?_
  rintro e w1 ⟨rfl, hb⟩
  replace BQg := Lib.hid (BQg.out.keep (grown_of_below hb none))
  replace BQi := Lib.hid (BQi.out.keep (grown_of_below hb none))
  replace BQt := Lib.hid (BQt.out.keep (grown_of_below hb none))
  replace W := Lib.hid (W.out.trans (hb.mono W.out.size))
  clear hb
  have hbb := BQg.out
  have gc0 : w1.cell? ⟨qg, 0, none⟩ = some (.slice (some ⟨ba, oa, none⟩) n ka) := hbb.cell 0 _ rfl
  have gc1 : w1.cell? ⟨qg, 1, none⟩ = some (.slice (some ⟨bb, ob, none⟩) n kb) := hbb.cell 1 _ rfl
  have gc2 : w1.cell? ⟨qg, 2, none⟩ = some (.slice (some ⟨bc, oc, none⟩) n kc) := hbb.cell 2 _ rfl
  clear hbb
  go_wp2_with fail
  refine (right_any g _ _ (HV.out.on W.out)).mono ?_
  rintro e w2 ⟨rfl, hb⟩
  replace BQg := Lib.hid (BQg.out.keep (grown_of_below hb none))
  replace BQi := Lib.hid (BQi.out.keep (grown_of_below hb none))
  replace BQt := Lib.hid (BQt.out.keep (grown_of_below hb none))
  replace W := Lib.hid (W.out.trans (hb.mono W.out.size))
  clear hb gc0 gc1 gc2
  obtain ⟨z, hz⟩ : ∃ z, g.right.2 = z := ⟨_, rfl⟩
  rw [hz] at hq0 ⊢
  have fq : (((z : Nat) : Int) != 0) = false := by rw [bne_eq_false_iff_eq]; omega
  clear hz hq0
  have hbb := BQg.out
  have gc0 : w2.cell? ⟨qg, 0, none⟩ = some (.slice (some ⟨ba, oa, none⟩) n ka) := hbb.cell 0 _ rfl
  have gc1 : w2.cell? ⟨qg, 1, none⟩ = some (.slice (some ⟨bb, ob, none⟩) n kb) := hbb.cell 1 _ rfl
  have gc2 : w2.cell? ⟨qg, 2, none⟩ = some (.slice (some ⟨bc, oc, none⟩) n kc) := hbb.cell 2 _ rfl
  clear hbb
  go_upto_region 6 with (fail)
  clear gc0 gc1 gc2
  refine Rg.wp_region_lit (fun idx => match idx with | 0 => (fun v _ _ => v = .agg #[.int .u64 (P.wrd I 0), .int .u64 (P.wrd I 1), .int .u64 (P.wrd I 2), .int .u64 (P.wrd I 3)]) | 1 => (fun v _ _ => v = (.int .i64 (n : Int))) | 2 => (fun v _ _ => v = .agg #[.int .u64 (P.wrd (P.full (n : Int)) 0), .int .u64 (P.wrd (P.full (n : Int)) 1), .int .u64 (P.wrd (P.full (n : Int)) 2), .int .u64 (P.wrd (P.full (n : Int)) 3)]) | 3 => (fun v _ _ => v = .agg #[.int .u64 (P.wrd (I &&& P.full (n : Int)) 0), .int .u64 (P.wrd (I &&& P.full (n : Int)) 1), .int .u64 (P.wrd (I &&& P.full (n : Int)) 2), .int .u64 (P.wrd (I &&& P.full (n : Int)) 3)]) | _ => fun _ _ _ => True) (none) 99 (by kernel_rfl) (by rfl) (by kernel_rfl) (by rfl) ?_ ?_ ?_
  · refine ⟨?_, ?_, ?_, ?_, trivial⟩
    · intro A w' K vals h hn hg hK
      have r0 : A.tmps[5]?.getD undef = .pointer (some ⟨qi, 0, none⟩) := Rg.slot h.1
      have bs := BQi.out.keep hg
      have cc0 : w'.cell? ⟨qi, 0, none⟩ = some (.int .u64 (P.wrd I 0)) := bs.cell 0 _ rfl
      have cc1 : w'.cell? ⟨qi, 1, none⟩ = some (.int .u64 (P.wrd I 1)) := bs.cell 1 _ rfl
      have cc2 : w'.cell? ⟨qi, 2, none⟩ = some (.int .u64 (P.wrd I 2)) := bs.cell 2 _ rfl
      have cc3 : w'.cell? ⟨qi, 3, none⟩ = some (.int .u64 (P.wrd I 3)) := bs.cell 3 _ rfl
      clear h hn hg bs
      simp [Oper.wp, execOp, go_sem, r0, cc0, cc1, cc2, cc3]
      exact hK _ _ (Rg.grown_refl _ _) rfl
    · intro A w' K vals h hn hg hK
      have r0 : A.tmps[12]?.getD undef = .int .i64 (n : Int) := Rg.slot (h.1)
      clear h hn hg
      simp [Oper.wp, execOp, go_sem, r0]
      exact hK _ _ (Rg.grown_refl _ _) rfl
    · intro A w' K vals h hn hg hK
      have r0 : A.tmps[43]?.getD undef = vals 1 := Rg.slot h.2.1
      have s0 : vals 1 = (.int .i64 (n : Int)) := hn.1
      clear h hn
      simp [Oper.wp, go_sem, r0, s0]
      refine (full_any (n : Int) w').mono ?_
      rintro e w'' ⟨rfl, hb⟩
      exact hK _ _ (grown_of_below hb _) rfl
    · intro A w' K vals h hn hg hK
      have r0 : A.tmps[42]?.getD undef = vals 0 := Rg.slot h.2.1
      have s0 : vals 0 = .agg #[.int .u64 (P.wrd I 0), .int .u64 (P.wrd I 1), .int .u64 (P.wrd I 2), .int .u64 (P.wrd I 3)] := hn.1
      have r1 : A.tmps[44]?.getD undef = vals 2 := Rg.slot h.2.2.1
      have s1 : vals 2 = .agg #[.int .u64 (P.wrd (P.full (n : Int)) 0), .int .u64 (P.wrd (P.full (n : Int)) 1), .int .u64 (P.wrd (P.full (n : Int)) 2), .int .u64 (P.wrd (P.full (n : Int)) 3)] := hn.2.1
      clear h hn
      simp [Oper.wp, go_sem, r0, s0, r1, s1]
      refine (and_any I (P.full (n : Int)) w').mono ?_
      rintro e w'' ⟨rfl, hb⟩
      exact hK _ _ (grown_of_below hb _) rfl
  · refine ⟨?_, ?_, ?_, ?_, trivial⟩
    · exact fun _ _ _ _ _ _ h => h
    · exact fun _ _ _ _ _ _ h => h
    · exact fun _ _ _ _ _ _ h => h
    · exact fun _ _ _ _ _ _ h => h
  · intro vals w3 G hg hS hG
    have s3 : vals 3 = .agg #[.int .u64 (P.wrd (I &&& P.full (n : Int)) 0), .int .u64 (P.wrd (I &&& P.full (n : Int)) 1), .int .u64 (P.wrd (I &&& P.full (n : Int)) 2), .int .u64 (P.wrd (I &&& P.full (n : Int)) 3)] := hS.2.2.2.1
    clear hS
    have hb := below_of_grown hg
    replace BQg := Lib.hid (BQg.out.keep (grown_of_below hb none))
    replace BQi := Lib.hid (BQi.out.keep (grown_of_below hb none))
    replace BQt := Lib.hid (BQt.out.keep (grown_of_below hb none))
    replace W := Lib.hid (W.out.trans (hb.mono W.out.size))
    clear hb hg
    have hbb := BQi.out
    have ic0 : w3.cell? ⟨qi, 0, none⟩ = some (.int .u64 (P.wrd I 0)) := hbb.cell 0 _ rfl
    have ic1 : w3.cell? ⟨qi, 1, none⟩ = some (.int .u64 (P.wrd I 1)) := hbb.cell 1 _ rfl
    have ic2 : w3.cell? ⟨qi, 2, none⟩ = some (.int .u64 (P.wrd I 2)) := hbb.cell 2 _ rfl
    have ic3 : w3.cell? ⟨qi, 3, none⟩ = some (.int .u64 (P.wrd I 3)) := hbb.cell 3 _ rfl
    have if0 : w3.frozen? ⟨qi, 0, none⟩ = false := hbb.frozen 0
    have if1 : w3.frozen? ⟨qi, 1, none⟩ = false := hbb.frozen 1
    have if2 : w3.frozen? ⟨qi, 2, none⟩ = false := hbb.frozen 2
    have if3 : w3.frozen? ⟨qi, 3, none⟩ = false := hbb.frozen 3
    clear hbb
    refine hG ?_
    clear hG
    simp [List.dropLast, Rg.putAll, Oper.wp, execOp, go_sem, s3, ic0, ic1, ic2, ic3, if0, if1, if2, if3]
    clear s3 ic0 ic1 ic2 ic3 if0 if1 if2 if3
    have BQi := Lib.hid (show Box ((((w3.setCell ⟨qi, 0, none⟩ (.int .u64 (P.wrd (I &&& P.full (n : Int)) 0))).setCell ⟨qi, 1, none⟩ (.int .u64 (P.wrd (I &&& P.full (n : Int)) 1))).setCell ⟨qi, 2, none⟩ (.int .u64 (P.wrd (I &&& P.full (n : Int)) 2))).setCell ⟨qi, 3, none⟩ (.int .u64 (P.wrd (I &&& P.full (n : Int)) 3))) qi 28 #[.int .u64 (P.wrd (I &&& P.full (n : Int)) 0), .int .u64 (P.wrd (I &&& P.full (n : Int)) 1), .int .u64 (P.wrd (I &&& P.full (n : Int)) 2), .int .u64 (P.wrd (I &&& P.full (n : Int)) 3)] from Blk.store (show Blk w3 qi I 28 from BQi.out) (I &&& P.full (n : Int)))
    have BQg := Lib.hid (far4 (.int .u64 (P.wrd (I &&& P.full (n : Int)) 0)) (.int .u64 (P.wrd (I &&& P.full (n : Int)) 1)) (.int .u64 (P.wrd (I &&& P.full (n : Int)) 2)) (.int .u64 (P.wrd (I &&& P.full (n : Int)) 3)) BQg.out (show qg ≠ qi by have := LTgi.out; omega))
    have BQt := Lib.hid (far4 (.int .u64 (P.wrd (I &&& P.full (n : Int)) 0)) (.int .u64 (P.wrd (I &&& P.full (n : Int)) 1)) (.int .u64 (P.wrd (I &&& P.full (n : Int)) 2)) (.int .u64 (P.wrd (I &&& P.full (n : Int)) 3)) BQt.out (show qt ≠ qi by have := LTit.out; omega))
    replace W := Lib.hid (W.out.trans (below4 (w := w3) (q := qi) (.int .u64 (P.wrd (I &&& P.full (n : Int)) 0)) (.int .u64 (P.wrd (I &&& P.full (n : Int)) 1)) (.int .u64 (P.wrd (I &&& P.full (n : Int)) 2)) (.int .u64 (P.wrd (I &&& P.full (n : Int)) 3)) (by have := LTgi.out; have := LEg.out; omega)))
    generalize ((((w3.setCell ⟨qi, 0, none⟩ (.int .u64 (P.wrd (I &&& P.full (n : Int)) 0))).setCell ⟨qi, 1, none⟩ (.int .u64 (P.wrd (I &&& P.full (n : Int)) 1))).setCell ⟨qi, 2, none⟩ (.int .u64 (P.wrd (I &&& P.full (n : Int)) 2))).setCell ⟨qi, 3, none⟩ (.int .u64 (P.wrd (I &&& P.full (n : Int)) 3))) = w4 at BQg BQi BQt W ⊢
    have hbb := BQg.out
    have gc0 : w4.cell? ⟨qg, 0, none⟩ = some (.slice (some ⟨ba, oa, none⟩) n ka) := hbb.cell 0 _ rfl
    have gc1 : w4.cell? ⟨qg, 1, none⟩ = some (.slice (some ⟨bb, ob, none⟩) n kb) := hbb.cell 1 _ rfl
    have gc2 : w4.cell? ⟨qg, 2, none⟩ = some (.slice (some ⟨bc, oc, none⟩) n kc) := hbb.cell 2 _ rfl
    clear hbb
    have hbb := BQi.out
    have ic0 : w4.cell? ⟨qi, 0, none⟩ = some (.int .u64 (P.wrd (I &&& P.full (n : Int)) 0)) := hbb.cell 0 _ rfl
    have ic1 : w4.cell? ⟨qi, 1, none⟩ = some (.int .u64 (P.wrd (I &&& P.full (n : Int)) 1)) := hbb.cell 1 _ rfl
    have ic2 : w4.cell? ⟨qi, 2, none⟩ = some (.int .u64 (P.wrd (I &&& P.full (n : Int)) 2)) := hbb.cell 2 _ rfl
    have ic3 : w4.cell? ⟨qi, 3, none⟩ = some (.int .u64 (P.wrd (I &&& P.full (n : Int)) 3)) := hbb.cell 3 _ rfl
    clear hbb
    have hbb := BQt.out
    have tc0 : w4.cell? ⟨qt, 0, none⟩ = some (.int .u64 (P.wrd To 0)) := hbb.cell 0 _ rfl
    have tc1 : w4.cell? ⟨qt, 1, none⟩ = some (.int .u64 (P.wrd To 1)) := hbb.cell 1 _ rfl
    have tc2 : w4.cell? ⟨qt, 2, none⟩ = some (.int .u64 (P.wrd To 2)) := hbb.cell 2 _ rfl
    have tc3 : w4.cell? ⟨qt, 3, none⟩ = some (.int .u64 (P.wrd To 3)) := hbb.cell 3 _ rfl
    clear hbb
    go_wp2_with fail
    refine (attract_any g (I &&& P.full (n : Int)) To 1 _ _ (HV.out.on W.out) (T.out.on W.out)).mono ?_
    rintro e u1 ⟨v1, m1, rfl, ho1, hm1, hb⟩
    obtain ⟨vo1, vk1, rfl, -⟩ := own_at ho1
    replace BQg := Lib.hid (BQg.out.keep (grown_of_below hb none))
    replace BQi := Lib.hid (BQi.out.keep (grown_of_below hb none))
    replace BQt := Lib.hid (BQt.out.keep (grown_of_below hb none))
    replace W := Lib.hid (W.out.trans (hb.mono W.out.size))
    obtain ⟨s1, hs1⟩ : ∃ s, P.attOf g (I &&& P.full (n : Int)) 1 To = s := ⟨_, rfl⟩
    rw [hs1]
    have HS1 := Lib.hid hs1
    clear hb hs1 gc0 gc1 gc2 ic0 ic1 ic2 ic3 tc0 tc1 tc2 tc3
    clear ho1 hm1
    go_upto_region 8 with (fail)
    have bq : Box (u1.alloc (.cells #[.int .u64 (P.wrd s1 0), .int .u64 (P.wrd s1 1), .int .u64 (P.wrd s1 2), .int .u64 (P.wrd s1 3)] 28)) u1.heap.size 28 #[.int .u64 (P.wrd s1 0), .int .u64 (P.wrd s1 1), .int .u64 (P.wrd s1 2), .int .u64 (P.wrd s1 3)] := Box.new _ _ _
    have hgq := World.grownBy_alloc u1 (.cells #[.int .u64 (P.wrd s1 0), .int .u64 (P.wrd s1 1), .int .u64 (P.wrd s1 2), .int .u64 (P.wrd s1 3)] 28) none
    replace BQg := Lib.hid (BQg.out.keep hgq)
    replace BQi := Lib.hid (BQi.out.keep hgq)
    replace BQt := Lib.hid (BQt.out.keep hgq)
    replace W := Lib.hid (W.out.trans ((below_of_grown hgq).mono W.out.size))
    generalize (u1.alloc (.cells #[.int .u64 (P.wrd s1 0), .int .u64 (P.wrd s1 1), .int .u64 (P.wrd s1 2), .int .u64 (P.wrd s1 3)] 28)) = x1 at bq BQg BQi BQt W ⊢
    generalize u1.heap.size = q1 at bq ⊢
    have BQ1 := Lib.hid bq
    clear bq hgq
    have h1 : decide (s1 ||| (I &&& P.full (n : Int)) = (I &&& P.full (n : Int))) = true := decide_eq_true (by rw [← HS1.out]; exact P.attOf_within g (I &&& P.full (n : Int)) To 1)
    have h2 : decide (To &&& (I &&& P.full (n : Int)) ||| s1 = s1) = true := decide_eq_true (by
      have h := P.attOf_holds HR.out (p := 1) (by omega) (I &&& P.full (n : Int)) To
      rw [HS1.out, HN.out, BitVec.and_assoc, BitVec.and_self] at h
      exact h)
    have c1 := fun d os => rIn x1 s1 (I &&& P.full (n : Int)) d os
    rw [h1] at c1
    have c2 := fun d os => rAnd x1 To (I &&& P.full (n : Int)) d os
    have c3 := fun d os => rIn x1 (To &&& (I &&& P.full (n : Int))) s1 d os
    rw [h2] at c3
    clear h1 h2
    have ki0 : ∀ (d : Nat) (os : Array Obj), (grow (redrawn x1 d) os).cell? ⟨qi, 0, none⟩ = some (.int .u64 (P.wrd (I &&& P.full (n : Int)) 0)) := fun d os => (BQi.out.keep (grown_of_below (below_regrown x1 d os) none)).cell 0 _ rfl
    have ki1 : ∀ (d : Nat) (os : Array Obj), (grow (redrawn x1 d) os).cell? ⟨qi, 1, none⟩ = some (.int .u64 (P.wrd (I &&& P.full (n : Int)) 1)) := fun d os => (BQi.out.keep (grown_of_below (below_regrown x1 d os) none)).cell 1 _ rfl
    have ki2 : ∀ (d : Nat) (os : Array Obj), (grow (redrawn x1 d) os).cell? ⟨qi, 2, none⟩ = some (.int .u64 (P.wrd (I &&& P.full (n : Int)) 2)) := fun d os => (BQi.out.keep (grown_of_below (below_regrown x1 d os) none)).cell 2 _ rfl
    have ki3 : ∀ (d : Nat) (os : Array Obj), (grow (redrawn x1 d) os).cell? ⟨qi, 3, none⟩ = some (.int .u64 (P.wrd (I &&& P.full (n : Int)) 3)) := fun d os => (BQi.out.keep (grown_of_below (below_regrown x1 d os) none)).cell 3 _ rfl
    have kt0 : ∀ (d : Nat) (os : Array Obj), (grow (redrawn x1 d) os).cell? ⟨qt, 0, none⟩ = some (.int .u64 (P.wrd To 0)) := fun d os => (BQt.out.keep (grown_of_below (below_regrown x1 d os) none)).cell 0 _ rfl
    have kt1 : ∀ (d : Nat) (os : Array Obj), (grow (redrawn x1 d) os).cell? ⟨qt, 1, none⟩ = some (.int .u64 (P.wrd To 1)) := fun d os => (BQt.out.keep (grown_of_below (below_regrown x1 d os) none)).cell 1 _ rfl
    have kt2 : ∀ (d : Nat) (os : Array Obj), (grow (redrawn x1 d) os).cell? ⟨qt, 2, none⟩ = some (.int .u64 (P.wrd To 2)) := fun d os => (BQt.out.keep (grown_of_below (below_regrown x1 d os) none)).cell 2 _ rfl
    have kt3 : ∀ (d : Nat) (os : Array Obj), (grow (redrawn x1 d) os).cell? ⟨qt, 3, none⟩ = some (.int .u64 (P.wrd To 3)) := fun d os => (BQt.out.keep (grown_of_below (below_regrown x1 d os) none)).cell 3 _ rfl
    have ky0 : ∀ (d : Nat) (os : Array Obj), (grow (redrawn x1 d) os).cell? ⟨q1, 0, none⟩ = some (.int .u64 (P.wrd s1 0)) := fun d os => (BQ1.out.keep (grown_of_below (below_regrown x1 d os) none)).cell 0 _ rfl
    have ky1 : ∀ (d : Nat) (os : Array Obj), (grow (redrawn x1 d) os).cell? ⟨q1, 1, none⟩ = some (.int .u64 (P.wrd s1 1)) := fun d os => (BQ1.out.keep (grown_of_below (below_regrown x1 d os) none)).cell 1 _ rfl
    have ky2 : ∀ (d : Nat) (os : Array Obj), (grow (redrawn x1 d) os).cell? ⟨q1, 2, none⟩ = some (.int .u64 (P.wrd s1 2)) := fun d os => (BQ1.out.keep (grown_of_below (below_regrown x1 d os) none)).cell 2 _ rfl
    have ky3 : ∀ (d : Nat) (os : Array Obj), (grow (redrawn x1 d) os).cell? ⟨q1, 3, none⟩ = some (.int .u64 (P.wrd s1 3)) := fun d os => (BQ1.out.keep (grown_of_below (below_regrown x1 d os) none)).cell 3 _ rfl
    refine wp_region_quiet_below (by kernel_rfl) (by kernel_rfl) ?_
    repeat (quiet_step (first | with_reducible exact c1 _ _ | with_reducible exact c2 _ _ | with_reducible exact c3 _ _))
    refine wpQuiet_nil ?_
    intro _ hw'
    obtain ⟨⟨dq, osq⟩, hw''⟩ := hw'
    subst hw''
    clear c1 c2 c3 ki0 ki1 ki2 ki3 kt0 kt1 kt2 kt3 ky0 ky1 ky2 ky3
    have hb := below_regrown x1 dq osq
    replace BQg := Lib.hid (BQg.out.keep (grown_of_below hb none))
    replace BQi := Lib.hid (BQi.out.keep (grown_of_below hb none))
    replace BQt := Lib.hid (BQt.out.keep (grown_of_below hb none))
    replace BQ1 := Lib.hid (BQ1.out.keep (grown_of_below hb none))
    replace W := Lib.hid (W.out.trans (hb.mono W.out.size))
    clear hb
    generalize (grow (redrawn x1 dq) osq) = x2 at BQg BQi BQt BQ1 W ⊢
    have hbb := BQi.out
    have ic0 : x2.cell? ⟨qi, 0, none⟩ = some (.int .u64 (P.wrd (I &&& P.full (n : Int)) 0)) := hbb.cell 0 _ rfl
    have ic1 : x2.cell? ⟨qi, 1, none⟩ = some (.int .u64 (P.wrd (I &&& P.full (n : Int)) 1)) := hbb.cell 1 _ rfl
    have ic2 : x2.cell? ⟨qi, 2, none⟩ = some (.int .u64 (P.wrd (I &&& P.full (n : Int)) 2)) := hbb.cell 2 _ rfl
    have ic3 : x2.cell? ⟨qi, 3, none⟩ = some (.int .u64 (P.wrd (I &&& P.full (n : Int)) 3)) := hbb.cell 3 _ rfl
    clear hbb
    have hbb := BQ1.out
    have yc0 : x2.cell? ⟨q1, 0, none⟩ = some (.int .u64 (P.wrd s1 0)) := hbb.cell 0 _ rfl
    have yc1 : x2.cell? ⟨q1, 1, none⟩ = some (.int .u64 (P.wrd s1 1)) := hbb.cell 1 _ rfl
    have yc2 : x2.cell? ⟨q1, 2, none⟩ = some (.int .u64 (P.wrd s1 2)) := hbb.cell 2 _ rfl
    have yc3 : x2.cell? ⟨q1, 3, none⟩ = some (.int .u64 (P.wrd s1 3)) := hbb.cell 3 _ rfl
    clear hbb
    go_wp2_with fail
    refine (minus_any (I &&& P.full (n : Int)) s1 _).mono ?_
    rintro e x3 ⟨rfl, hb⟩
    replace BQg := Lib.hid (BQg.out.keep (grown_of_below hb none))
    replace BQi := Lib.hid (BQi.out.keep (grown_of_below hb none))
    replace BQt := Lib.hid (BQt.out.keep (grown_of_below hb none))
    replace BQ1 := Lib.hid (BQ1.out.keep (grown_of_below hb none))
    replace W := Lib.hid (W.out.trans (hb.mono W.out.size))
    clear hb ic0 ic1 ic2 ic3 yc0 yc1 yc2 yc3
    go_upto_region 11 with (fail)
    have bq : Box (x3.alloc (.cells #[.int .u64 (P.wrd ((I &&& P.full (n : Int)) &&& ~~~s1) 0), .int .u64 (P.wrd ((I &&& P.full (n : Int)) &&& ~~~s1) 1), .int .u64 (P.wrd ((I &&& P.full (n : Int)) &&& ~~~s1) 2), .int .u64 (P.wrd ((I &&& P.full (n : Int)) &&& ~~~s1) 3)] 28)) x3.heap.size 28 #[.int .u64 (P.wrd ((I &&& P.full (n : Int)) &&& ~~~s1) 0), .int .u64 (P.wrd ((I &&& P.full (n : Int)) &&& ~~~s1) 1), .int .u64 (P.wrd ((I &&& P.full (n : Int)) &&& ~~~s1) 2), .int .u64 (P.wrd ((I &&& P.full (n : Int)) &&& ~~~s1) 3)] := Box.new _ _ _
    have hgq := World.grownBy_alloc x3 (.cells #[.int .u64 (P.wrd ((I &&& P.full (n : Int)) &&& ~~~s1) 0), .int .u64 (P.wrd ((I &&& P.full (n : Int)) &&& ~~~s1) 1), .int .u64 (P.wrd ((I &&& P.full (n : Int)) &&& ~~~s1) 2), .int .u64 (P.wrd ((I &&& P.full (n : Int)) &&& ~~~s1) 3)] 28) none
    replace BQg := Lib.hid (BQg.out.keep hgq)
    replace BQi := Lib.hid (BQi.out.keep hgq)
    replace BQt := Lib.hid (BQt.out.keep hgq)
    replace BQ1 := Lib.hid (BQ1.out.keep hgq)
    replace W := Lib.hid (W.out.trans ((below_of_grown hgq).mono W.out.size))
    generalize (x3.alloc (.cells #[.int .u64 (P.wrd ((I &&& P.full (n : Int)) &&& ~~~s1) 0), .int .u64 (P.wrd ((I &&& P.full (n : Int)) &&& ~~~s1) 1), .int .u64 (P.wrd ((I &&& P.full (n : Int)) &&& ~~~s1) 2), .int .u64 (P.wrd ((I &&& P.full (n : Int)) &&& ~~~s1) 3)] 28)) = x4 at bq BQg BQi BQt BQ1 W ⊢
    generalize x3.heap.size = qx at bq ⊢
    have BQx := Lib.hid bq
    clear bq hgq
    go_wp2_with fail
    have Lg := Lib.hid BQg.out.lt
    have Li := Lib.hid BQi.out.lt
    have Lt := Lib.hid BQt.out.lt
    have L1 := Lib.hid BQ1.out.lt
    have Lx := Lib.hid BQx.out.lt
    have HBG := BQg
    have HBI := BQi
    have HBT := BQt
    have HB1 := BQ1
    have HBX := BQx
    have HWX := W
    go_loopw [16] (fun i wr => ∃ j : Nat, j ≤ n ∧ i = .int .i64 (j : Int) ∧ Below x4.heap.size x4 wr) (fun i _ => n - (intOf i).toNat)
    case atStart => exact ⟨0, Nat.zero_le _, rfl, Below.refl _ _⟩
    case round =>
      obtain ⟨j, hj, rfl, hbw⟩ := hrel
      have WB := Lib.hid hbw
      have BQg := Lib.hid (HBG.out.keep (grown_of_below hbw none))
      have BQi := Lib.hid (HBI.out.keep (grown_of_below hbw none))
      have BQt := Lib.hid (HBT.out.keep (grown_of_below hbw none))
      have BQ1 := Lib.hid (HB1.out.keep (grown_of_below hbw none))
      have BQx := Lib.hid (HBX.out.keep (grown_of_below hbw none))
      have W := Lib.hid (HWX.out.trans (hbw.mono HWX.out.size))
      clear hbw
      have hj0 : (0 : Int) ≤ (j : Int) := Int.natCast_nonneg _
      by_cases hlt : j < n
      · have fj : decide ((j : Int) < (n : Int)) = true := decide_eq_true (by omega)
        have hji : (j : Int) < (n : Int) := by omega
        have hbb := BQx.out
        have xc0 : wr.cell? ⟨qx, 0, none⟩ = some (.int .u64 (P.wrd ((I &&& P.full (n : Int)) &&& ~~~s1) 0)) := hbb.cell 0 _ rfl
        have xc1 : wr.cell? ⟨qx, 1, none⟩ = some (.int .u64 (P.wrd ((I &&& P.full (n : Int)) &&& ~~~s1) 1)) := hbb.cell 1 _ rfl
        have xc2 : wr.cell? ⟨qx, 2, none⟩ = some (.int .u64 (P.wrd ((I &&& P.full (n : Int)) &&& ~~~s1) 2)) := hbb.cell 2 _ rfl
        have xc3 : wr.cell? ⟨qx, 3, none⟩ = some (.int .u64 (P.wrd ((I &&& P.full (n : Int)) &&& ~~~s1) 3)) := hbb.cell 3 _ rfl
        clear hbb
        go_wp2_with fail
        refine (has_any ((I &&& P.full (n : Int)) &&& ~~~s1) (j : Int) _).mono ?_
        rintro e w6 ⟨rfl, hb⟩
        replace BQg := Lib.hid (BQg.out.keep (grown_of_below hb none))
        replace BQi := Lib.hid (BQi.out.keep (grown_of_below hb none))
        replace BQt := Lib.hid (BQt.out.keep (grown_of_below hb none))
        replace BQ1 := Lib.hid (BQ1.out.keep (grown_of_below hb none))
        replace BQx := Lib.hid (BQx.out.keep (grown_of_below hb none))
        replace W := Lib.hid (W.out.trans (hb.mono W.out.size))
        replace WB := Lib.hid (WB.out.trans (hb.mono WB.out.size))
        clear hb xc0 xc1 xc2 xc3
        rw [P.has_nat]
        obtain ⟨hs, hhs⟩ : ∃ hs, ((I &&& P.full (n : Int)) &&& ~~~s1).getLsbD j = hs := ⟨_, rfl⟩
        rw [hhs]
        have HHS := Lib.hid hhs
        clear hhs
        cases hs with
        | false =>
          go_wp2_with fail
          go_roundw
          case rel => exact ⟨j + 1, by omega, by go_num, WB.out⟩
          case measure => simp [intOf]; omega
        | true =>
          have HIB : Hid ((I &&& P.full (n : Int)).getLsbD j = true) := Lib.hid (by
            have h := HHS.out
            rw [BitVec.getLsbD_and, Bool.and_eq_true] at h
            exact h.1)
          have HSB : Hid (s1.getLsbD j = false) := Lib.hid (by
            have h := HHS.out
            rw [BitVec.getLsbD_and, Bool.and_eq_true, BitVec.getLsbD_not, Bool.and_eq_true, Bool.not_eq_true'] at h
            exact h.2.2)
          obtain ⟨wq, rfl⟩ : ∃ wq : World, wq = wr := ⟨_, rfl⟩
          obtain ⟨wr, rfl⟩ : ∃ wr : World, wr = w6 := ⟨_, rfl⟩
          have co := HCA.out wr W.out j hlt
          obtain ⟨xv, hcx, hxv⟩ := HCC.out wr W.out j hlt
          obtain ⟨ms, hms⟩ : ∃ ms, g.moves.getD j [] = ms := ⟨_, rfl⟩
          rw [hms] at hxv
          have IX := Lib.hid hxv
          obtain ⟨mo, mk, rfl, -, -⟩ := hxv
          have HCX := Lib.hid hcx
          have HMS := Lib.hid hms
          have LCO := Lib.hid (cell_lt co)
          have LW := Lib.hid W.out.size
          have LWB := Lib.hid WB.out.size
          have Lg := Lib.hid BQg.out.lt
          have Li := Lib.hid BQi.out.lt
          have Lt := Lib.hid BQt.out.lt
          have L1 := Lib.hid BQ1.out.lt
          have Lx := Lib.hid BQx.out.lt
          clear hms hcx
          go_upto_region 15 with (fail)
          refine Rg.wp_region_lit (fun idx => match idx with | 0 => (fun v _ _ => v = (.pointer (some ⟨qg, 2, none⟩))) | 1 => (fun v _ _ => v = (.slice (some ⟨bc, oc, none⟩) n kc)) | 2 => (fun v _ _ => v = (.int .i64 (j : Int))) | 3 => (fun v _ _ => v = (.pointer (some ⟨bc, oc + j, none⟩))) | 4 => (fun v _ _ => v = (.slice mo ms.length mk)) | 5 => (fun v _ _ => v = .agg #[.int .u64 (P.wrd (P.ofL ms) 0), .int .u64 (P.wrd (P.ofL ms) 1), .int .u64 (P.wrd (P.ofL ms) 2), .int .u64 (P.wrd (P.ofL ms) 3)]) | 6 => (fun v _ _ => v = .agg #[.int .u64 (P.wrd (I &&& P.full (n : Int)) 0), .int .u64 (P.wrd (I &&& P.full (n : Int)) 1), .int .u64 (P.wrd (I &&& P.full (n : Int)) 2), .int .u64 (P.wrd (I &&& P.full (n : Int)) 3)]) | 7 => (fun v _ _ => v = .agg #[.int .u64 (P.wrd (P.ofL ms &&& (I &&& P.full (n : Int))) 0), .int .u64 (P.wrd (P.ofL ms &&& (I &&& P.full (n : Int))) 1), .int .u64 (P.wrd (P.ofL ms &&& (I &&& P.full (n : Int))) 2), .int .u64 (P.wrd (P.ofL ms &&& (I &&& P.full (n : Int))) 3)]) | 8 => (fun v _ w' => ∃ qp, v = .pointer (some ⟨qp, 0, none⟩) ∧ wr.heap.size ≤ qp ∧ Box w' qp 28 #[.int .u64 0, .int .u64 0, .int .u64 0, .int .u64 0]) | _ => fun _ _ _ => True) (none) 99 (by kernel_rfl) (by rfl) (by kernel_rfl) (by rfl) ?_ ?_ ?_
          · refine ⟨?_, ?_, ?_, ?_, ?_, ?_, ?_, ?_, ?_, trivial⟩
            · intro A w' K vals h hn hg hK
              have r0 : A.tmps[4]?.getD undef = (.pointer (some ⟨qg, 0, none⟩)) := Rg.slot (h.1)
              clear h hn hg
              simp [Oper.wp, execOp, go_sem, r0]
              exact hK _ _ (Rg.grown_refl _ _) rfl
            · intro A w' K vals h hn hg hK
              have r0 : A.tmps[78]?.getD undef = vals 0 := Rg.slot h.1
              have r1 : vals 0 = (.pointer (some ⟨qg, 2, none⟩)) := hn.1
              have c : w'.cell? ⟨qg, 2, none⟩ = some (.slice (some ⟨bc, oc, none⟩) n kc) := (BQg.out.keep (hg)).cell _ _ rfl
              clear h hn
              simp [Oper.wp, execOp, go_sem, r0, r1, c]
              exact hK _ _ (Rg.grown_refl _ _) rfl
            · intro A w' K vals h hn hg hK
              have r0 : A.tmps[16]?.getD undef = (.int .i64 (j : Int)) := Rg.slot (h.1)
              clear h hn hg
              simp [Oper.wp, execOp, go_sem, r0]
              exact hK _ _ (Rg.grown_refl _ _) rfl
            · intro A w' K vals h hn hg hK
              have r0 : A.tmps[79]?.getD undef = vals 1 := Rg.slot h.1
              have r1 : A.tmps[80]?.getD undef = vals 2 := Rg.slot h.2.1
              have r2 : vals 1 = (.slice (some ⟨bc, oc, none⟩) n kc) := hn.1
              have r3 : vals 2 = (.int .i64 (j : Int)) := hn.2.1
              clear h hn hg
              simp [Oper.wp, execOp, go_sem, r0, r1, r2, r3, hlt]
              exact hK _ _ (Rg.grown_refl _ _) rfl
            · intro A w' K vals h hn hg hK
              have r0 : A.tmps[81]?.getD undef = vals 3 := Rg.slot h.1
              have r1 : vals 3 = (.pointer (some ⟨bc, oc + j, none⟩)) := hn.1
              have c : w'.cell? ⟨bc, oc + j, none⟩ = some (.slice mo ms.length mk) := hg.cell HCX.out (by simp)
              clear h hn
              simp [Oper.wp, execOp, go_sem, r0, r1, c]
              exact hK _ _ (Rg.grown_refl _ _) rfl
            · intro A w' K vals h hn hg hK
              have r0 : A.tmps[82]?.getD undef = vals 4 := Rg.slot h.2.1
              have s0 : vals 4 = (.slice mo ms.length mk) := hn.1
              clear h hn
              simp [Oper.wp, go_sem, r0, s0]
              refine (of_ints (IX.out.on (below_of_grown hg))).mono ?_
              rintro e w'' ⟨rfl, hb⟩
              exact hK _ _ (grown_of_below hb _) rfl
            · intro A w' K vals h hn hg hK
              have r0 : A.tmps[5]?.getD undef = .pointer (some ⟨qi, 0, none⟩) := Rg.slot h.1
              have bs := BQi.out.keep hg
              have cc0 : w'.cell? ⟨qi, 0, none⟩ = some (.int .u64 (P.wrd (I &&& P.full (n : Int)) 0)) := bs.cell 0 _ rfl
              have cc1 : w'.cell? ⟨qi, 1, none⟩ = some (.int .u64 (P.wrd (I &&& P.full (n : Int)) 1)) := bs.cell 1 _ rfl
              have cc2 : w'.cell? ⟨qi, 2, none⟩ = some (.int .u64 (P.wrd (I &&& P.full (n : Int)) 2)) := bs.cell 2 _ rfl
              have cc3 : w'.cell? ⟨qi, 3, none⟩ = some (.int .u64 (P.wrd (I &&& P.full (n : Int)) 3)) := bs.cell 3 _ rfl
              clear h hn hg bs
              simp [Oper.wp, execOp, go_sem, r0, cc0, cc1, cc2, cc3]
              exact hK _ _ (Rg.grown_refl _ _) rfl
            · intro A w' K vals h hn hg hK
              have r0 : A.tmps[83]?.getD undef = vals 5 := Rg.slot h.2.1
              have s0 : vals 5 = .agg #[.int .u64 (P.wrd (P.ofL ms) 0), .int .u64 (P.wrd (P.ofL ms) 1), .int .u64 (P.wrd (P.ofL ms) 2), .int .u64 (P.wrd (P.ofL ms) 3)] := hn.1
              have r1 : A.tmps[84]?.getD undef = vals 6 := Rg.slot h.2.2.1
              have s1 : vals 6 = .agg #[.int .u64 (P.wrd (I &&& P.full (n : Int)) 0), .int .u64 (P.wrd (I &&& P.full (n : Int)) 1), .int .u64 (P.wrd (I &&& P.full (n : Int)) 2), .int .u64 (P.wrd (I &&& P.full (n : Int)) 3)] := hn.2.1
              clear h hn
              simp [Oper.wp, go_sem, r0, s0, r1, s1]
              refine (and_any (P.ofL ms) (I &&& P.full (n : Int)) w').mono ?_
              rintro e w'' ⟨rfl, hb⟩
              exact hK _ _ (grown_of_below hb _) rfl
            · intro A w' K vals h hn hg hK
              clear h hn
              simp [Oper.wp, execOp, go_sem]
              exact hK _ _ (World.grownBy_alloc _ _ _) ⟨_, rfl, hg.size, Box.new _ _ _⟩
          · refine ⟨?_, ?_, ?_, ?_, ?_, ?_, ?_, ?_, ?_, trivial⟩
            · exact fun _ _ _ _ _ _ h => h
            · exact fun _ _ _ _ _ _ h => h
            · exact fun _ _ _ _ _ _ h => h
            · exact fun _ _ _ _ _ _ h => h
            · exact fun _ _ _ _ _ _ h => h
            · exact fun _ _ _ _ _ _ h => h
            · exact fun _ _ _ _ _ _ h => h
            · exact fun _ _ _ _ _ _ h => h
            · exact fun _ _ _ _ _ h ⟨qp, hv, hq, hb⟩ => ⟨qp, hv, hq, hb.keep h⟩
          · intro vals w7 G hg hS hG
            have s7 : vals 7 = .agg #[.int .u64 (P.wrd (P.ofL ms &&& (I &&& P.full (n : Int))) 0), .int .u64 (P.wrd (P.ofL ms &&& (I &&& P.full (n : Int))) 1), .int .u64 (P.wrd (P.ofL ms &&& (I &&& P.full (n : Int))) 2), .int .u64 (P.wrd (P.ofL ms &&& (I &&& P.full (n : Int))) 3)] := hS.2.2.2.2.2.2.2.1
            obtain ⟨ql, s8, hql, hbl⟩ : ∃ qp, vals 8 = .pointer (some ⟨qp, 0, none⟩) ∧ wr.heap.size ≤ qp ∧ Box w7 qp 28 #[.int .u64 0, .int .u64 0, .int .u64 0, .int .u64 0] := hS.2.2.2.2.2.2.2.2.1
            clear hS
            have hb := below_of_grown hg
            have HQL := Lib.hid hql
            replace BQg := Lib.hid (BQg.out.keep (grown_of_below hb none))
            replace BQi := Lib.hid (BQi.out.keep (grown_of_below hb none))
            replace BQt := Lib.hid (BQt.out.keep (grown_of_below hb none))
            replace BQ1 := Lib.hid (BQ1.out.keep (grown_of_below hb none))
            replace BQx := Lib.hid (BQx.out.keep (grown_of_below hb none))
            replace W := Lib.hid (W.out.trans (hb.mono W.out.size))
            replace WB := Lib.hid (WB.out.trans (hb.mono WB.out.size))
            have hco := (hb.cell (p := ⟨ba, oa + j, none⟩) (cell_lt co)).trans co
            clear hb co
            have lc0 : w7.cell? ⟨ql, 0, none⟩ = some (.int .u64 0) := hbl.cell 0 _ rfl
            have lc1 : w7.cell? ⟨ql, 1, none⟩ = some (.int .u64 0) := hbl.cell 1 _ rfl
            have lc2 : w7.cell? ⟨ql, 2, none⟩ = some (.int .u64 0) := hbl.cell 2 _ rfl
            have lc3 : w7.cell? ⟨ql, 3, none⟩ = some (.int .u64 0) := hbl.cell 3 _ rfl
            have lf0 : w7.frozen? ⟨ql, 0, none⟩ = false := hbl.frozen 0
            have lf1 : w7.frozen? ⟨ql, 1, none⟩ = false := hbl.frozen 1
            have lf2 : w7.frozen? ⟨ql, 2, none⟩ = false := hbl.frozen 2
            have lf3 : w7.frozen? ⟨ql, 3, none⟩ = false := hbl.frozen 3
            have BQl := Lib.hid (show Box ((((w7.setCell ⟨ql, 0, none⟩ (.int .u64 (P.wrd (P.ofL ms &&& (I &&& P.full (n : Int))) 0))).setCell ⟨ql, 1, none⟩ (.int .u64 (P.wrd (P.ofL ms &&& (I &&& P.full (n : Int))) 1))).setCell ⟨ql, 2, none⟩ (.int .u64 (P.wrd (P.ofL ms &&& (I &&& P.full (n : Int))) 2))).setCell ⟨ql, 3, none⟩ (.int .u64 (P.wrd (P.ofL ms &&& (I &&& P.full (n : Int))) 3))) ql 28 #[.int .u64 (P.wrd (P.ofL ms &&& (I &&& P.full (n : Int))) 0), .int .u64 (P.wrd (P.ofL ms &&& (I &&& P.full (n : Int))) 1), .int .u64 (P.wrd (P.ofL ms &&& (I &&& P.full (n : Int))) 2), .int .u64 (P.wrd (P.ofL ms &&& (I &&& P.full (n : Int))) 3)] from Blk.store (Blk.zero hbl) (P.ofL ms &&& (I &&& P.full (n : Int))))
            have hne : ∀ q, q < wr.heap.size → q ≠ ql := fun q hq e => by omega
            have BQg := Lib.hid (far4 (.int .u64 (P.wrd (P.ofL ms &&& (I &&& P.full (n : Int))) 0)) (.int .u64 (P.wrd (P.ofL ms &&& (I &&& P.full (n : Int))) 1)) (.int .u64 (P.wrd (P.ofL ms &&& (I &&& P.full (n : Int))) 2)) (.int .u64 (P.wrd (P.ofL ms &&& (I &&& P.full (n : Int))) 3)) BQg.out (hne _ Lg.out))
            have BQi := Lib.hid (far4 (.int .u64 (P.wrd (P.ofL ms &&& (I &&& P.full (n : Int))) 0)) (.int .u64 (P.wrd (P.ofL ms &&& (I &&& P.full (n : Int))) 1)) (.int .u64 (P.wrd (P.ofL ms &&& (I &&& P.full (n : Int))) 2)) (.int .u64 (P.wrd (P.ofL ms &&& (I &&& P.full (n : Int))) 3)) BQi.out (hne _ Li.out))
            have BQt := Lib.hid (far4 (.int .u64 (P.wrd (P.ofL ms &&& (I &&& P.full (n : Int))) 0)) (.int .u64 (P.wrd (P.ofL ms &&& (I &&& P.full (n : Int))) 1)) (.int .u64 (P.wrd (P.ofL ms &&& (I &&& P.full (n : Int))) 2)) (.int .u64 (P.wrd (P.ofL ms &&& (I &&& P.full (n : Int))) 3)) BQt.out (hne _ Lt.out))
            have BQ1 := Lib.hid (far4 (.int .u64 (P.wrd (P.ofL ms &&& (I &&& P.full (n : Int))) 0)) (.int .u64 (P.wrd (P.ofL ms &&& (I &&& P.full (n : Int))) 1)) (.int .u64 (P.wrd (P.ofL ms &&& (I &&& P.full (n : Int))) 2)) (.int .u64 (P.wrd (P.ofL ms &&& (I &&& P.full (n : Int))) 3)) BQ1.out (hne _ L1.out))
            have BQx := Lib.hid (far4 (.int .u64 (P.wrd (P.ofL ms &&& (I &&& P.full (n : Int))) 0)) (.int .u64 (P.wrd (P.ofL ms &&& (I &&& P.full (n : Int))) 1)) (.int .u64 (P.wrd (P.ofL ms &&& (I &&& P.full (n : Int))) 2)) (.int .u64 (P.wrd (P.ofL ms &&& (I &&& P.full (n : Int))) 3)) BQx.out (hne _ Lx.out))
            replace W := Lib.hid (W.out.trans (below4 (w := w7) (q := ql) (.int .u64 (P.wrd (P.ofL ms &&& (I &&& P.full (n : Int))) 0)) (.int .u64 (P.wrd (P.ofL ms &&& (I &&& P.full (n : Int))) 1)) (.int .u64 (P.wrd (P.ofL ms &&& (I &&& P.full (n : Int))) 2)) (.int .u64 (P.wrd (P.ofL ms &&& (I &&& P.full (n : Int))) 3)) (Nat.le_trans LW.out hql)))
            replace WB := Lib.hid (WB.out.trans (below4 (w := w7) (q := ql) (.int .u64 (P.wrd (P.ofL ms &&& (I &&& P.full (n : Int))) 0)) (.int .u64 (P.wrd (P.ofL ms &&& (I &&& P.full (n : Int))) 1)) (.int .u64 (P.wrd (P.ofL ms &&& (I &&& P.full (n : Int))) 2)) (.int .u64 (P.wrd (P.ofL ms &&& (I &&& P.full (n : Int))) 3)) (Nat.le_trans LWB.out hql)))
            have co := (((below4 (w := w7) (B := wr.heap.size) (q := ql) (.int .u64 (P.wrd (P.ofL ms &&& (I &&& P.full (n : Int))) 0)) (.int .u64 (P.wrd (P.ofL ms &&& (I &&& P.full (n : Int))) 1)) (.int .u64 (P.wrd (P.ofL ms &&& (I &&& P.full (n : Int))) 2)) (.int .u64 (P.wrd (P.ofL ms &&& (I &&& P.full (n : Int))) 3)) hql).cell (p := ⟨ba, oa + j, none⟩) LCO.out)).trans hco
            clear hbl hg hql hne hco
            refine hG ?_
            clear hG
            simp [List.dropLast, Rg.putAll, Oper.wp, execOp, go_sem, s7, s8, lc0, lc1, lc2, lc3, lf0, lf1, lf2, lf3]
            clear s7 s8 lc0 lc1 lc2 lc3 lf0 lf1 lf2 lf3
            generalize ((((w7.setCell ⟨ql, 0, none⟩ (.int .u64 (P.wrd (P.ofL ms &&& (I &&& P.full (n : Int))) 0))).setCell ⟨ql, 1, none⟩ (.int .u64 (P.wrd (P.ofL ms &&& (I &&& P.full (n : Int))) 1))).setCell ⟨ql, 2, none⟩ (.int .u64 (P.wrd (P.ofL ms &&& (I &&& P.full (n : Int))) 2))).setCell ⟨ql, 3, none⟩ (.int .u64 (P.wrd (P.ofL ms &&& (I &&& P.full (n : Int))) 3))) = w8 at BQg BQi BQt BQ1 BQx BQl W WB co ⊢
            have hbb := BQg.out
            have gc0 : w8.cell? ⟨qg, 0, none⟩ = some (.slice (some ⟨ba, oa, none⟩) n ka) := hbb.cell 0 _ rfl
            have gc1 : w8.cell? ⟨qg, 1, none⟩ = some (.slice (some ⟨bb, ob, none⟩) n kb) := hbb.cell 1 _ rfl
            have gc2 : w8.cell? ⟨qg, 2, none⟩ = some (.slice (some ⟨bc, oc, none⟩) n kc) := hbb.cell 2 _ rfl
            clear hbb
            have hbb := BQl.out
            have lc0 : w8.cell? ⟨ql, 0, none⟩ = some (.int .u64 (P.wrd (P.ofL ms &&& (I &&& P.full (n : Int))) 0)) := hbb.cell 0 _ rfl
            have lc1 : w8.cell? ⟨ql, 1, none⟩ = some (.int .u64 (P.wrd (P.ofL ms &&& (I &&& P.full (n : Int))) 1)) := hbb.cell 1 _ rfl
            have lc2 : w8.cell? ⟨ql, 2, none⟩ = some (.int .u64 (P.wrd (P.ofL ms &&& (I &&& P.full (n : Int))) 2)) := hbb.cell 2 _ rfl
            have lc3 : w8.cell? ⟨ql, 3, none⟩ = some (.int .u64 (P.wrd (P.ofL ms &&& (I &&& P.full (n : Int))) 3)) := hbb.cell 3 _ rfl
            clear hbb
            have hbb := BQ1.out
            have yc0 : w8.cell? ⟨q1, 0, none⟩ = some (.int .u64 (P.wrd s1 0)) := hbb.cell 0 _ rfl
            have yc1 : w8.cell? ⟨q1, 1, none⟩ = some (.int .u64 (P.wrd s1 1)) := hbb.cell 1 _ rfl
            have yc2 : w8.cell? ⟨q1, 2, none⟩ = some (.int .u64 (P.wrd s1 2)) := hbb.cell 2 _ rfl
            have yc3 : w8.cell? ⟨q1, 3, none⟩ = some (.int .u64 (P.wrd s1 3)) := hbb.cell 3 _ rfl
            clear hbb
            have hbb := BQx.out
            have xc0 : w8.cell? ⟨qx, 0, none⟩ = some (.int .u64 (P.wrd ((I &&& P.full (n : Int)) &&& ~~~s1) 0)) := hbb.cell 0 _ rfl
            have xc1 : w8.cell? ⟨qx, 1, none⟩ = some (.int .u64 (P.wrd ((I &&& P.full (n : Int)) &&& ~~~s1) 1)) := hbb.cell 1 _ rfl
            have xc2 : w8.cell? ⟨qx, 2, none⟩ = some (.int .u64 (P.wrd ((I &&& P.full (n : Int)) &&& ~~~s1) 2)) := hbb.cell 2 _ rfl
            have xc3 : w8.cell? ⟨qx, 3, none⟩ = some (.int .u64 (P.wrd ((I &&& P.full (n : Int)) &&& ~~~s1) 3)) := hbb.cell 3 _ rfl
            clear hbb
            have howner := (HR.out.at j (by rw [HN.out]; exact hlt)).1
            by_cases hzo : g.owner.getD j 0 = 1
            · have hz := P.attOf_mine HR.out (I := (I &&& P.full (n : Int))) (To := To) (p := 1) (i := j) (by omega) (by rw [HN.out]; exact hlt) HIB.out (by rw [HS1.out]; exact HSB.out) hzo
              rw [HMS.out, HS1.out] at hz
              have HZ := Lib.hid hz
              have eqa := fun w => set_neq (P.ofL ms &&& (I &&& P.full (n : Int)) &&& s1) 0#256 w
              rw [decide_eq_true hz, zero_set] at eqa
              have hzo' := hzo
              rw [hzo] at co
              clear hzo hzo' hz howner
              go_wp2_with fail
              refine (and_any (P.ofL ms &&& (I &&& P.full (n : Int))) s1 _).mono ?_
              rintro e w9 ⟨rfl, hb⟩
              replace BQg := Lib.hid (BQg.out.keep (grown_of_below hb none))
              replace BQi := Lib.hid (BQi.out.keep (grown_of_below hb none))
              replace BQt := Lib.hid (BQt.out.keep (grown_of_below hb none))
              replace BQ1 := Lib.hid (BQ1.out.keep (grown_of_below hb none))
              replace BQx := Lib.hid (BQx.out.keep (grown_of_below hb none))
              replace BQl := Lib.hid (BQl.out.keep (grown_of_below hb none))
              replace W := Lib.hid (W.out.trans (hb.mono W.out.size))
              replace WB := Lib.hid (WB.out.trans (hb.mono WB.out.size))
              have hco := co
              clear co
              have co := (hb.cell (p := ⟨ba, oa + j, none⟩) (cell_lt hco)).trans hco
              clear hb hco lc0 lc1 lc2 lc3 gc0 gc1 gc2 yc0 yc1 yc2 yc3
              have hbb := BQg.out
              have gc0 : w9.cell? ⟨qg, 0, none⟩ = some (.slice (some ⟨ba, oa, none⟩) n ka) := hbb.cell 0 _ rfl
              have gc1 : w9.cell? ⟨qg, 1, none⟩ = some (.slice (some ⟨bb, ob, none⟩) n kb) := hbb.cell 1 _ rfl
              have gc2 : w9.cell? ⟨qg, 2, none⟩ = some (.slice (some ⟨bc, oc, none⟩) n kc) := hbb.cell 2 _ rfl
              clear hbb
              go_wp2_with fail
              go_roundw
              case rel => exact ⟨j + 1, by omega, by go_num, WB.out⟩
              case measure => simp [intOf]; omega
            · have hz4 : g.owner.getD j 0 = 0 := by omega
              rw [hz4] at co
              by_cases hl0 : (P.ofL ms &&& (I &&& P.full (n : Int))) = 0#256
              · have eqa := fun w => set_neq (P.ofL ms &&& (I &&& P.full (n : Int))) 0#256 w
                rw [decide_eq_true hl0, zero_set] at eqa
                clear hl0 hz4 hzo howner
                go_wp2_with fail
                go_roundw
                case rel => exact ⟨j + 1, by omega, by go_num, WB.out⟩
                case measure => simp [intOf]; omega
              · have hz := P.attOf_his HR.out (I := (I &&& P.full (n : Int))) (To := To) (p := 1) (i := j) (by omega) (by rw [HN.out]; exact hlt) HIB.out (by rw [HS1.out]; exact HSB.out) hzo (by rw [HMS.out]; exact hl0)
                rw [HMS.out, HS1.out] at hz
                have eqa := fun w => set_neq (P.ofL ms &&& (I &&& P.full (n : Int))) 0#256 w
                rw [decide_eq_false hl0, zero_set] at eqa
                have eqb := fun w => set_eq ((P.ofL ms &&& (I &&& P.full (n : Int))) &&& ((I &&& P.full (n : Int)) &&& ~~~s1)) 0#256 w
                rw [decide_eq_false hz, zero_set] at eqb
                clear hl0 hz hz4 hzo howner
                go_wp2_with fail
                refine (and_any (P.ofL ms &&& (I &&& P.full (n : Int))) ((I &&& P.full (n : Int)) &&& ~~~s1) _).mono ?_
                rintro e w9 ⟨rfl, hb⟩
                replace W := Lib.hid (W.out.trans (hb.mono W.out.size))
                replace WB := Lib.hid (WB.out.trans (hb.mono WB.out.size))
                clear hb
                go_wp2_with fail
                go_roundw
                case rel => exact ⟨j + 1, by omega, by go_num, WB.out⟩
                case measure => simp [intOf]; omega
      · have fj : decide ((j : Int) < (n : Int)) = false := decide_eq_false (by omega)
        go_wp2_with fail
        exact bodyPost_ret (v := .bool true) (by simp [results, Tryd.results4, go_sem]) rfl ⟨rfl, W.out⟩

theorem traps_any (g : P.G) (I To : BitVec 256) (p : Int) (v : Value) (w : World) (hv : GameV w v g) (hT : Tab w) : Calls Tryd.prog 4 #[v, .agg #[.int .u64 (P.wrd I 0), .int .u64 (P.wrd I 1), .int .u64 (P.wrd I 2), .int .u64 (P.wrd I 3)], .int .i64 p, .agg #[.int .u64 (P.wrd To 0), .int .u64 (P.wrd To 1), .int .u64 (P.wrd To 2), .int .u64 (P.wrd To 3)]] w fun e w' => e = .returned (.bool true) ∧ Below w.heap.size w w' := by
  by_cases hok : g.ok = true
  · by_cases h0 : p = 0
    · subst h0; exact traps_0 g I To v w hv hT hok
    · by_cases h1 : p = 1
      · subst h1; exact traps_1 g I To v w hv hT hok
      · exact traps_away g I To p v w hv hT hok h0 h1
  · exact traps_wrong g I To p v w hv hT (by simpa using hok)
end W
end Go.Proofs.YtpfponiidppldaaDoor
