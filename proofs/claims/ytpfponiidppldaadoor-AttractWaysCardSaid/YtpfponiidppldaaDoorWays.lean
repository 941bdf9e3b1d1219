/- AttractWays: the walk. -/
import Derived.Test.YtpfponiidppldaaDoorShown
import Derived.Test.YtpfponiidppldaaDoorLeaf2
import Derived.Test.YtpfponiidppldaaDoorCopy
import Derived.Test.YtpfponiidppldaaDoorOwnL
import Derived.Test.YtpfponiidppldaaDoorPartF
import Derived.Test.YtpfponiidppldaaDoorSetN
import Derived.Test.YtpfponiidppldaaDoorCls
import Derived.Test.YtpfponiidppldaaDoorStaysP
import Derived.Deep.Cut
namespace Go.Proofs.YtpfponiidppldaaDoor
open Go.RowKit Go.Sort
namespace W

set_option maxRecDepth 100000 in
set_option maxHeartbeats 1000000 in
theorem ways_wrong (g : P.G) (I To : BitVec 256) (p : Int) (v : Value) (w : World) (hv : GameV w v g) (hT : Tab w) (hok : g.ok = false) : Calls Tryd.prog 8 #[v, .agg #[.int .u64 (P.wrd I 0), .int .u64 (P.wrd I 1), .int .u64 (P.wrd I 2), .int .u64 (P.wrd I 3)], .int .i64 p, .agg #[.int .u64 (P.wrd To 0), .int .u64 (P.wrd To 1), .int .u64 (P.wrd To 2), .int .u64 (P.wrd To 3)]] w fun e w' => e = .returned (.bool true) ∧ Below w.heap.size w w' := by
  have hq0 : g.right.2 ≠ 0 := by unfold P.G.ok at hok; exact beq_eq_false_iff_ne.1 hok
  have HV := Lib.hid hv
  obtain ⟨a, b, c, rfl, -⟩ := hv
  clear hok
  have T := Lib.hid hT
  clear hT
  go_enter Tryd.func8, Tryd.ntmps8
  go_wp2_with fail
  have bx0 : Box (((w.alloc (.cells #[a, b, c] 25)).alloc (.cells #[.int .u64 (P.wrd I 0), .int .u64 (P.wrd I 1), .int .u64 (P.wrd I 2), .int .u64 (P.wrd I 3)] 28)).alloc (.cells #[.int .u64 (P.wrd To 0), .int .u64 (P.wrd To 1), .int .u64 (P.wrd To 2), .int .u64 (P.wrd To 3)] 28)) (w.heap.size) 25 #[a, b, c] := Box.alloc (Box.alloc (Box.new w 25 #[a, b, c]) (.cells #[.int .u64 (P.wrd I 0), .int .u64 (P.wrd I 1), .int .u64 (P.wrd I 2), .int .u64 (P.wrd I 3)] 28)) (.cells #[.int .u64 (P.wrd To 0), .int .u64 (P.wrd To 1), .int .u64 (P.wrd To 2), .int .u64 (P.wrd To 3)] 28)
  have bx1 : Box (((w.alloc (.cells #[a, b, c] 25)).alloc (.cells #[.int .u64 (P.wrd I 0), .int .u64 (P.wrd I 1), .int .u64 (P.wrd I 2), .int .u64 (P.wrd I 3)] 28)).alloc (.cells #[.int .u64 (P.wrd To 0), .int .u64 (P.wrd To 1), .int .u64 (P.wrd To 2), .int .u64 (P.wrd To 3)] 28)) (w.heap.size + 1) 28 #[.int .u64 (P.wrd I 0), .int .u64 (P.wrd I 1), .int .u64 (P.wrd I 2), .int .u64 (P.wrd I 3)] := by
    have := Box.alloc (Box.new (w.alloc (.cells #[a, b, c] 25)) 28 #[.int .u64 (P.wrd I 0), .int .u64 (P.wrd I 1), .int .u64 (P.wrd I 2), .int .u64 (P.wrd I 3)]) (.cells #[.int .u64 (P.wrd To 0), .int .u64 (P.wrd To 1), .int .u64 (P.wrd To 2), .int .u64 (P.wrd To 3)] 28)
    simpa using this
  have bx2 : Box (((w.alloc (.cells #[a, b, c] 25)).alloc (.cells #[.int .u64 (P.wrd I 0), .int .u64 (P.wrd I 1), .int .u64 (P.wrd I 2), .int .u64 (P.wrd I 3)] 28)).alloc (.cells #[.int .u64 (P.wrd To 0), .int .u64 (P.wrd To 1), .int .u64 (P.wrd To 2), .int .u64 (P.wrd To 3)] 28)) (w.heap.size + 1 + 1) 28 #[.int .u64 (P.wrd To 0), .int .u64 (P.wrd To 1), .int .u64 (P.wrd To 2), .int .u64 (P.wrd To 3)] := by
    have := Box.new ((w.alloc (.cells #[a, b, c] 25)).alloc (.cells #[.int .u64 (P.wrd I 0), .int .u64 (P.wrd I 1), .int .u64 (P.wrd I 2), .int .u64 (P.wrd I 3)] 28)) 28 #[.int .u64 (P.wrd To 0), .int .u64 (P.wrd To 1), .int .u64 (P.wrd To 2), .int .u64 (P.wrd To 3)]
    simpa using this
  have hbq : Below w.heap.size w (((w.alloc (.cells #[a, b, c] 25)).alloc (.cells #[.int .u64 (P.wrd I 0), .int .u64 (P.wrd I 1), .int .u64 (P.wrd I 2), .int .u64 (P.wrd I 3)] 28)).alloc (.cells #[.int .u64 (P.wrd To 0), .int .u64 (P.wrd To 1), .int .u64 (P.wrd To 2), .int .u64 (P.wrd To 3)] 28)) := (((Below.refl _ w).alloc (Nat.le_refl _) _).alloc (by simp) _).alloc (by simp; omega) _
  have lt0 : w.heap.size < w.heap.size + 1 := Nat.lt_succ_self _
  have lt1 : w.heap.size + 1 < w.heap.size + 1 + 1 := Nat.lt_succ_self _
  have hle0 : w.heap.size ≤ w.heap.size := Nat.le_refl _
  generalize (((w.alloc (.cells #[a, b, c] 25)).alloc (.cells #[.int .u64 (P.wrd I 0), .int .u64 (P.wrd I 1), .int .u64 (P.wrd I 2), .int .u64 (P.wrd I 3)] 28)).alloc (.cells #[.int .u64 (P.wrd To 0), .int .u64 (P.wrd To 1), .int .u64 (P.wrd To 2), .int .u64 (P.wrd To 3)] 28)) = w0 at bx0 bx1 bx2 hbq  ⊢
  have BQg := Lib.hid bx0
  have BQi := Lib.hid bx1
  have BQt := Lib.hid bx2
  have W := Lib.hid hbq
  have LTgi := Lib.hid lt0
  have LTit := Lib.hid lt1
  have LEg := Lib.hid hle0
  clear hbq hle0 bx0 bx1 bx2 lt0 lt1
  generalize w.heap.size + 1 + 1 = qt at BQt LTit ⊢
  generalize w.heap.size + 1 = qi at BQi LTit LTgi ⊢
  obtain ⟨qg, hqg⟩ : ∃ qg, w.heap.size = qg := ⟨_, rfl⟩
  rw [hqg] at BQg LTgi ⊢
  have LEg : Hid (w.heap.size ≤ qg) := Lib.hid (by omega)
  clear hqg
  refine (shown_any _ (T.out.on W.out)).mono ?_
  rintro e w1 ⟨rfl, hb⟩
  replace BQg := Lib.hid (BQg.out.keep (grown_of_below hb none))
  replace BQi := Lib.hid (BQi.out.keep (grown_of_below hb none))
  replace BQt := Lib.hid (BQt.out.keep (grown_of_below hb none))
  replace W := Lib.hid (W.out.trans (hb.mono W.out.size))
  clear hb
  have hbb := BQg.out
  have gc0 : w1.cell? ⟨qg, 0, none⟩ = some a := hbb.cell 0 _ rfl
  have gc1 : w1.cell? ⟨qg, 1, none⟩ = some b := hbb.cell 1 _ rfl
  have gc2 : w1.cell? ⟨qg, 2, none⟩ = some c := hbb.cell 2 _ rfl
  clear hbb
  go_wp2_with fail
  refine (right_any g _ _ (HV.out.on W.out)).mono ?_
  rintro e w2 ⟨rfl, hb⟩
  replace BQg := Lib.hid (BQg.out.keep (grown_of_below hb none))
  replace BQi := Lib.hid (BQi.out.keep (grown_of_below hb none))
  replace BQt := Lib.hid (BQt.out.keep (grown_of_below hb none))
  replace W := Lib.hid (W.out.trans (hb.mono W.out.size))
  clear hb gc0 gc1 gc2
  obtain ⟨z, hz⟩ : ∃ z, g.right.2 = z := ⟨_, rfl⟩
  rw [hz] at hq0 ⊢
  have fq : (((z : Nat) : Int) != 0) = true := by rw [bne_iff_ne]; omega
  clear hz hq0
  go_wp2_with fail
  exact bodyPost_ret (v := .bool true) (by simp [results, Tryd.results8, go_sem]) rfl ⟨rfl, W.out⟩

set_option maxRecDepth 100000 in
set_option maxHeartbeats 1000000 in
theorem ways_away (g : P.G) (I To : BitVec 256) (p : Int) (v : Value) (w : World) (hv : GameV w v g) (hT : Tab w) (hok : g.ok = true) (h0 : p ≠ 0) (h1 : p ≠ 1) : Calls Tryd.prog 8 #[v, .agg #[.int .u64 (P.wrd I 0), .int .u64 (P.wrd I 1), .int .u64 (P.wrd I 2), .int .u64 (P.wrd I 3)], .int .i64 p, .agg #[.int .u64 (P.wrd To 0), .int .u64 (P.wrd To 1), .int .u64 (P.wrd To 2), .int .u64 (P.wrd To 3)]] w fun e w' => e = .returned (.bool true) ∧ Below w.heap.size w w' := by
  have hq0 : g.right.2 = 0 := by unfold P.G.ok at hok; exact beq_iff_eq.1 hok
  have f0 : (p != 0) = true := bne_iff_ne.2 h0
  have f1 : (p != 1) = true := bne_iff_ne.2 h1
  have HV := Lib.hid hv
  obtain ⟨a, b, c, rfl, -⟩ := hv
  clear hok h0 h1
  have T := Lib.hid hT
  clear hT
  go_enter Tryd.func8, Tryd.ntmps8
  go_wp2_with fail
  have bx0 : Box (((w.alloc (.cells #[a, b, c] 25)).alloc (.cells #[.int .u64 (P.wrd I 0), .int .u64 (P.wrd I 1), .int .u64 (P.wrd I 2), .int .u64 (P.wrd I 3)] 28)).alloc (.cells #[.int .u64 (P.wrd To 0), .int .u64 (P.wrd To 1), .int .u64 (P.wrd To 2), .int .u64 (P.wrd To 3)] 28)) (w.heap.size) 25 #[a, b, c] := Box.alloc (Box.alloc (Box.new w 25 #[a, b, c]) (.cells #[.int .u64 (P.wrd I 0), .int .u64 (P.wrd I 1), .int .u64 (P.wrd I 2), .int .u64 (P.wrd I 3)] 28)) (.cells #[.int .u64 (P.wrd To 0), .int .u64 (P.wrd To 1), .int .u64 (P.wrd To 2), .int .u64 (P.wrd To 3)] 28)
  have bx1 : Box (((w.alloc (.cells #[a, b, c] 25)).alloc (.cells #[.int .u64 (P.wrd I 0), .int .u64 (P.wrd I 1), .int .u64 (P.wrd I 2), .int .u64 (P.wrd I 3)] 28)).alloc (.cells #[.int .u64 (P.wrd To 0), .int .u64 (P.wrd To 1), .int .u64 (P.wrd To 2), .int .u64 (P.wrd To 3)] 28)) (w.heap.size + 1) 28 #[.int .u64 (P.wrd I 0), .int .u64 (P.wrd I 1), .int .u64 (P.wrd I 2), .int .u64 (P.wrd I 3)] := by
    have := Box.alloc (Box.new (w.alloc (.cells #[a, b, c] 25)) 28 #[.int .u64 (P.wrd I 0), .int .u64 (P.wrd I 1), .int .u64 (P.wrd I 2), .int .u64 (P.wrd I 3)]) (.cells #[.int .u64 (P.wrd To 0), .int .u64 (P.wrd To 1), .int .u64 (P.wrd To 2), .int .u64 (P.wrd To 3)] 28)
    simpa using this
  have bx2 : Box (((w.alloc (.cells #[a, b, c] 25)).alloc (.cells #[.int .u64 (P.wrd I 0), .int .u64 (P.wrd I 1), .int .u64 (P.wrd I 2), .int .u64 (P.wrd I 3)] 28)).alloc (.cells #[.int .u64 (P.wrd To 0), .int .u64 (P.wrd To 1), .int .u64 (P.wrd To 2), .int .u64 (P.wrd To 3)] 28)) (w.heap.size + 1 + 1) 28 #[.int .u64 (P.wrd To 0), .int .u64 (P.wrd To 1), .int .u64 (P.wrd To 2), .int .u64 (P.wrd To 3)] := by
    have := Box.new ((w.alloc (.cells #[a, b, c] 25)).alloc (.cells #[.int .u64 (P.wrd I 0), .int .u64 (P.wrd I 1), .int .u64 (P.wrd I 2), .int .u64 (P.wrd I 3)] 28)) 28 #[.int .u64 (P.wrd To 0), .int .u64 (P.wrd To 1), .int .u64 (P.wrd To 2), .int .u64 (P.wrd To 3)]
    simpa using this
  have hbq : Below w.heap.size w (((w.alloc (.cells #[a, b, c] 25)).alloc (.cells #[.int .u64 (P.wrd I 0), .int .u64 (P.wrd I 1), .int .u64 (P.wrd I 2), .int .u64 (P.wrd I 3)] 28)).alloc (.cells #[.int .u64 (P.wrd To 0), .int .u64 (P.wrd To 1), .int .u64 (P.wrd To 2), .int .u64 (P.wrd To 3)] 28)) := (((Below.refl _ w).alloc (Nat.le_refl _) _).alloc (by simp) _).alloc (by simp; omega) _
  have lt0 : w.heap.size < w.heap.size + 1 := Nat.lt_succ_self _
  have lt1 : w.heap.size + 1 < w.heap.size + 1 + 1 := Nat.lt_succ_self _
  have hle0 : w.heap.size ≤ w.heap.size := Nat.le_refl _
  generalize (((w.alloc (.cells #[a, b, c] 25)).alloc (.cells #[.int .u64 (P.wrd I 0), .int .u64 (P.wrd I 1), .int .u64 (P.wrd I 2), .int .u64 (P.wrd I 3)] 28)).alloc (.cells #[.int .u64 (P.wrd To 0), .int .u64 (P.wrd To 1), .int .u64 (P.wrd To 2), .int .u64 (P.wrd To 3)] 28)) = w0 at bx0 bx1 bx2 hbq  ⊢
  have BQg := Lib.hid bx0
  have BQi := Lib.hid bx1
  have BQt := Lib.hid bx2
  have W := Lib.hid hbq
  have LTgi := Lib.hid lt0
  have LTit := Lib.hid lt1
  have LEg := Lib.hid hle0
  clear hbq hle0 bx0 bx1 bx2 lt0 lt1
  generalize w.heap.size + 1 + 1 = qt at BQt LTit ⊢
  generalize w.heap.size + 1 = qi at BQi LTit LTgi ⊢
  obtain ⟨qg, hqg⟩ : ∃ qg, w.heap.size = qg := ⟨_, rfl⟩
  rw [hqg] at BQg LTgi ⊢
  have LEg : Hid (w.heap.size ≤ qg) := Lib.hid (by omega)
  clear hqg
  refine (shown_any _ (T.out.on W.out)).mono ?_
  rintro e w1 ⟨rfl, hb⟩
  replace BQg := Lib.hid (BQg.out.keep (grown_of_below hb none))
  replace BQi := Lib.hid (BQi.out.keep (grown_of_below hb none))
  replace BQt := Lib.hid (BQt.out.keep (grown_of_below hb none))
  replace W := Lib.hid (W.out.trans (hb.mono W.out.size))
  clear hb
  have hbb := BQg.out
  have gc0 : w1.cell? ⟨qg, 0, none⟩ = some a := hbb.cell 0 _ rfl
  have gc1 : w1.cell? ⟨qg, 1, none⟩ = some b := hbb.cell 1 _ rfl
  have gc2 : w1.cell? ⟨qg, 2, none⟩ = some c := hbb.cell 2 _ rfl
  clear hbb
  go_wp2_with fail
  refine (right_any g _ _ (HV.out.on W.out)).mono ?_
  rintro e w2 ⟨rfl, hb⟩
  replace BQg := Lib.hid (BQg.out.keep (grown_of_below hb none))
  replace BQi := Lib.hid (BQi.out.keep (grown_of_below hb none))
  replace BQt := Lib.hid (BQt.out.keep (grown_of_below hb none))
  replace W := Lib.hid (W.out.trans (hb.mono W.out.size))
  clear hb gc0 gc1 gc2
  obtain ⟨z, hz⟩ : ∃ z, g.right.2 = z := ⟨_, rfl⟩
  rw [hz] at hq0 ⊢
  have fq : (((z : Nat) : Int) != 0) = false := by rw [bne_eq_false_iff_eq]; omega
  clear hz hq0
  go_wp2_with fail
  exact bodyPost_ret (v := .bool true) (by simp [results, Tryd.results8, go_sem]) rfl ⟨rfl, W.out⟩

theorem rMinus (W : World) (s t : BitVec 256) (d : Nat) (os : Array Obj) : Calls Tryd.prog 22 #[.agg #[.int .u64 (P.wrd s 0), .int .u64 (P.wrd s 1), .int .u64 (P.wrd s 2), .int .u64 (P.wrd s 3)], .agg #[.int .u64 (P.wrd t 0), .int .u64 (P.wrd t 1), .int .u64 (P.wrd t 2), .int .u64 (P.wrd t 3)]] (grow (redrawn W d) os) fun e w'' => e = .returned (.agg #[.int .u64 (P.wrd (s &&& ~~~t) 0), .int .u64 (P.wrd (s &&& ~~~t) 1), .int .u64 (P.wrd (s &&& ~~~t) 2), .int .u64 (P.wrd (s &&& ~~~t) 3)]) ∧ ∃ p : Regrown, w'' = grow (redrawn W p.d) p.os := Calls.regrown_of (minus_any s t _)
theorem iter_succ (u : BitVec 256 → Nat → BitVec 256) (n r : Nat) (s : BitVec 256) : P.iter (fun s => (List.range n).foldl u s) (r + 1) s = (List.range n).foldl u (P.iter (fun s => (List.range n).foldl u s) r s) := rfl
theorem fold_succ (u : BitVec 256 → Nat → BitVec 256) (j : Nat) (s : BitVec 256) : (List.range (j + 1)).foldl u s = u ((List.range j).foldl u s) j := by rw [List.range_succ, List.foldl_append]; rfl
theorem eq_wrd {s t : BitVec 256} (h : s = t) (w : World) : (binOp .eql 28 (.agg #[.int .u64 (P.wrd s 0), .int .u64 (P.wrd s 1), .int .u64 (P.wrd s 2), .int .u64 (P.wrd s 3)]) (.agg #[.int .u64 (P.wrd t 0), .int .u64 (P.wrd t 1), .int .u64 (P.wrd t 2), .int .u64 (P.wrd t 3)])).run Tryd.prog w = .ok (.bool true) w := by rw [set_eq, decide_eq_true h]

set_option maxRecDepth 100000 in
set_option maxHeartbeats 4000000 in
theorem ways_0 (g : P.G) (I To : BitVec 256) (v : Value) (w : World) (hv : GameV w v g) (hT : Tab w) (hok : g.ok = true) : Calls Tryd.prog 8 #[v, .agg #[.int .u64 (P.wrd I 0), .int .u64 (P.wrd I 1), .int .u64 (P.wrd I 2), .int .u64 (P.wrd I 3)], .int .i64 0, .agg #[.int .u64 (P.wrd To 0), .int .u64 (P.wrd To 1), .int .u64 (P.wrd To 2), .int .u64 (P.wrd To 3)]] w fun e w' => e = .returned (.bool true) ∧ Below w.heap.size w w' := by
  have hq0 : g.right.2 = 0 := by unfold P.G.ok at hok; exact beq_iff_eq.1 hok
  have hr := (P.G.ok_iff g).1 hok
  have HV := Lib.hid hv
  have HFI := Lib.hid hv.fits
  have hop := hr.prio
  have hmp := hr.moves
  have hmany := hr.many
  have h0 := hr.pos
  obtain ⟨n, hn⟩ : ∃ n, g.owner.length = n := ⟨_, rfl⟩
  rw [hn] at hop hmp hmany h0
  obtain ⟨ba, oa, ka, bb, ob, kb, bc, oc, kc, rfl, hca, -, hcc⟩ := hv.open_ hn hop hmp h0
  have HCA := Lib.hid hca
  have HCC := Lib.hid hcc
  have HR := Lib.hid hr
  have HN := Lib.hid hn
  have HOP := Lib.hid hop
  have HMP := Lib.hid hmp
  clear hca hcc hr hn hop hmp hv
  clear hok
  have T := Lib.hid hT
  clear hT
  go_enter Tryd.func8, Tryd.ntmps8
  go_wp2_with fail
  have bx0 : Box (((w.alloc (.cells #[.slice (some ⟨ba, oa, none⟩) n ka, .slice (some ⟨bb, ob, none⟩) n kb, .slice (some ⟨bc, oc, none⟩) n kc] 25)).alloc (.cells #[.int .u64 (P.wrd I 0), .int .u64 (P.wrd I 1), .int .u64 (P.wrd I 2), .int .u64 (P.wrd I 3)] 28)).alloc (.cells #[.int .u64 (P.wrd To 0), .int .u64 (P.wrd To 1), .int .u64 (P.wrd To 2), .int .u64 (P.wrd To 3)] 28)) (w.heap.size) 25 #[.slice (some ⟨ba, oa, none⟩) n ka, .slice (some ⟨bb, ob, none⟩) n kb, .slice (some ⟨bc, oc, none⟩) n kc] := Box.alloc (Box.alloc (Box.new w 25 #[.slice (some ⟨ba, oa, none⟩) n ka, .slice (some ⟨bb, ob, none⟩) n kb, .slice (some ⟨bc, oc, none⟩) n kc]) (.cells #[.int .u64 (P.wrd I 0), .int .u64 (P.wrd I 1), .int .u64 (P.wrd I 2), .int .u64 (P.wrd I 3)] 28)) (.cells #[.int .u64 (P.wrd To 0), .int .u64 (P.wrd To 1), .int .u64 (P.wrd To 2), .int .u64 (P.wrd To 3)] 28)
  have bx1 : Box (((w.alloc (.cells #[.slice (some ⟨ba, oa, none⟩) n ka, .slice (some ⟨bb, ob, none⟩) n kb, .slice (some ⟨bc, oc, none⟩) n kc] 25)).alloc (.cells #[.int .u64 (P.wrd I 0), .int .u64 (P.wrd I 1), .int .u64 (P.wrd I 2), .int .u64 (P.wrd I 3)] 28)).alloc (.cells #[.int .u64 (P.wrd To 0), .int .u64 (P.wrd To 1), .int .u64 (P.wrd To 2), .int .u64 (P.wrd To 3)] 28)) (w.heap.size + 1) 28 #[.int .u64 (P.wrd I 0), .int .u64 (P.wrd I 1), .int .u64 (P.wrd I 2), .int .u64 (P.wrd I 3)] := by
    have := Box.alloc (Box.new (w.alloc (.cells #[.slice (some ⟨ba, oa, none⟩) n ka, .slice (some ⟨bb, ob, none⟩) n kb, .slice (some ⟨bc, oc, none⟩) n kc] 25)) 28 #[.int .u64 (P.wrd I 0), .int .u64 (P.wrd I 1), .int .u64 (P.wrd I 2), .int .u64 (P.wrd I 3)]) (.cells #[.int .u64 (P.wrd To 0), .int .u64 (P.wrd To 1), .int .u64 (P.wrd To 2), .int .u64 (P.wrd To 3)] 28)
    simpa using this
  have bx2 : Box (((w.alloc (.cells #[.slice (some ⟨ba, oa, none⟩) n ka, .slice (some ⟨bb, ob, none⟩) n kb, .slice (some ⟨bc, oc, none⟩) n kc] 25)).alloc (.cells #[.int .u64 (P.wrd I 0), .int .u64 (P.wrd I 1), .int .u64 (P.wrd I 2), .int .u64 (P.wrd I 3)] 28)).alloc (.cells #[.int .u64 (P.wrd To 0), .int .u64 (P.wrd To 1), .int .u64 (P.wrd To 2), .int .u64 (P.wrd To 3)] 28)) (w.heap.size + 1 + 1) 28 #[.int .u64 (P.wrd To 0), .int .u64 (P.wrd To 1), .int .u64 (P.wrd To 2), .int .u64 (P.wrd To 3)] := by
    have := Box.new ((w.alloc (.cells #[.slice (some ⟨ba, oa, none⟩) n ka, .slice (some ⟨bb, ob, none⟩) n kb, .slice (some ⟨bc, oc, none⟩) n kc] 25)).alloc (.cells #[.int .u64 (P.wrd I 0), .int .u64 (P.wrd I 1), .int .u64 (P.wrd I 2), .int .u64 (P.wrd I 3)] 28)) 28 #[.int .u64 (P.wrd To 0), .int .u64 (P.wrd To 1), .int .u64 (P.wrd To 2), .int .u64 (P.wrd To 3)]
    simpa using this
  have hbq : Below w.heap.size w (((w.alloc (.cells #[.slice (some ⟨ba, oa, none⟩) n ka, .slice (some ⟨bb, ob, none⟩) n kb, .slice (some ⟨bc, oc, none⟩) n kc] 25)).alloc (.cells #[.int .u64 (P.wrd I 0), .int .u64 (P.wrd I 1), .int .u64 (P.wrd I 2), .int .u64 (P.wrd I 3)] 28)).alloc (.cells #[.int .u64 (P.wrd To 0), .int .u64 (P.wrd To 1), .int .u64 (P.wrd To 2), .int .u64 (P.wrd To 3)] 28)) := (((Below.refl _ w).alloc (Nat.le_refl _) _).alloc (by simp) _).alloc (by simp; omega) _
  have lt0 : w.heap.size < w.heap.size + 1 := Nat.lt_succ_self _
  have lt1 : w.heap.size + 1 < w.heap.size + 1 + 1 := Nat.lt_succ_self _
  have hle0 : w.heap.size ≤ w.heap.size := Nat.le_refl _
  generalize (((w.alloc (.cells #[.slice (some ⟨ba, oa, none⟩) n ka, .slice (some ⟨bb, ob, none⟩) n kb, .slice (some ⟨bc, oc, none⟩) n kc] 25)).alloc (.cells #[.int .u64 (P.wrd I 0), .int .u64 (P.wrd I 1), .int .u64 (P.wrd I 2), .int .u64 (P.wrd I 3)] 28)).alloc (.cells #[.int .u64 (P.wrd To 0), .int .u64 (P.wrd To 1), .int .u64 (P.wrd To 2), .int .u64 (P.wrd To 3)] 28)) = w0 at bx0 bx1 bx2 hbq  ⊢
  have BQg := Lib.hid bx0
  have BQi := Lib.hid bx1
  have BQt := Lib.hid bx2
  have W := Lib.hid hbq
  have LTgi := Lib.hid lt0
  have LTit := Lib.hid lt1
  have LEg := Lib.hid hle0
  clear hbq hle0 bx0 bx1 bx2 lt0 lt1
  generalize w.heap.size + 1 + 1 = qt at BQt LTit ⊢
  generalize w.heap.size + 1 = qi at BQi LTit LTgi ⊢
  obtain ⟨qg, hqg⟩ : ∃ qg, w.heap.size = qg := ⟨_, rfl⟩
  rw [hqg] at BQg LTgi ⊢
  have LEg : Hid (w.heap.size ≤ qg) := Lib.hid (by omega)
  clear hqg
  refine (shown_any _ (T.out.on W.out)).mono ?_
  rintro e w1 ⟨rfl, hb⟩
  replace BQg := Lib.hid (BQg.out.keep (grown_of_below hb none))
  replace BQi := Lib.hid (BQi.out.keep (grown_of_below hb none))
  replace BQt := Lib.hid (BQt.out.keep (grown_of_below hb none))
  replace W := Lib.hid (W.out.trans (hb.mono W.out.size))
  clear hb
  have hbb := BQg.out
  have gc0 : w1.cell? ⟨qg, 0, none⟩ = some (.slice (some ⟨ba, oa, none⟩) n ka) := hbb.cell 0 _ rfl
  have gc1 : w1.cell? ⟨qg, 1, none⟩ = some (.slice (some ⟨bb, ob, none⟩) n kb) := hbb.cell 1 _ rfl
  have gc2 : w1.cell? ⟨qg, 2, none⟩ = some (.slice (some ⟨bc, oc, none⟩) n kc) := hbb.cell 2 _ rfl
  clear hbb
  go_wp2_with fail
  refine (right_any g _ _ (HV.out.on W.out)).mono ?_
  rintro e w2 ⟨rfl, hb⟩
  replace BQg := Lib.hid (BQg.out.keep (grown_of_below hb none))
  replace BQi := Lib.hid (BQi.out.keep (grown_of_below hb none))
  replace BQt := Lib.hid (BQt.out.keep (grown_of_below hb none))
  replace W := Lib.hid (W.out.trans (hb.mono W.out.size))
  clear hb gc0 gc1 gc2
  obtain ⟨z, hz⟩ : ∃ z, g.right.2 = z := ⟨_, rfl⟩
  rw [hz] at hq0 ⊢
  have fq : (((z : Nat) : Int) != 0) = false := by rw [bne_eq_false_iff_eq]; omega
  clear hz hq0
  have hbb := BQg.out
  have gc0 : w2.cell? ⟨qg, 0, none⟩ = some (.slice (some ⟨ba, oa, none⟩) n ka) := hbb.cell 0 _ rfl
  have gc1 : w2.cell? ⟨qg, 1, none⟩ = some (.slice (some ⟨bb, ob, none⟩) n kb) := hbb.cell 1 _ rfl
  have gc2 : w2.cell? ⟨qg, 2, none⟩ = some (.slice (some ⟨bc, oc, none⟩) n kc) := hbb.cell 2 _ rfl
  clear hbb
  go_upto_region 6 with (fail)
  clear gc0 gc1 gc2
  refine Rg.wp_region_lit (fun idx => match idx with | 0 => (fun v _ _ => v = .agg #[.int .u64 (P.wrd I 0), .int .u64 (P.wrd I 1), .int .u64 (P.wrd I 2), .int .u64 (P.wrd I 3)]) | 1 => (fun v _ _ => v = (.int .i64 (n : Int))) | 2 => (fun v _ _ => v = .agg #[.int .u64 (P.wrd (P.full (n : Int)) 0), .int .u64 (P.wrd (P.full (n : Int)) 1), .int .u64 (P.wrd (P.full (n : Int)) 2), .int .u64 (P.wrd (P.full (n : Int)) 3)]) | 3 => (fun v _ _ => v = .agg #[.int .u64 (P.wrd (I &&& P.full (n : Int)) 0), .int .u64 (P.wrd (I &&& P.full (n : Int)) 1), .int .u64 (P.wrd (I &&& P.full (n : Int)) 2), .int .u64 (P.wrd (I &&& P.full (n : Int)) 3)]) | _ => fun _ _ _ => True) (none) 99 (by kernel_rfl) (by rfl) (by kernel_rfl) (by rfl) ?_ ?_ ?_
  · refine ⟨?_, ?_, ?_, ?_, trivial⟩
    · intro A w' K vals h hn hg hK
      have r0 : A.tmps[5]?.getD undef = .pointer (some ⟨qi, 0, none⟩) := Rg.slot h.1
      have bs := BQi.out.keep hg
      have cc0 : w'.cell? ⟨qi, 0, none⟩ = some (.int .u64 (P.wrd I 0)) := bs.cell 0 _ rfl
      have cc1 : w'.cell? ⟨qi, 1, none⟩ = some (.int .u64 (P.wrd I 1)) := bs.cell 1 _ rfl
      have cc2 : w'.cell? ⟨qi, 2, none⟩ = some (.int .u64 (P.wrd I 2)) := bs.cell 2 _ rfl
      have cc3 : w'.cell? ⟨qi, 3, none⟩ = some (.int .u64 (P.wrd I 3)) := bs.cell 3 _ rfl
      clear h hn hg bs
      simp [Oper.wp, execOp, go_sem, r0, cc0, cc1, cc2, cc3]
      exact hK _ _ (Rg.grown_refl _ _) rfl
    · intro A w' K vals h hn hg hK
      have r0 : A.tmps[12]?.getD undef = .int .i64 (n : Int) := Rg.slot (h.1)
      clear h hn hg
      simp [Oper.wp, execOp, go_sem, r0]
      exact hK _ _ (Rg.grown_refl _ _) rfl
    · intro A w' K vals h hn hg hK
      have r0 : A.tmps[50]?.getD undef = vals 1 := Rg.slot h.2.1
      have s0 : vals 1 = (.int .i64 (n : Int)) := hn.1
      clear h hn
      simp [Oper.wp, go_sem, r0, s0]
      refine (full_any (n : Int) w').mono ?_
      rintro e w'' ⟨rfl, hb⟩
      exact hK _ _ (grown_of_below hb _) rfl
    · intro A w' K vals h hn hg hK
      have r0 : A.tmps[49]?.getD undef = vals 0 := Rg.slot h.2.1
      have s0 : vals 0 = .agg #[.int .u64 (P.wrd I 0), .int .u64 (P.wrd I 1), .int .u64 (P.wrd I 2), .int .u64 (P.wrd I 3)] := hn.1
      have r1 : A.tmps[51]?.getD undef = vals 2 := Rg.slot h.2.2.1
      have s1 : vals 2 = .agg #[.int .u64 (P.wrd (P.full (n : Int)) 0), .int .u64 (P.wrd (P.full (n : Int)) 1), .int .u64 (P.wrd (P.full (n : Int)) 2), .int .u64 (P.wrd (P.full (n : Int)) 3)] := hn.2.1
      clear h hn
      simp [Oper.wp, go_sem, r0, s0, r1, s1]
      refine (and_any I (P.full (n : Int)) w').mono ?_
      rintro e w'' ⟨rfl, hb⟩
      exact hK _ _ (grown_of_below hb _) rfl
  · refine ⟨?_, ?_, ?_, ?_, trivial⟩
    · exact fun _ _ _ _ _ _ h => h
    · exact fun _ _ _ _ _ _ h => h
    · exact fun _ _ _ _ _ _ h => h
    · exact fun _ _ _ _ _ _ h => h
  · intro vals w3 G hg hS hG
    have s3 : vals 3 = .agg #[.int .u64 (P.wrd (I &&& P.full (n : Int)) 0), .int .u64 (P.wrd (I &&& P.full (n : Int)) 1), .int .u64 (P.wrd (I &&& P.full (n : Int)) 2), .int .u64 (P.wrd (I &&& P.full (n : Int)) 3)] := hS.2.2.2.1
    clear hS
    have hb := below_of_grown hg
    replace BQg := Lib.hid (BQg.out.keep (grown_of_below hb none))
    replace BQi := Lib.hid (BQi.out.keep (grown_of_below hb none))
    replace BQt := Lib.hid (BQt.out.keep (grown_of_below hb none))
    replace W := Lib.hid (W.out.trans (hb.mono W.out.size))
    clear hb hg
    have hbb := BQi.out
    have ic0 : w3.cell? ⟨qi, 0, none⟩ = some (.int .u64 (P.wrd I 0)) := hbb.cell 0 _ rfl
    have ic1 : w3.cell? ⟨qi, 1, none⟩ = some (.int .u64 (P.wrd I 1)) := hbb.cell 1 _ rfl
    have ic2 : w3.cell? ⟨qi, 2, none⟩ = some (.int .u64 (P.wrd I 2)) := hbb.cell 2 _ rfl
    have ic3 : w3.cell? ⟨qi, 3, none⟩ = some (.int .u64 (P.wrd I 3)) := hbb.cell 3 _ rfl
    have if0 : w3.frozen? ⟨qi, 0, none⟩ = false := hbb.frozen 0
    have if1 : w3.frozen? ⟨qi, 1, none⟩ = false := hbb.frozen 1
    have if2 : w3.frozen? ⟨qi, 2, none⟩ = false := hbb.frozen 2
    have if3 : w3.frozen? ⟨qi, 3, none⟩ = false := hbb.frozen 3
    clear hbb
    refine hG ?_
    clear hG
    simp [List.dropLast, Rg.putAll, Oper.wp, execOp, go_sem, s3, ic0, ic1, ic2, ic3, if0, if1, if2, if3]
    clear s3 ic0 ic1 ic2 ic3 if0 if1 if2 if3
    have BQi := Lib.hid (show Box ((((w3.setCell ⟨qi, 0, none⟩ (.int .u64 (P.wrd (I &&& P.full (n : Int)) 0))).setCell ⟨qi, 1, none⟩ (.int .u64 (P.wrd (I &&& P.full (n : Int)) 1))).setCell ⟨qi, 2, none⟩ (.int .u64 (P.wrd (I &&& P.full (n : Int)) 2))).setCell ⟨qi, 3, none⟩ (.int .u64 (P.wrd (I &&& P.full (n : Int)) 3))) qi 28 #[.int .u64 (P.wrd (I &&& P.full (n : Int)) 0), .int .u64 (P.wrd (I &&& P.full (n : Int)) 1), .int .u64 (P.wrd (I &&& P.full (n : Int)) 2), .int .u64 (P.wrd (I &&& P.full (n : Int)) 3)] from Blk.store (show Blk w3 qi I 28 from BQi.out) (I &&& P.full (n : Int)))
    have BQg := Lib.hid (far4 (.int .u64 (P.wrd (I &&& P.full (n : Int)) 0)) (.int .u64 (P.wrd (I &&& P.full (n : Int)) 1)) (.int .u64 (P.wrd (I &&& P.full (n : Int)) 2)) (.int .u64 (P.wrd (I &&& P.full (n : Int)) 3)) BQg.out (show qg ≠ qi by have := LTgi.out; omega))
    have BQt := Lib.hid (far4 (.int .u64 (P.wrd (I &&& P.full (n : Int)) 0)) (.int .u64 (P.wrd (I &&& P.full (n : Int)) 1)) (.int .u64 (P.wrd (I &&& P.full (n : Int)) 2)) (.int .u64 (P.wrd (I &&& P.full (n : Int)) 3)) BQt.out (show qt ≠ qi by have := LTit.out; omega))
    replace W := Lib.hid (W.out.trans (below4 (w := w3) (q := qi) (.int .u64 (P.wrd (I &&& P.full (n : Int)) 0)) (.int .u64 (P.wrd (I &&& P.full (n : Int)) 1)) (.int .u64 (P.wrd (I &&& P.full (n : Int)) 2)) (.int .u64 (P.wrd (I &&& P.full (n : Int)) 3)) (by have := LTgi.out; have := LEg.out; omega)))
    generalize ((((w3.setCell ⟨qi, 0, none⟩ (.int .u64 (P.wrd (I &&& P.full (n : Int)) 0))).setCell ⟨qi, 1, none⟩ (.int .u64 (P.wrd (I &&& P.full (n : Int)) 1))).setCell ⟨qi, 2, none⟩ (.int .u64 (P.wrd (I &&& P.full (n : Int)) 2))).setCell ⟨qi, 3, none⟩ (.int .u64 (P.wrd (I &&& P.full (n : Int)) 3))) = w4 at BQg BQi BQt W ⊢
    have HW1 := Lib.hid W.out.size
    have hbb := BQg.out
    have gc0 : w4.cell? ⟨qg, 0, none⟩ = some (.slice (some ⟨ba, oa, none⟩) n ka) := hbb.cell 0 _ rfl
    have gc1 : w4.cell? ⟨qg, 1, none⟩ = some (.slice (some ⟨bb, ob, none⟩) n kb) := hbb.cell 1 _ rfl
    have gc2 : w4.cell? ⟨qg, 2, none⟩ = some (.slice (some ⟨bc, oc, none⟩) n kc) := hbb.cell 2 _ rfl
    clear hbb
    go_wp2_with fail
    have LOf := Lib.hid (Nat.le_refl w4.heap.size)
    refine (copy_any g _ _ (HV.out.on W.out)).mono ?_
    rintro e y1 ⟨fav, fbv, fcv, fL, rfl, ho, hb⟩
    obtain ⟨fa, fka, fb, fkb, fc, fkc, rfl, rfl, rfl⟩ := ho.forms
    rw [HN.out, HOP.out, HMP.out] at ho ⊢
    replace BQg := Lib.hid (BQg.out.keep (grown_of_below hb none))
    replace BQi := Lib.hid (BQi.out.keep (grown_of_below hb none))
    replace BQt := Lib.hid (BQt.out.keep (grown_of_below hb none))
    replace W := Lib.hid (W.out.trans (hb.mono W.out.size))
    have Of := Lib.hid ho
    have Uf := Lib.hid ho.under
    have SZf := Lib.hid hb.size
    clear hb ho gc0 gc1 gc2
    go_upto_region 8 with (fail)
    have Wfy := Lib.hid (Below.refl y1.heap.size y1)
    have bq : Box (y1.alloc (.cells #[.slice fa n fka, .slice fb n fkb, .slice fc n fkc] 25)) y1.heap.size 25 #[.slice fa n fka, .slice fb n fkb, .slice fc n fkc] := Box.new _ _ _
    have hgq := World.grownBy_alloc y1 (.cells #[.slice fa n fka, .slice fb n fkb, .slice fc n fkc] 25) none
    replace BQg := Lib.hid (BQg.out.keep hgq)
    replace BQi := Lib.hid (BQi.out.keep hgq)
    replace BQt := Lib.hid (BQt.out.keep hgq)
    replace W := Lib.hid (W.out.trans ((below_of_grown hgq).mono W.out.size))
    replace Of := Lib.hid (Of.out.grown hgq)
    replace Wfy := Lib.hid (Wfy.out.trans ((below_of_grown hgq).mono Wfy.out.size))
    generalize (y1.alloc (.cells #[.slice fa n fka, .slice fb n fkb, .slice fc n fkc] 25)) = x2 at bq BQg BQi BQt W Of Wfy ⊢
    generalize y1.heap.size = qf at bq ⊢
    have BQf := Lib.hid bq
    clear bq hgq
    have HYf := Lib.hid Wfy.out.size
    clear Wfy
    have hbb := BQg.out
    have gc0 : x2.cell? ⟨qg, 0, none⟩ = some (.slice (some ⟨ba, oa, none⟩) n ka) := hbb.cell 0 _ rfl
    have gc1 : x2.cell? ⟨qg, 1, none⟩ = some (.slice (some ⟨bb, ob, none⟩) n kb) := hbb.cell 1 _ rfl
    have gc2 : x2.cell? ⟨qg, 2, none⟩ = some (.slice (some ⟨bc, oc, none⟩) n kc) := hbb.cell 2 _ rfl
    clear hbb
    go_wp2_with fail
    have LOh := Lib.hid (Nat.le_refl x2.heap.size)
    refine (copy_any g _ _ (HV.out.on W.out)).mono ?_
    rintro e y2 ⟨hav, hbv, hcv, hL, rfl, ho, hb⟩
    obtain ⟨ha, hka, hb_, hkb, hc, hkc, rfl, rfl, rfl⟩ := ho.forms
    rw [HN.out, HOP.out, HMP.out] at ho ⊢
    replace BQg := Lib.hid (BQg.out.keep (grown_of_below hb none))
    replace BQi := Lib.hid (BQi.out.keep (grown_of_below hb none))
    replace BQt := Lib.hid (BQt.out.keep (grown_of_below hb none))
    replace W := Lib.hid (W.out.trans (hb.mono W.out.size))
    replace BQf := Lib.hid (BQf.out.keep (grown_of_below hb none))
    replace Of := Lib.hid (Of.out.grown (grown_of_below hb none))
    have Oh := Lib.hid ho
    have Uh := Lib.hid ho.under
    have SZh := Lib.hid hb.size
    clear hb ho gc0 gc1 gc2
    go_upto_region 9 with (fail)
    have Why := Lib.hid (Below.refl y2.heap.size y2)
    have bq : Box (y2.alloc (.cells #[.slice ha n hka, .slice hb_ n hkb, .slice hc n hkc] 25)) y2.heap.size 25 #[.slice ha n hka, .slice hb_ n hkb, .slice hc n hkc] := Box.new _ _ _
    have hgq := World.grownBy_alloc y2 (.cells #[.slice ha n hka, .slice hb_ n hkb, .slice hc n hkc] 25) none
    replace BQg := Lib.hid (BQg.out.keep hgq)
    replace BQi := Lib.hid (BQi.out.keep hgq)
    replace BQt := Lib.hid (BQt.out.keep hgq)
    replace W := Lib.hid (W.out.trans ((below_of_grown hgq).mono W.out.size))
    replace BQf := Lib.hid (BQf.out.keep hgq)
    replace Of := Lib.hid (Of.out.grown hgq)
    replace Oh := Lib.hid (Oh.out.grown hgq)
    replace Why := Lib.hid (Why.out.trans ((below_of_grown hgq).mono Why.out.size))
    generalize (y2.alloc (.cells #[.slice ha n hka, .slice hb_ n hkb, .slice hc n hkc] 25)) = x3 at bq BQg BQi BQt W BQf Of Oh Why ⊢
    generalize y2.heap.size = qh at bq ⊢
    have BQh := Lib.hid bq
    clear bq hgq
    have HYh := Lib.hid Why.out.size
    clear Why
    have hn0 : 0 < g.owner.length := by have := HN.out; omega
    obtain ⟨pf, kf2, ef, lf1, lf2, -, -⟩ := own_form Of.out.owner hn0
    rw [HN.out] at ef
    obtain ⟨rfl, -, rfl⟩ : fa = some ⟨pf, 0, none⟩ ∧ n = n ∧ fka = kf2 := by injection ef with h1 h2 h3; exact ⟨h1, h2, h3⟩
    obtain ⟨ph, kh2, eh, lh1, lh2, -, -⟩ := own_form Oh.out.owner hn0
    rw [HN.out] at eh
    obtain ⟨rfl, -, rfl⟩ : ha = some ⟨ph, 0, none⟩ ∧ n = n ∧ hka = kh2 := by injection eh with h1 h2 h3; exact ⟨h1, h2, h3⟩
    have hfm : pf < x2.heap.size := Nat.lt_of_lt_of_le (Uf.out 0 _ pf rfl rfl) HYf.out
    have HPF := Lib.hid (show w.heap.size ≤ pf ∧ pf < x2.heap.size ∧ x2.heap.size ≤ ph ∧ ph < x3.heap.size from ⟨by have := HW1.out; omega, hfm, lh1, lh2⟩)
    have HW3 := Lib.hid W.out
    have Lg := Lib.hid BQg.out.lt
    clear ef eh hn0 lf1 lf2 lh1 lh2 hfm
    go_wp2_with fail
    go_loopw [15] (fun i wr => ∃ j : Nat, j ≤ n ∧ i = .int .i64 (j : Int) ∧ Rk.Keeps (KX x3.heap.size [pf, ph]) x3 wr ∧ OwnG wr w4.heap.size (.slice (some ⟨pf, 0, none⟩) n fka) (.slice fb n fkb) (.slice fc n fkc) fL (g.given 0 j) ∧ OwnG wr x2.heap.size (.slice (some ⟨ph, 0, none⟩) n hka) (.slice hb_ n hkb) (.slice hc n hkc) hL (g.given 1 j)) (fun i _ => n - (intOf i).toNat)
    case atStart => exact ⟨0, Nat.zero_le _, rfl, Rk.Keeps.refl _ _, by rw [P.G.given_zero]; exact Of.out, by rw [P.G.given_zero]; exact Oh.out⟩
    case round =>
      obtain ⟨j, hj, rfl, hk, hof, hoh⟩ := hrel
      have HK := Lib.hid hk
      have HOF := Lib.hid hof
      have HOH := Lib.hid hoh
      clear hk hof hoh
      have hj0 : (0 : Int) ≤ (j : Int) := Int.natCast_nonneg _
      have HX : Hid (∀ x ∈ [pf, ph], w.heap.size ≤ x) := Lib.hid (fun x hx => by
        have h1 := HPF.out
        have h2 := HW3.out.size
        simp only [List.mem_cons, List.not_mem_nil, or_false] at hx
        rcases hx with rfl | rfl <;> omega)
      have hbx : ∀ {q : Nat} {t : TypeId} {cs : Array Value}, Box x3 q t cs → t ≠ 3 → Box wr q t cs := fun {q t cs} h ht => kx_box HK.out h h.lt (fun e => by
        simp only [List.mem_cons, List.not_mem_nil, or_false] at e
        rcases e with rfl | rfl
        · exact own_box Of.out.owner h (fun e => ht e.symm) rfl
        · exact own_box Oh.out.owner h (fun e => ht e.symm) rfl)
      have BQg := Lib.hid (hbx BQg.out (by decide))
      have BQi := Lib.hid (hbx BQi.out (by decide))
      have BQt := Lib.hid (hbx BQt.out (by decide))
      have BQf := Lib.hid (hbx BQf.out (by decide))
      have BQh := Lib.hid (hbx BQh.out (by decide))
      have W := Lib.hid (HW3.out.trans (kx_below HK.out HX.out HW3.out.size (Nat.le_refl _)))
      clear hbx
      have hbb := BQg.out
      have gc0 : wr.cell? ⟨qg, 0, none⟩ = some (.slice (some ⟨ba, oa, none⟩) n ka) := hbb.cell 0 _ rfl
      have gc1 : wr.cell? ⟨qg, 1, none⟩ = some (.slice (some ⟨bb, ob, none⟩) n kb) := hbb.cell 1 _ rfl
      have gc2 : wr.cell? ⟨qg, 2, none⟩ = some (.slice (some ⟨bc, oc, none⟩) n kc) := hbb.cell 2 _ rfl
      clear hbb
      by_cases hlt : j < n
      · have fj : decide ((j : Int) < (n : Int)) = true := decide_eq_true (by omega)
        have hji : (j : Int) < (n : Int) := by omega
        have hbb := BQf.out
        have fc0 : wr.cell? ⟨qf, 0, none⟩ = some (.slice (some ⟨pf, 0, none⟩) n fka) := hbb.cell 0 _ rfl
        have fc1 : wr.cell? ⟨qf, 1, none⟩ = some (.slice fb n fkb) := hbb.cell 1 _ rfl
        have fc2 : wr.cell? ⟨qf, 2, none⟩ = some (.slice fc n fkc) := hbb.cell 2 _ rfl
        clear hbb
        obtain ⟨z1, cf, ff⟩ := HOF.out.cellO (j := j) (by rw [P.G.given_len, HN.out]; exact hlt)
        have HOF2 := Lib.hid (HOF.out.give (by rw [HN.out]; exact hlt))
        have HOH1 := Lib.hid (HOH.out.below_ (x := pf) HPF.out.2.1 j (.int .i64 0))
        have HK2 := Lib.hid (HK.out.trans (kx_set wr (x := pf) (.inl (by simp)) j (.int .i64 0)))
        replace BQh := Lib.hid (BQh.out.far (p := ⟨pf, j, none⟩) (fun e => own_box HOF.out.owner BQh.out (by decide) (by show some pf = some qh; rw [e])) (.int .i64 0))
        go_upto_region 13 with (fail)
        clear cf ff fc0 fc1 fc2 gc0 gc1 gc2
        generalize (wr.setCell ⟨pf, j, none⟩ (.int .i64 0)) = wv at HOF2 HOH1 HK2 BQh ⊢
        obtain ⟨z2, cf, ff⟩ := HOH1.out.cellO (j := j) (by rw [P.G.given_len, HN.out]; exact hlt)
        have hbb := BQh.out
        have hc0 : wv.cell? ⟨qh, 0, none⟩ = some (.slice (some ⟨ph, 0, none⟩) n hka) := hbb.cell 0 _ rfl
        have hc1 : wv.cell? ⟨qh, 1, none⟩ = some (.slice hb_ n hkb) := hbb.cell 1 _ rfl
        have hc2 : wv.cell? ⟨qh, 2, none⟩ = some (.slice hc n hkc) := hbb.cell 2 _ rfl
        clear hbb
        have HOH2 := Lib.hid (HOH1.out.give (by rw [HN.out]; exact hlt))
        have HOF3 := Lib.hid (HOF2.out.above (M := x2.heap.size) (fun i u q hu hq => Nat.lt_of_lt_of_le (Uf.out i u q hu hq) HYf.out) HPF.out.2.2.1 j (.int .i64 1))
        have HK3 := Lib.hid (HK2.out.trans (kx_set wv (x := ph) (.inl (by simp)) j (.int .i64 1)))
        go_wp2_with fail
        go_roundw
        case rel => exact ⟨j + 1, by omega, by go_num, HK3.out, HOF3.out, HOH2.out⟩
        case measure => simp [intOf]; omega
      · have fj : decide ((j : Int) < (n : Int)) = false := decide_eq_false (by omega)
        have hjn : j = n := by omega
        have GF := Lib.hid (show GameV wr (.agg #[.slice (some ⟨pf, 0, none⟩) n fka, .slice fb n fkb, .slice fc n fkc]) (g.all 0) from by
          have h := HOF.out
          rw [P.G.given_all g 0 j (by have := HN.out; omega)] at h
          exact h.game (fits_all HFI.out 0))
        have GH := Lib.hid (show GameV wr (.agg #[.slice (some ⟨ph, 0, none⟩) n hka, .slice hb_ n hkb, .slice hc n hkc]) (g.all 1) from by
          have h := HOH.out
          rw [P.G.given_all g 1 j (by have := HN.out; omega)] at h
          exact h.game (fits_all HFI.out 1))
        clear hjn
        go_upto_region 14 with (fail)
        clear gc0 gc1 gc2
        obtain ⟨wA, rfl⟩ : ∃ wA : World, wA = wr := ⟨_, rfl⟩
        have HWA := Lib.hid W.out
        have HBQg := Lib.hid BQg.out
        have HBQi := Lib.hid BQi.out
        have HBQt := Lib.hid BQt.out
        have HBQf := Lib.hid BQf.out
        have HBQh := Lib.hid BQh.out
        have HGF := Lib.hid GF.out
        have HGH := Lib.hid GH.out
        have WB := Lib.hid (Below.refl wA.heap.size wA)
        have hbb := BQi.out
        have ic0 : wA.cell? ⟨qi, 0, none⟩ = some (.int .u64 (P.wrd (I &&& P.full (n : Int)) 0)) := hbb.cell 0 _ rfl
        have ic1 : wA.cell? ⟨qi, 1, none⟩ = some (.int .u64 (P.wrd (I &&& P.full (n : Int)) 1)) := hbb.cell 1 _ rfl
        have ic2 : wA.cell? ⟨qi, 2, none⟩ = some (.int .u64 (P.wrd (I &&& P.full (n : Int)) 2)) := hbb.cell 2 _ rfl
        have ic3 : wA.cell? ⟨qi, 3, none⟩ = some (.int .u64 (P.wrd (I &&& P.full (n : Int)) 3)) := hbb.cell 3 _ rfl
        clear hbb
        have hbb := BQt.out
        have tc0 : wA.cell? ⟨qt, 0, none⟩ = some (.int .u64 (P.wrd To 0)) := hbb.cell 0 _ rfl
        have tc1 : wA.cell? ⟨qt, 1, none⟩ = some (.int .u64 (P.wrd To 1)) := hbb.cell 1 _ rfl
        have tc2 : wA.cell? ⟨qt, 2, none⟩ = some (.int .u64 (P.wrd To 2)) := hbb.cell 2 _ rfl
        have tc3 : wA.cell? ⟨qt, 3, none⟩ = some (.int .u64 (P.wrd To 3)) := hbb.cell 3 _ rfl
        clear hbb
        go_wp2_with fail
        refine (and_any To (I &&& P.full (n : Int)) _).mono ?_
        rintro e v1 ⟨rfl, hb⟩
        replace BQi := Lib.hid (BQi.out.keep (grown_of_below hb none))
        replace BQt := Lib.hid (BQt.out.keep (grown_of_below hb none))
        replace WB := Lib.hid (WB.out.trans (hb.mono WB.out.size))
        clear hb ic0 ic1 ic2 ic3 tc0 tc1 tc2 tc3
        go_upto_region 15 with (fail)
        have LWA := Lib.hid WB.out.size
        have bq : Box (v1.alloc (.cells #[.int .u64 (P.wrd (To &&& (I &&& P.full (n : Int))) 0), .int .u64 (P.wrd (To &&& (I &&& P.full (n : Int))) 1), .int .u64 (P.wrd (To &&& (I &&& P.full (n : Int))) 2), .int .u64 (P.wrd (To &&& (I &&& P.full (n : Int))) 3)] 28)) v1.heap.size 28 #[.int .u64 (P.wrd (To &&& (I &&& P.full (n : Int))) 0), .int .u64 (P.wrd (To &&& (I &&& P.full (n : Int))) 1), .int .u64 (P.wrd (To &&& (I &&& P.full (n : Int))) 2), .int .u64 (P.wrd (To &&& (I &&& P.full (n : Int))) 3)] := Box.new _ _ _
        have hgq := World.grownBy_alloc v1 (.cells #[.int .u64 (P.wrd (To &&& (I &&& P.full (n : Int))) 0), .int .u64 (P.wrd (To &&& (I &&& P.full (n : Int))) 1), .int .u64 (P.wrd (To &&& (I &&& P.full (n : Int))) 2), .int .u64 (P.wrd (To &&& (I &&& P.full (n : Int))) 3)] 28) none
        replace BQi := Lib.hid (BQi.out.keep hgq)
        replace BQt := Lib.hid (BQt.out.keep hgq)
        replace WB := Lib.hid (WB.out.trans ((below_of_grown hgq).mono WB.out.size))
        generalize (v1.alloc (.cells #[.int .u64 (P.wrd (To &&& (I &&& P.full (n : Int))) 0), .int .u64 (P.wrd (To &&& (I &&& P.full (n : Int))) 1), .int .u64 (P.wrd (To &&& (I &&& P.full (n : Int))) 2), .int .u64 (P.wrd (To &&& (I &&& P.full (n : Int))) 3)] 28)) = v2 at bq BQi BQt WB ⊢
        have LQS : Hid (wA.heap.size ≤ v1.heap.size) := Lib.hid LWA.out
        clear LWA
        generalize v1.heap.size = qs at bq LQS ⊢
        have BQs := Lib.hid bq
        clear bq hgq
        have hbb := BQi.out
        have ic0 : v2.cell? ⟨qi, 0, none⟩ = some (.int .u64 (P.wrd (I &&& P.full (n : Int)) 0)) := hbb.cell 0 _ rfl
        have ic1 : v2.cell? ⟨qi, 1, none⟩ = some (.int .u64 (P.wrd (I &&& P.full (n : Int)) 1)) := hbb.cell 1 _ rfl
        have ic2 : v2.cell? ⟨qi, 2, none⟩ = some (.int .u64 (P.wrd (I &&& P.full (n : Int)) 2)) := hbb.cell 2 _ rfl
        have ic3 : v2.cell? ⟨qi, 3, none⟩ = some (.int .u64 (P.wrd (I &&& P.full (n : Int)) 3)) := hbb.cell 3 _ rfl
        clear hbb
        have hbb := BQt.out
        have tc0 : v2.cell? ⟨qt, 0, none⟩ = some (.int .u64 (P.wrd To 0)) := hbb.cell 0 _ rfl
        have tc1 : v2.cell? ⟨qt, 1, none⟩ = some (.int .u64 (P.wrd To 1)) := hbb.cell 1 _ rfl
        have tc2 : v2.cell? ⟨qt, 2, none⟩ = some (.int .u64 (P.wrd To 2)) := hbb.cell 2 _ rfl
        have tc3 : v2.cell? ⟨qt, 3, none⟩ = some (.int .u64 (P.wrd To 3)) := hbb.cell 3 _ rfl
        clear hbb
        go_wp2_with fail
        refine (minus_any (I &&& P.full (n : Int)) To _).mono ?_
        rintro e v3 ⟨rfl, hb⟩
        replace BQs := Lib.hid (BQs.out.keep (grown_of_below hb none))
        replace WB := Lib.hid (WB.out.trans (hb.mono WB.out.size))
        clear hb ic0 ic1 ic2 ic3 tc0 tc1 tc2 tc3
        go_upto_region 16 with (fail)
        have LQS2 := Lib.hid BQs.out.lt
        have bq : Box (v3.alloc (.cells #[.int .u64 (P.wrd ((I &&& P.full (n : Int)) &&& ~~~To) 0), .int .u64 (P.wrd ((I &&& P.full (n : Int)) &&& ~~~To) 1), .int .u64 (P.wrd ((I &&& P.full (n : Int)) &&& ~~~To) 2), .int .u64 (P.wrd ((I &&& P.full (n : Int)) &&& ~~~To) 3)] 28)) v3.heap.size 28 #[.int .u64 (P.wrd ((I &&& P.full (n : Int)) &&& ~~~To) 0), .int .u64 (P.wrd ((I &&& P.full (n : Int)) &&& ~~~To) 1), .int .u64 (P.wrd ((I &&& P.full (n : Int)) &&& ~~~To) 2), .int .u64 (P.wrd ((I &&& P.full (n : Int)) &&& ~~~To) 3)] := Box.new _ _ _
        have hgq := World.grownBy_alloc v3 (.cells #[.int .u64 (P.wrd ((I &&& P.full (n : Int)) &&& ~~~To) 0), .int .u64 (P.wrd ((I &&& P.full (n : Int)) &&& ~~~To) 1), .int .u64 (P.wrd ((I &&& P.full (n : Int)) &&& ~~~To) 2), .int .u64 (P.wrd ((I &&& P.full (n : Int)) &&& ~~~To) 3)] 28) none
        replace BQs := Lib.hid (BQs.out.keep hgq)
        replace WB := Lib.hid (WB.out.trans ((below_of_grown hgq).mono WB.out.size))
        generalize (v3.alloc (.cells #[.int .u64 (P.wrd ((I &&& P.full (n : Int)) &&& ~~~To) 0), .int .u64 (P.wrd ((I &&& P.full (n : Int)) &&& ~~~To) 1), .int .u64 (P.wrd ((I &&& P.full (n : Int)) &&& ~~~To) 2), .int .u64 (P.wrd ((I &&& P.full (n : Int)) &&& ~~~To) 3)] 28)) = v4 at bq BQs WB ⊢
        generalize v3.heap.size = qv at bq LQS2 ⊢
        have BQv := Lib.hid bq
        clear bq hgq
        have HQ_ := Lib.hid (show wA.heap.size ≤ qs ∧ wA.heap.size ≤ qv ∧ qs < qv from ⟨LQS.out, by have h1 := LQS.out; have h2 := LQS2.out; omega, LQS2.out⟩)
        have HGI := Lib.hid (show qg < wA.heap.size ∧ qi < wA.heap.size from ⟨HBQg.out.lt, HBQi.out.lt⟩)
        have HQSV := Lib.hid BQs.out
        have HQVV := Lib.hid BQv.out
        have HWBV := Lib.hid WB.out
        have LWB : Hid (wA.heap.size ≤ wA.heap.size) := Lib.hid (Nat.le_refl _)
        clear BQs BQv WB BQg BQi BQt BQf BQh GF GH W
        go_wp2_with fail
        go_loopw [18] (fun i wr => ∃ r : Nat, r ≤ n + 1 ∧ i = .int .i64 (r : Int) ∧ Below wA.heap.size wA wr ∧ Box wr qs 28 #[.int .u64 (P.wrd (P.iter (fun s => (List.range n).foldl (P.upS g (I &&& P.full (n : Int))) s) r (To &&& (I &&& P.full (n : Int)))) 0), .int .u64 (P.wrd (P.iter (fun s => (List.range n).foldl (P.upS g (I &&& P.full (n : Int))) s) r (To &&& (I &&& P.full (n : Int)))) 1), .int .u64 (P.wrd (P.iter (fun s => (List.range n).foldl (P.upS g (I &&& P.full (n : Int))) s) r (To &&& (I &&& P.full (n : Int)))) 2), .int .u64 (P.wrd (P.iter (fun s => (List.range n).foldl (P.upS g (I &&& P.full (n : Int))) s) r (To &&& (I &&& P.full (n : Int)))) 3)] ∧ Box wr qv 28 #[.int .u64 (P.wrd (P.iter (fun s => (List.range n).foldl (P.upT g (I &&& P.full (n : Int))) s) r ((I &&& P.full (n : Int)) &&& ~~~To)) 0), .int .u64 (P.wrd (P.iter (fun s => (List.range n).foldl (P.upT g (I &&& P.full (n : Int))) s) r ((I &&& P.full (n : Int)) &&& ~~~To)) 1), .int .u64 (P.wrd (P.iter (fun s => (List.range n).foldl (P.upT g (I &&& P.full (n : Int))) s) r ((I &&& P.full (n : Int)) &&& ~~~To)) 2), .int .u64 (P.wrd (P.iter (fun s => (List.range n).foldl (P.upT g (I &&& P.full (n : Int))) s) r ((I &&& P.full (n : Int)) &&& ~~~To)) 3)]) (fun i _ => n + 1 - (intOf i).toNat)
        case atStart => exact ⟨0, Nat.zero_le _, rfl, HWBV.out, HQSV.out, HQVV.out⟩
        case round =>
          obtain ⟨r, hr, rfl, hwb, hs_, hv_⟩ := hrel
          have WB := Lib.hid hwb
          have BQs := Lib.hid hs_
          have BQv := Lib.hid hv_
          clear hwb hs_ hv_
          have hr0 : (0 : Int) ≤ (r : Int) := Int.natCast_nonneg _
          by_cases hlr : r ≤ n
          · have fr : decide ((r : Int) ≤ (n : Int)) = true := decide_eq_true (by omega)
            obtain ⟨s0, hs0⟩ : ∃ s, P.iter (fun s => (List.range n).foldl (P.upS g (I &&& P.full (n : Int))) s) r (To &&& (I &&& P.full (n : Int))) = s := ⟨_, rfl⟩
            obtain ⟨t0, ht0⟩ : ∃ s, P.iter (fun s => (List.range n).foldl (P.upT g (I &&& P.full (n : Int))) s) r ((I &&& P.full (n : Int)) &&& ~~~To) = s := ⟨_, rfl⟩
            rw [hs0] at BQs
            rw [ht0] at BQv
            have HS0 := Lib.hid hs0
            have HT0 := Lib.hid ht0
            clear hs0 ht0
            obtain ⟨wo, rfl⟩ : ∃ wo : World, wo = wr := ⟨_, rfl⟩
            go_wp2_with fail
            go_loopw [19] (fun i wr => ∃ j : Nat, j ≤ n ∧ i = .int .i64 (j : Int) ∧ Below wA.heap.size wA wr ∧ Box wr qs 28 #[.int .u64 (P.wrd ((List.range j).foldl (P.upS g (I &&& P.full (n : Int))) s0) 0), .int .u64 (P.wrd ((List.range j).foldl (P.upS g (I &&& P.full (n : Int))) s0) 1), .int .u64 (P.wrd ((List.range j).foldl (P.upS g (I &&& P.full (n : Int))) s0) 2), .int .u64 (P.wrd ((List.range j).foldl (P.upS g (I &&& P.full (n : Int))) s0) 3)] ∧ Box wr qv 28 #[.int .u64 (P.wrd ((List.range j).foldl (P.upT g (I &&& P.full (n : Int))) t0) 0), .int .u64 (P.wrd ((List.range j).foldl (P.upT g (I &&& P.full (n : Int))) t0) 1), .int .u64 (P.wrd ((List.range j).foldl (P.upT g (I &&& P.full (n : Int))) t0) 2), .int .u64 (P.wrd ((List.range j).foldl (P.upT g (I &&& P.full (n : Int))) t0) 3)]) (fun i _ => n - (intOf i).toNat)
            case atStart => exact ⟨0, Nat.zero_le _, rfl, WB.out, BQs.out, BQv.out⟩
            case round =>
              clear BQs BQv WB
              obtain ⟨j, hj, rfl, hwb, hs_, hv_⟩ := hrel
              obtain ⟨s, hs1⟩ : ∃ s, (List.range j).foldl (P.upS g (I &&& P.full (n : Int))) s0 = s := ⟨_, rfl⟩
              obtain ⟨t, ht1⟩ : ∃ t, (List.range j).foldl (P.upT g (I &&& P.full (n : Int))) t0 = t := ⟨_, rfl⟩
              rw [hs1] at hs_
              rw [ht1] at hv_
              have WB := Lib.hid hwb
              have BQs := Lib.hid hs_
              have BQv := Lib.hid hv_
              have HSJ := Lib.hid hs1
              have HTJ := Lib.hid ht1
              clear hwb hs_ hv_ hs1 ht1
              have hj0 : (0 : Int) ≤ (j : Int) := Int.natCast_nonneg _
              by_cases hlt : j < n
              · have fj : decide ((j : Int) < (n : Int)) = true := decide_eq_true (by omega)
                have hji : (j : Int) < (n : Int) := by omega
                have BQg := Lib.hid (HBQg.out.keep (grown_of_below WB.out none))
                have BQi := Lib.hid (HBQi.out.keep (grown_of_below WB.out none))
                have hww := HWA.out.trans (WB.out.mono HWA.out.size)
                obtain ⟨xv, hcx, hxv⟩ := HCC.out wr hww j hlt
                obtain ⟨ms, hms⟩ : ∃ ms, g.moves.getD j [] = ms := ⟨_, rfl⟩
                rw [hms] at hxv
                have IX := Lib.hid hxv
                obtain ⟨mo, mk, rfl, -, -⟩ := hxv
                have HCX := Lib.hid hcx
                have HMS := Lib.hid hms
                have LWR := Lib.hid WB.out.size
                have Lg := Lib.hid BQg.out.lt
                have Li := Lib.hid BQi.out.lt
                have Ls := Lib.hid BQs.out.lt
                have Lv := Lib.hid BQv.out.lt
                clear hms hcx hww
                go_upto_region 22 with (fail)
                refine Rg.wp_region_lit (fun idx => match idx with | 0 => (fun v _ _ => v = (.pointer (some ⟨qg, 2, none⟩))) | 1 => (fun v _ _ => v = (.slice (some ⟨bc, oc, none⟩) n kc)) | 2 => (fun v _ _ => v = (.int .i64 (j : Int))) | 3 => (fun v _ _ => v = (.pointer (some ⟨bc, oc + j, none⟩))) | 4 => (fun v _ _ => v = (.slice mo ms.length mk)) | 5 => (fun v _ _ => v = .agg #[.int .u64 (P.wrd (P.ofL ms) 0), .int .u64 (P.wrd (P.ofL ms) 1), .int .u64 (P.wrd (P.ofL ms) 2), .int .u64 (P.wrd (P.ofL ms) 3)]) | 6 => (fun v _ _ => v = .agg #[.int .u64 (P.wrd (I &&& P.full (n : Int)) 0), .int .u64 (P.wrd (I &&& P.full (n : Int)) 1), .int .u64 (P.wrd (I &&& P.full (n : Int)) 2), .int .u64 (P.wrd (I &&& P.full (n : Int)) 3)]) | 7 => (fun v _ _ => v = .agg #[.int .u64 (P.wrd (P.ofL ms &&& (I &&& P.full (n : Int))) 0), .int .u64 (P.wrd (P.ofL ms &&& (I &&& P.full (n : Int))) 1), .int .u64 (P.wrd (P.ofL ms &&& (I &&& P.full (n : Int))) 2), .int .u64 (P.wrd (P.ofL ms &&& (I &&& P.full (n : Int))) 3)]) | 8 => (fun v _ w' => ∃ qp, v = .pointer (some ⟨qp, 0, none⟩) ∧ wr.heap.size ≤ qp ∧ Box w' qp 28 #[.int .u64 0, .int .u64 0, .int .u64 0, .int .u64 0]) | _ => fun _ _ _ => True) (none) 99 (by kernel_rfl) (by rfl) (by kernel_rfl) (by rfl) ?_ ?_ ?_
                · refine ⟨?_, ?_, ?_, ?_, ?_, ?_, ?_, ?_, ?_, trivial⟩
                  · intro A w' K vals h hn hg hK
                    have r0 : A.tmps[4]?.getD undef = (.pointer (some ⟨qg, 0, none⟩)) := Rg.slot (h.1)
                    clear h hn hg
                    simp [Oper.wp, execOp, go_sem, r0]
                    exact hK _ _ (Rg.grown_refl _ _) rfl
                  · intro A w' K vals h hn hg hK
                    have r0 : A.tmps[89]?.getD undef = vals 0 := Rg.slot h.1
                    have r1 : vals 0 = (.pointer (some ⟨qg, 2, none⟩)) := hn.1
                    have c : w'.cell? ⟨qg, 2, none⟩ = some (.slice (some ⟨bc, oc, none⟩) n kc) := (BQg.out.keep (hg)).cell _ _ rfl
                    clear h hn
                    simp [Oper.wp, execOp, go_sem, r0, r1, c]
                    exact hK _ _ (Rg.grown_refl _ _) rfl
                  · intro A w' K vals h hn hg hK
                    have r0 : A.tmps[19]?.getD undef = (.int .i64 (j : Int)) := Rg.slot (h.1)
                    clear h hn hg
                    simp [Oper.wp, execOp, go_sem, r0]
                    exact hK _ _ (Rg.grown_refl _ _) rfl
                  · intro A w' K vals h hn hg hK
                    have r0 : A.tmps[90]?.getD undef = vals 1 := Rg.slot h.1
                    have r1 : A.tmps[91]?.getD undef = vals 2 := Rg.slot h.2.1
                    have r2 : vals 1 = (.slice (some ⟨bc, oc, none⟩) n kc) := hn.1
                    have r3 : vals 2 = (.int .i64 (j : Int)) := hn.2.1
                    clear h hn hg
                    simp [Oper.wp, execOp, go_sem, r0, r1, r2, r3, hlt]
                    exact hK _ _ (Rg.grown_refl _ _) rfl
                  · intro A w' K vals h hn hg hK
                    have r0 : A.tmps[92]?.getD undef = vals 3 := Rg.slot h.1
                    have r1 : vals 3 = (.pointer (some ⟨bc, oc + j, none⟩)) := hn.1
                    have c : w'.cell? ⟨bc, oc + j, none⟩ = some (.slice mo ms.length mk) := hg.cell HCX.out (by simp)
                    clear h hn
                    simp [Oper.wp, execOp, go_sem, r0, r1, c]
                    exact hK _ _ (Rg.grown_refl _ _) rfl
                  · intro A w' K vals h hn hg hK
                    have r0 : A.tmps[93]?.getD undef = vals 4 := Rg.slot h.2.1
                    have s0 : vals 4 = (.slice mo ms.length mk) := hn.1
                    clear h hn
                    simp [Oper.wp, go_sem, r0, s0]
                    refine (of_ints (IX.out.on (below_of_grown hg))).mono ?_
                    rintro e w'' ⟨rfl, hb⟩
                    exact hK _ _ (grown_of_below hb _) rfl
                  · intro A w' K vals h hn hg hK
                    have r0 : A.tmps[5]?.getD undef = .pointer (some ⟨qi, 0, none⟩) := Rg.slot h.1
                    have bs := BQi.out.keep hg
                    have cc0 : w'.cell? ⟨qi, 0, none⟩ = some (.int .u64 (P.wrd (I &&& P.full (n : Int)) 0)) := bs.cell 0 _ rfl
                    have cc1 : w'.cell? ⟨qi, 1, none⟩ = some (.int .u64 (P.wrd (I &&& P.full (n : Int)) 1)) := bs.cell 1 _ rfl
                    have cc2 : w'.cell? ⟨qi, 2, none⟩ = some (.int .u64 (P.wrd (I &&& P.full (n : Int)) 2)) := bs.cell 2 _ rfl
                    have cc3 : w'.cell? ⟨qi, 3, none⟩ = some (.int .u64 (P.wrd (I &&& P.full (n : Int)) 3)) := bs.cell 3 _ rfl
                    clear h hn hg bs
                    simp [Oper.wp, execOp, go_sem, r0, cc0, cc1, cc2, cc3]
                    exact hK _ _ (Rg.grown_refl _ _) rfl
                  · intro A w' K vals h hn hg hK
                    have r0 : A.tmps[94]?.getD undef = vals 5 := Rg.slot h.2.1
                    have s0 : vals 5 = .agg #[.int .u64 (P.wrd (P.ofL ms) 0), .int .u64 (P.wrd (P.ofL ms) 1), .int .u64 (P.wrd (P.ofL ms) 2), .int .u64 (P.wrd (P.ofL ms) 3)] := hn.1
                    have r1 : A.tmps[95]?.getD undef = vals 6 := Rg.slot h.2.2.1
                    have s1 : vals 6 = .agg #[.int .u64 (P.wrd (I &&& P.full (n : Int)) 0), .int .u64 (P.wrd (I &&& P.full (n : Int)) 1), .int .u64 (P.wrd (I &&& P.full (n : Int)) 2), .int .u64 (P.wrd (I &&& P.full (n : Int)) 3)] := hn.2.1
                    clear h hn
                    simp [Oper.wp, go_sem, r0, s0, r1, s1]
                    refine (and_any (P.ofL ms) (I &&& P.full (n : Int)) w').mono ?_
                    rintro e w'' ⟨rfl, hb⟩
                    exact hK _ _ (grown_of_below hb _) rfl
                  · intro A w' K vals h hn hg hK
                    clear h hn
                    simp [Oper.wp, execOp, go_sem]
                    exact hK _ _ (World.grownBy_alloc _ _ _) ⟨_, rfl, hg.size, Box.new _ _ _⟩
                · refine ⟨?_, ?_, ?_, ?_, ?_, ?_, ?_, ?_, ?_, trivial⟩
                  · exact fun _ _ _ _ _ _ h => h
                  · exact fun _ _ _ _ _ _ h => h
                  · exact fun _ _ _ _ _ _ h => h
                  · exact fun _ _ _ _ _ _ h => h
                  · exact fun _ _ _ _ _ _ h => h
                  · exact fun _ _ _ _ _ _ h => h
                  · exact fun _ _ _ _ _ _ h => h
                  · exact fun _ _ _ _ _ _ h => h
                  · exact fun _ _ _ _ _ h ⟨qp, hv, hq, hb⟩ => ⟨qp, hv, hq, hb.keep h⟩
                · intro vals w7 G hg hS hG
                  have s7 : vals 7 = .agg #[.int .u64 (P.wrd (P.ofL ms &&& (I &&& P.full (n : Int))) 0), .int .u64 (P.wrd (P.ofL ms &&& (I &&& P.full (n : Int))) 1), .int .u64 (P.wrd (P.ofL ms &&& (I &&& P.full (n : Int))) 2), .int .u64 (P.wrd (P.ofL ms &&& (I &&& P.full (n : Int))) 3)] := hS.2.2.2.2.2.2.2.1
                  obtain ⟨ql, s8, hql, hbl⟩ : ∃ qp, vals 8 = .pointer (some ⟨qp, 0, none⟩) ∧ wr.heap.size ≤ qp ∧ Box w7 qp 28 #[.int .u64 0, .int .u64 0, .int .u64 0, .int .u64 0] := hS.2.2.2.2.2.2.2.2.1
                  clear hS
                  have hb := below_of_grown hg
                  replace BQg := Lib.hid (BQg.out.keep (grown_of_below hb none))
                  replace BQi := Lib.hid (BQi.out.keep (grown_of_below hb none))
                  replace BQs := Lib.hid (BQs.out.keep (grown_of_below hb none))
                  replace BQv := Lib.hid (BQv.out.keep (grown_of_below hb none))
                  replace WB := Lib.hid (WB.out.trans (hb.mono WB.out.size))
                  clear hb
                  have lc0 : w7.cell? ⟨ql, 0, none⟩ = some (.int .u64 0) := hbl.cell 0 _ rfl
                  have lc1 : w7.cell? ⟨ql, 1, none⟩ = some (.int .u64 0) := hbl.cell 1 _ rfl
                  have lc2 : w7.cell? ⟨ql, 2, none⟩ = some (.int .u64 0) := hbl.cell 2 _ rfl
                  have lc3 : w7.cell? ⟨ql, 3, none⟩ = some (.int .u64 0) := hbl.cell 3 _ rfl
                  have lf0 : w7.frozen? ⟨ql, 0, none⟩ = false := hbl.frozen 0
                  have lf1 : w7.frozen? ⟨ql, 1, none⟩ = false := hbl.frozen 1
                  have lf2 : w7.frozen? ⟨ql, 2, none⟩ = false := hbl.frozen 2
                  have lf3 : w7.frozen? ⟨ql, 3, none⟩ = false := hbl.frozen 3
                  have BQl := Lib.hid (show Box ((((w7.setCell ⟨ql, 0, none⟩ (.int .u64 (P.wrd (P.ofL ms &&& (I &&& P.full (n : Int))) 0))).setCell ⟨ql, 1, none⟩ (.int .u64 (P.wrd (P.ofL ms &&& (I &&& P.full (n : Int))) 1))).setCell ⟨ql, 2, none⟩ (.int .u64 (P.wrd (P.ofL ms &&& (I &&& P.full (n : Int))) 2))).setCell ⟨ql, 3, none⟩ (.int .u64 (P.wrd (P.ofL ms &&& (I &&& P.full (n : Int))) 3))) ql 28 #[.int .u64 (P.wrd (P.ofL ms &&& (I &&& P.full (n : Int))) 0), .int .u64 (P.wrd (P.ofL ms &&& (I &&& P.full (n : Int))) 1), .int .u64 (P.wrd (P.ofL ms &&& (I &&& P.full (n : Int))) 2), .int .u64 (P.wrd (P.ofL ms &&& (I &&& P.full (n : Int))) 3)] from Blk.store (Blk.zero hbl) (P.ofL ms &&& (I &&& P.full (n : Int))))
                  have hne : ∀ q, q < wr.heap.size → q ≠ ql := fun q hq e => by omega
                  have BQg := Lib.hid (far4 (.int .u64 (P.wrd (P.ofL ms &&& (I &&& P.full (n : Int))) 0)) (.int .u64 (P.wrd (P.ofL ms &&& (I &&& P.full (n : Int))) 1)) (.int .u64 (P.wrd (P.ofL ms &&& (I &&& P.full (n : Int))) 2)) (.int .u64 (P.wrd (P.ofL ms &&& (I &&& P.full (n : Int))) 3)) BQg.out (hne _ Lg.out))
                  have BQi := Lib.hid (far4 (.int .u64 (P.wrd (P.ofL ms &&& (I &&& P.full (n : Int))) 0)) (.int .u64 (P.wrd (P.ofL ms &&& (I &&& P.full (n : Int))) 1)) (.int .u64 (P.wrd (P.ofL ms &&& (I &&& P.full (n : Int))) 2)) (.int .u64 (P.wrd (P.ofL ms &&& (I &&& P.full (n : Int))) 3)) BQi.out (hne _ Li.out))
                  have BQs := Lib.hid (far4 (.int .u64 (P.wrd (P.ofL ms &&& (I &&& P.full (n : Int))) 0)) (.int .u64 (P.wrd (P.ofL ms &&& (I &&& P.full (n : Int))) 1)) (.int .u64 (P.wrd (P.ofL ms &&& (I &&& P.full (n : Int))) 2)) (.int .u64 (P.wrd (P.ofL ms &&& (I &&& P.full (n : Int))) 3)) BQs.out (hne _ Ls.out))
                  have BQv := Lib.hid (far4 (.int .u64 (P.wrd (P.ofL ms &&& (I &&& P.full (n : Int))) 0)) (.int .u64 (P.wrd (P.ofL ms &&& (I &&& P.full (n : Int))) 1)) (.int .u64 (P.wrd (P.ofL ms &&& (I &&& P.full (n : Int))) 2)) (.int .u64 (P.wrd (P.ofL ms &&& (I &&& P.full (n : Int))) 3)) BQv.out (hne _ Lv.out))
                  replace WB := Lib.hid (WB.out.trans (below4 (w := w7) (q := ql) (.int .u64 (P.wrd (P.ofL ms &&& (I &&& P.full (n : Int))) 0)) (.int .u64 (P.wrd (P.ofL ms &&& (I &&& P.full (n : Int))) 1)) (.int .u64 (P.wrd (P.ofL ms &&& (I &&& P.full (n : Int))) 2)) (.int .u64 (P.wrd (P.ofL ms &&& (I &&& P.full (n : Int))) 3)) (Nat.le_trans LWR.out hql)))
                  have HNE_ := Lib.hid (show qg ≠ qs ∧ qi ≠ qs ∧ ql ≠ qs ∧ qv ≠ qs ∧ qg ≠ qv ∧ qi ≠ qv ∧ ql ≠ qv ∧ qs ≠ qv from by
                    have h1 := Lg.out
                    have h2 := Li.out
                    have h3 := Ls.out
                    have h4 := Lv.out
                    have h5 := HQ_.out
                    have h6 := HGI.out
                    refine ⟨by omega, by omega, by omega, by omega, by omega, by omega, by omega, by omega⟩)
                  clear hbl hg hql hne
                  refine hG ?_
                  clear hG
                  simp [List.dropLast, Rg.putAll, Oper.wp, execOp, go_sem, s7, s8, lc0, lc1, lc2, lc3, lf0, lf1, lf2, lf3]
                  clear s7 s8 lc0 lc1 lc2 lc3 lf0 lf1 lf2 lf3
                  generalize ((((w7.setCell ⟨ql, 0, none⟩ (.int .u64 (P.wrd (P.ofL ms &&& (I &&& P.full (n : Int))) 0))).setCell ⟨ql, 1, none⟩ (.int .u64 (P.wrd (P.ofL ms &&& (I &&& P.full (n : Int))) 1))).setCell ⟨ql, 2, none⟩ (.int .u64 (P.wrd (P.ofL ms &&& (I &&& P.full (n : Int))) 2))).setCell ⟨ql, 3, none⟩ (.int .u64 (P.wrd (P.ofL ms &&& (I &&& P.full (n : Int))) 3))) = w8 at BQg BQi BQs BQv BQl WB ⊢
                  have hbb := BQi.out
                  have ic0 : w8.cell? ⟨qi, 0, none⟩ = some (.int .u64 (P.wrd (I &&& P.full (n : Int)) 0)) := hbb.cell 0 _ rfl
                  have ic1 : w8.cell? ⟨qi, 1, none⟩ = some (.int .u64 (P.wrd (I &&& P.full (n : Int)) 1)) := hbb.cell 1 _ rfl
                  have ic2 : w8.cell? ⟨qi, 2, none⟩ = some (.int .u64 (P.wrd (I &&& P.full (n : Int)) 2)) := hbb.cell 2 _ rfl
                  have ic3 : w8.cell? ⟨qi, 3, none⟩ = some (.int .u64 (P.wrd (I &&& P.full (n : Int)) 3)) := hbb.cell 3 _ rfl
                  clear hbb
                  go_wp2_with fail
                  refine (has_any (I &&& P.full (n : Int)) (j : Int) _).mono ?_
                  rintro e w9 ⟨rfl, hb⟩
                  replace BQg := Lib.hid (BQg.out.keep (grown_of_below hb none))
                  replace BQi := Lib.hid (BQi.out.keep (grown_of_below hb none))
                  replace BQl := Lib.hid (BQl.out.keep (grown_of_below hb none))
                  replace BQs := Lib.hid (BQs.out.keep (grown_of_below hb none))
                  replace BQv := Lib.hid (BQv.out.keep (grown_of_below hb none))
                  replace WB := Lib.hid (WB.out.trans (hb.mono WB.out.size))
                  clear hb ic0 ic1 ic2 ic3
                  rw [P.has_nat]
                  by_cases h1 : (I &&& P.full (n : Int)).getLsbD j = true
                  · rw [h1]
                    have hbb := BQl.out
                    have lc0 : w9.cell? ⟨ql, 0, none⟩ = some (.int .u64 (P.wrd (P.ofL ms &&& (I &&& P.full (n : Int))) 0)) := hbb.cell 0 _ rfl
                    have lc1 : w9.cell? ⟨ql, 1, none⟩ = some (.int .u64 (P.wrd (P.ofL ms &&& (I &&& P.full (n : Int))) 1)) := hbb.cell 1 _ rfl
                    have lc2 : w9.cell? ⟨ql, 2, none⟩ = some (.int .u64 (P.wrd (P.ofL ms &&& (I &&& P.full (n : Int))) 2)) := hbb.cell 2 _ rfl
                    have lc3 : w9.cell? ⟨ql, 3, none⟩ = some (.int .u64 (P.wrd (P.ofL ms &&& (I &&& P.full (n : Int))) 3)) := hbb.cell 3 _ rfl
                    clear hbb
                    have hbb := BQs.out
                    have sc0 : w9.cell? ⟨qs, 0, none⟩ = some (.int .u64 (P.wrd s 0)) := hbb.cell 0 _ rfl
                    have sc1 : w9.cell? ⟨qs, 1, none⟩ = some (.int .u64 (P.wrd s 1)) := hbb.cell 1 _ rfl
                    have sc2 : w9.cell? ⟨qs, 2, none⟩ = some (.int .u64 (P.wrd s 2)) := hbb.cell 2 _ rfl
                    have sc3 : w9.cell? ⟨qs, 3, none⟩ = some (.int .u64 (P.wrd s 3)) := hbb.cell 3 _ rfl
                    clear hbb
                    go_wp2_with fail
                    refine (and_any (P.ofL ms &&& (I &&& P.full (n : Int))) s _).mono ?_
                    rintro e wb ⟨rfl, hb⟩
                    replace BQg := Lib.hid (BQg.out.keep (grown_of_below hb none))
                    replace BQi := Lib.hid (BQi.out.keep (grown_of_below hb none))
                    replace BQl := Lib.hid (BQl.out.keep (grown_of_below hb none))
                    replace BQs := Lib.hid (BQs.out.keep (grown_of_below hb none))
                    replace BQv := Lib.hid (BQv.out.keep (grown_of_below hb none))
                    replace WB := Lib.hid (WB.out.trans (hb.mono WB.out.size))
                    clear hb lc0 lc1 lc2 lc3 sc0 sc1 sc2 sc3
                    by_cases h2 : (P.ofL ms &&& (I &&& P.full (n : Int))) &&& s = 0#256
                    · have eqa := fun w => set_neq ((P.ofL ms &&& (I &&& P.full (n : Int))) &&& s) 0#256 w
                      rw [decide_eq_true h2, zero_set] at eqa
                      have HUS := Lib.hid (show P.upS g (I &&& P.full (n : Int)) s j = s from by unfold P.upS; rw [HMS.out, if_neg (fun h => h.2 h2)])
                      clear h1 h2
                      go_upto_region 25 with (fail)
                      clear eqa
                      generalize wb = wz at BQg BQi BQl BQs BQv WB ⊢
                      have hbb := BQv.out
                      have vc0 : wz.cell? ⟨qv, 0, none⟩ = some (.int .u64 (P.wrd t 0)) := hbb.cell 0 _ rfl
                      have vc1 : wz.cell? ⟨qv, 1, none⟩ = some (.int .u64 (P.wrd t 1)) := hbb.cell 1 _ rfl
                      have vc2 : wz.cell? ⟨qv, 2, none⟩ = some (.int .u64 (P.wrd t 2)) := hbb.cell 2 _ rfl
                      have vc3 : wz.cell? ⟨qv, 3, none⟩ = some (.int .u64 (P.wrd t 3)) := hbb.cell 3 _ rfl
                      clear hbb
                      go_wp2_with fail
                      refine (has_any t (j : Int) _).mono ?_
                      rintro e wy ⟨rfl, hb⟩
                      replace BQg := Lib.hid (BQg.out.keep (grown_of_below hb none))
                      replace BQi := Lib.hid (BQi.out.keep (grown_of_below hb none))
                      replace BQl := Lib.hid (BQl.out.keep (grown_of_below hb none))
                      replace BQs := Lib.hid (BQs.out.keep (grown_of_below hb none))
                      replace BQv := Lib.hid (BQv.out.keep (grown_of_below hb none))
                      replace WB := Lib.hid (WB.out.trans (hb.mono WB.out.size))
                      clear hb vc0 vc1 vc2 vc3
                      rw [P.has_nat]
                      by_cases h3 : t.getLsbD j = true
                      · rw [h3]
                        by_cases h4 : (P.ofL ms &&& (I &&& P.full (n : Int))) = 0#256
                        · have eqa := fun w => set_neq (P.ofL ms &&& (I &&& P.full (n : Int))) 0#256 w
                          rw [decide_eq_true h4, zero_set] at eqa
                          have HUT := Lib.hid (show P.upT g (I &&& P.full (n : Int)) t j = t from by unfold P.upT; rw [HMS.out, if_neg (fun h => h.2.1 h4)])
                          clear h3 h4
                          have hbb := BQl.out
                          have lc0 : wy.cell? ⟨ql, 0, none⟩ = some (.int .u64 (P.wrd (P.ofL ms &&& (I &&& P.full (n : Int))) 0)) := hbb.cell 0 _ rfl
                          have lc1 : wy.cell? ⟨ql, 1, none⟩ = some (.int .u64 (P.wrd (P.ofL ms &&& (I &&& P.full (n : Int))) 1)) := hbb.cell 1 _ rfl
                          have lc2 : wy.cell? ⟨ql, 2, none⟩ = some (.int .u64 (P.wrd (P.ofL ms &&& (I &&& P.full (n : Int))) 2)) := hbb.cell 2 _ rfl
                          have lc3 : wy.cell? ⟨ql, 3, none⟩ = some (.int .u64 (P.wrd (P.ofL ms &&& (I &&& P.full (n : Int))) 3)) := hbb.cell 3 _ rfl
                          clear hbb
                          have HS := Lib.hid (show Box _ qs 28 #[.int .u64 (P.wrd (P.upS g (I &&& P.full (n : Int)) s j) 0), .int .u64 (P.wrd (P.upS g (I &&& P.full (n : Int)) s j) 1), .int .u64 (P.wrd (P.upS g (I &&& P.full (n : Int)) s j) 2), .int .u64 (P.wrd (P.upS g (I &&& P.full (n : Int)) s j) 3)] from by rw [HUS.out]; exact BQs.out)
                          have HT := Lib.hid (show Box _ qv 28 #[.int .u64 (P.wrd (P.upT g (I &&& P.full (n : Int)) t j) 0), .int .u64 (P.wrd (P.upT g (I &&& P.full (n : Int)) t j) 1), .int .u64 (P.wrd (P.upT g (I &&& P.full (n : Int)) t j) 2), .int .u64 (P.wrd (P.upT g (I &&& P.full (n : Int)) t j) 3)] from by rw [HUT.out]; exact BQv.out)
                          go_wp2_with fail
                          go_roundw
                          case rel => exact ⟨j + 1, by omega, by go_num, WB.out, by rw [fold_succ, HSJ.out]; exact HS.out, by rw [fold_succ, HTJ.out]; exact HT.out⟩
                          case measure => simp [intOf]; omega
                        · have eqa := fun w => set_neq (P.ofL ms &&& (I &&& P.full (n : Int))) 0#256 w
                          rw [decide_eq_false h4, zero_set] at eqa
                          have hbb := BQl.out
                          have lc0 : wy.cell? ⟨ql, 0, none⟩ = some (.int .u64 (P.wrd (P.ofL ms &&& (I &&& P.full (n : Int))) 0)) := hbb.cell 0 _ rfl
                          have lc1 : wy.cell? ⟨ql, 1, none⟩ = some (.int .u64 (P.wrd (P.ofL ms &&& (I &&& P.full (n : Int))) 1)) := hbb.cell 1 _ rfl
                          have lc2 : wy.cell? ⟨ql, 2, none⟩ = some (.int .u64 (P.wrd (P.ofL ms &&& (I &&& P.full (n : Int))) 2)) := hbb.cell 2 _ rfl
                          have lc3 : wy.cell? ⟨ql, 3, none⟩ = some (.int .u64 (P.wrd (P.ofL ms &&& (I &&& P.full (n : Int))) 3)) := hbb.cell 3 _ rfl
                          clear hbb
                          have hbb := BQv.out
                          have vc0 : wy.cell? ⟨qv, 0, none⟩ = some (.int .u64 (P.wrd t 0)) := hbb.cell 0 _ rfl
                          have vc1 : wy.cell? ⟨qv, 1, none⟩ = some (.int .u64 (P.wrd t 1)) := hbb.cell 1 _ rfl
                          have vc2 : wy.cell? ⟨qv, 2, none⟩ = some (.int .u64 (P.wrd t 2)) := hbb.cell 2 _ rfl
                          have vc3 : wy.cell? ⟨qv, 3, none⟩ = some (.int .u64 (P.wrd t 3)) := hbb.cell 3 _ rfl
                          clear hbb
                          go_wp2_with fail
                          refine (and_any (P.ofL ms &&& (I &&& P.full (n : Int))) t _).mono ?_
                          rintro e wx ⟨rfl, hb⟩
                          replace BQg := Lib.hid (BQg.out.keep (grown_of_below hb none))
                          replace BQi := Lib.hid (BQi.out.keep (grown_of_below hb none))
                          replace BQl := Lib.hid (BQl.out.keep (grown_of_below hb none))
                          replace BQs := Lib.hid (BQs.out.keep (grown_of_below hb none))
                          replace BQv := Lib.hid (BQv.out.keep (grown_of_below hb none))
                          replace WB := Lib.hid (WB.out.trans (hb.mono WB.out.size))
                          clear hb lc0 lc1 lc2 lc3 vc0 vc1 vc2 vc3 eqa
                          by_cases h5 : (P.ofL ms &&& (I &&& P.full (n : Int))) &&& t = 0#256
                          · have eqa := fun w => set_eq ((P.ofL ms &&& (I &&& P.full (n : Int))) &&& t) 0#256 w
                            rw [decide_eq_true h5, zero_set] at eqa
                            have HUT := Lib.hid (show P.upT g (I &&& P.full (n : Int)) t j = t &&& ~~~P.bit (j : Int) from by unfold P.upT; rw [HMS.out, if_pos ⟨h3, h4, h5⟩])
                            clear h3 h4 h5
                            go_upto_region 26 with (fail)
                            clear eqa
                            have hbb := BQv.out
                            have vc0 : wx.cell? ⟨qv, 0, none⟩ = some (.int .u64 (P.wrd t 0)) := hbb.cell 0 _ rfl
                            have vc1 : wx.cell? ⟨qv, 1, none⟩ = some (.int .u64 (P.wrd t 1)) := hbb.cell 1 _ rfl
                            have vc2 : wx.cell? ⟨qv, 2, none⟩ = some (.int .u64 (P.wrd t 2)) := hbb.cell 2 _ rfl
                            have vc3 : wx.cell? ⟨qv, 3, none⟩ = some (.int .u64 (P.wrd t 3)) := hbb.cell 3 _ rfl
                            clear hbb
                            go_wp2_with fail
                            refine (less_any t (j : Int) _).mono ?_
                            rintro e wu ⟨rfl, hb⟩
                            replace BQg := Lib.hid (BQg.out.keep (grown_of_below hb none))
                            replace BQi := Lib.hid (BQi.out.keep (grown_of_below hb none))
                            replace BQl := Lib.hid (BQl.out.keep (grown_of_below hb none))
                            replace BQs := Lib.hid (BQs.out.keep (grown_of_below hb none))
                            replace BQv := Lib.hid (BQv.out.keep (grown_of_below hb none))
                            replace WB := Lib.hid (WB.out.trans (hb.mono WB.out.size))
                            clear hb vc0 vc1 vc2 vc3
                            have hbb := BQv.out
                            have vc0 : wu.cell? ⟨qv, 0, none⟩ = some (.int .u64 (P.wrd t 0)) := hbb.cell 0 _ rfl
                            have vc1 : wu.cell? ⟨qv, 1, none⟩ = some (.int .u64 (P.wrd t 1)) := hbb.cell 1 _ rfl
                            have vc2 : wu.cell? ⟨qv, 2, none⟩ = some (.int .u64 (P.wrd t 2)) := hbb.cell 2 _ rfl
                            have vc3 : wu.cell? ⟨qv, 3, none⟩ = some (.int .u64 (P.wrd t 3)) := hbb.cell 3 _ rfl
                            have vf0 : wu.frozen? ⟨qv, 0, none⟩ = false := hbb.frozen 0
                            have vf1 : wu.frozen? ⟨qv, 1, none⟩ = false := hbb.frozen 1
                            have vf2 : wu.frozen? ⟨qv, 2, none⟩ = false := hbb.frozen 2
                            have vf3 : wu.frozen? ⟨qv, 3, none⟩ = false := hbb.frozen 3
                            clear hbb
                            go_upto_region 21 with (fail)
                            clear vc0 vc1 vc2 vc3 vf0 vf1 vf2 vf3
                            have BQv := Lib.hid (show Box ((((wu.setCell ⟨qv, 0, none⟩ (.int .u64 (P.wrd (t &&& ~~~P.bit (j : Int)) 0))).setCell ⟨qv, 1, none⟩ (.int .u64 (P.wrd (t &&& ~~~P.bit (j : Int)) 1))).setCell ⟨qv, 2, none⟩ (.int .u64 (P.wrd (t &&& ~~~P.bit (j : Int)) 2))).setCell ⟨qv, 3, none⟩ (.int .u64 (P.wrd (t &&& ~~~P.bit (j : Int)) 3))) qv 28 #[.int .u64 (P.wrd (t &&& ~~~P.bit (j : Int)) 0), .int .u64 (P.wrd (t &&& ~~~P.bit (j : Int)) 1), .int .u64 (P.wrd (t &&& ~~~P.bit (j : Int)) 2), .int .u64 (P.wrd (t &&& ~~~P.bit (j : Int)) 3)] from Blk.store (show Blk wu qv t 28 from BQv.out) (t &&& ~~~P.bit (j : Int)))
                            have BQg := Lib.hid (far4 (.int .u64 (P.wrd (t &&& ~~~P.bit (j : Int)) 0)) (.int .u64 (P.wrd (t &&& ~~~P.bit (j : Int)) 1)) (.int .u64 (P.wrd (t &&& ~~~P.bit (j : Int)) 2)) (.int .u64 (P.wrd (t &&& ~~~P.bit (j : Int)) 3)) BQg.out (show qg ≠ qv from HNE_.out.2.2.2.2.1))
                            have BQi := Lib.hid (far4 (.int .u64 (P.wrd (t &&& ~~~P.bit (j : Int)) 0)) (.int .u64 (P.wrd (t &&& ~~~P.bit (j : Int)) 1)) (.int .u64 (P.wrd (t &&& ~~~P.bit (j : Int)) 2)) (.int .u64 (P.wrd (t &&& ~~~P.bit (j : Int)) 3)) BQi.out (show qi ≠ qv from HNE_.out.2.2.2.2.2.1))
                            have BQl := Lib.hid (far4 (.int .u64 (P.wrd (t &&& ~~~P.bit (j : Int)) 0)) (.int .u64 (P.wrd (t &&& ~~~P.bit (j : Int)) 1)) (.int .u64 (P.wrd (t &&& ~~~P.bit (j : Int)) 2)) (.int .u64 (P.wrd (t &&& ~~~P.bit (j : Int)) 3)) BQl.out (show ql ≠ qv from HNE_.out.2.2.2.2.2.2.1))
                            have BQs := Lib.hid (far4 (.int .u64 (P.wrd (t &&& ~~~P.bit (j : Int)) 0)) (.int .u64 (P.wrd (t &&& ~~~P.bit (j : Int)) 1)) (.int .u64 (P.wrd (t &&& ~~~P.bit (j : Int)) 2)) (.int .u64 (P.wrd (t &&& ~~~P.bit (j : Int)) 3)) BQs.out (show qs ≠ qv from HNE_.out.2.2.2.2.2.2.2))
                            replace WB := Lib.hid (WB.out.trans (below4 (w := wu) (q := qv) (.int .u64 (P.wrd (t &&& ~~~P.bit (j : Int)) 0)) (.int .u64 (P.wrd (t &&& ~~~P.bit (j : Int)) 1)) (.int .u64 (P.wrd (t &&& ~~~P.bit (j : Int)) 2)) (.int .u64 (P.wrd (t &&& ~~~P.bit (j : Int)) 3)) (Nat.le_trans LWB.out HQ_.out.2.1)))
                            generalize ((((wu.setCell ⟨qv, 0, none⟩ (.int .u64 (P.wrd (t &&& ~~~P.bit (j : Int)) 0))).setCell ⟨qv, 1, none⟩ (.int .u64 (P.wrd (t &&& ~~~P.bit (j : Int)) 1))).setCell ⟨qv, 2, none⟩ (.int .u64 (P.wrd (t &&& ~~~P.bit (j : Int)) 2))).setCell ⟨qv, 3, none⟩ (.int .u64 (P.wrd (t &&& ~~~P.bit (j : Int)) 3))) = wt at BQg BQi BQl BQs BQv WB ⊢
                            have HS := Lib.hid (show Box _ qs 28 #[.int .u64 (P.wrd (P.upS g (I &&& P.full (n : Int)) s j) 0), .int .u64 (P.wrd (P.upS g (I &&& P.full (n : Int)) s j) 1), .int .u64 (P.wrd (P.upS g (I &&& P.full (n : Int)) s j) 2), .int .u64 (P.wrd (P.upS g (I &&& P.full (n : Int)) s j) 3)] from by rw [HUS.out]; exact BQs.out)
                            have HT := Lib.hid (show Box _ qv 28 #[.int .u64 (P.wrd (P.upT g (I &&& P.full (n : Int)) t j) 0), .int .u64 (P.wrd (P.upT g (I &&& P.full (n : Int)) t j) 1), .int .u64 (P.wrd (P.upT g (I &&& P.full (n : Int)) t j) 2), .int .u64 (P.wrd (P.upT g (I &&& P.full (n : Int)) t j) 3)] from by rw [HUT.out]; exact BQv.out)
                            go_wp2_with fail
                            go_roundw
                            case rel => exact ⟨j + 1, by omega, by go_num, WB.out, by rw [fold_succ, HSJ.out]; exact HS.out, by rw [fold_succ, HTJ.out]; exact HT.out⟩
                            case measure => simp [intOf]; omega
                          · have eqa := fun w => set_eq ((P.ofL ms &&& (I &&& P.full (n : Int))) &&& t) 0#256 w
                            rw [decide_eq_false h5, zero_set] at eqa
                            have HUT := Lib.hid (show P.upT g (I &&& P.full (n : Int)) t j = t from by unfold P.upT; rw [HMS.out, if_neg (fun h => h5 h.2.2)])
                            clear h3 h4 h5
                            have HS := Lib.hid (show Box _ qs 28 #[.int .u64 (P.wrd (P.upS g (I &&& P.full (n : Int)) s j) 0), .int .u64 (P.wrd (P.upS g (I &&& P.full (n : Int)) s j) 1), .int .u64 (P.wrd (P.upS g (I &&& P.full (n : Int)) s j) 2), .int .u64 (P.wrd (P.upS g (I &&& P.full (n : Int)) s j) 3)] from by rw [HUS.out]; exact BQs.out)
                            have HT := Lib.hid (show Box _ qv 28 #[.int .u64 (P.wrd (P.upT g (I &&& P.full (n : Int)) t j) 0), .int .u64 (P.wrd (P.upT g (I &&& P.full (n : Int)) t j) 1), .int .u64 (P.wrd (P.upT g (I &&& P.full (n : Int)) t j) 2), .int .u64 (P.wrd (P.upT g (I &&& P.full (n : Int)) t j) 3)] from by rw [HUT.out]; exact BQv.out)
                            go_wp2_with fail
                            go_roundw
                            case rel => exact ⟨j + 1, by omega, by go_num, WB.out, by rw [fold_succ, HSJ.out]; exact HS.out, by rw [fold_succ, HTJ.out]; exact HT.out⟩
                            case measure => simp [intOf]; omega
                      · have h3 : t.getLsbD j = false := by simpa using h3
                        rw [h3]
                        have HUT := Lib.hid (show P.upT g (I &&& P.full (n : Int)) t j = t from by unfold P.upT; rw [if_neg (fun h => by rw [h3] at h; cases h.1)])
                        clear h3
                        have HS := Lib.hid (show Box _ qs 28 #[.int .u64 (P.wrd (P.upS g (I &&& P.full (n : Int)) s j) 0), .int .u64 (P.wrd (P.upS g (I &&& P.full (n : Int)) s j) 1), .int .u64 (P.wrd (P.upS g (I &&& P.full (n : Int)) s j) 2), .int .u64 (P.wrd (P.upS g (I &&& P.full (n : Int)) s j) 3)] from by rw [HUS.out]; exact BQs.out)
                        have HT := Lib.hid (show Box _ qv 28 #[.int .u64 (P.wrd (P.upT g (I &&& P.full (n : Int)) t j) 0), .int .u64 (P.wrd (P.upT g (I &&& P.full (n : Int)) t j) 1), .int .u64 (P.wrd (P.upT g (I &&& P.full (n : Int)) t j) 2), .int .u64 (P.wrd (P.upT g (I &&& P.full (n : Int)) t j) 3)] from by rw [HUT.out]; exact BQv.out)
                        go_wp2_with fail
                        go_roundw
                        case rel => exact ⟨j + 1, by omega, by go_num, WB.out, by rw [fold_succ, HSJ.out]; exact HS.out, by rw [fold_succ, HTJ.out]; exact HT.out⟩
                        case measure => simp [intOf]; omega
                    · have eqa := fun w => set_neq ((P.ofL ms &&& (I &&& P.full (n : Int))) &&& s) 0#256 w
                      rw [decide_eq_false h2, zero_set] at eqa
                      have HUS := Lib.hid (show P.upS g (I &&& P.full (n : Int)) s j = s ||| P.bit (j : Int) from by unfold P.upS; rw [HMS.out, if_pos ⟨h1, h2⟩])
                      clear h1 h2
                      go_upto_region 24 with (fail)
                      clear eqa
                      have hbb := BQs.out
                      have sc0 : wb.cell? ⟨qs, 0, none⟩ = some (.int .u64 (P.wrd s 0)) := hbb.cell 0 _ rfl
                      have sc1 : wb.cell? ⟨qs, 1, none⟩ = some (.int .u64 (P.wrd s 1)) := hbb.cell 1 _ rfl
                      have sc2 : wb.cell? ⟨qs, 2, none⟩ = some (.int .u64 (P.wrd s 2)) := hbb.cell 2 _ rfl
                      have sc3 : wb.cell? ⟨qs, 3, none⟩ = some (.int .u64 (P.wrd s 3)) := hbb.cell 3 _ rfl
                      clear hbb
                      go_wp2_with fail
                      refine (with_any s (j : Int) _).mono ?_
                      rintro e wd ⟨rfl, hb⟩
                      replace BQg := Lib.hid (BQg.out.keep (grown_of_below hb none))
                      replace BQi := Lib.hid (BQi.out.keep (grown_of_below hb none))
                      replace BQl := Lib.hid (BQl.out.keep (grown_of_below hb none))
                      replace BQs := Lib.hid (BQs.out.keep (grown_of_below hb none))
                      replace BQv := Lib.hid (BQv.out.keep (grown_of_below hb none))
                      replace WB := Lib.hid (WB.out.trans (hb.mono WB.out.size))
                      clear hb sc0 sc1 sc2 sc3
                      have hbb := BQs.out
                      have sc0 : wd.cell? ⟨qs, 0, none⟩ = some (.int .u64 (P.wrd s 0)) := hbb.cell 0 _ rfl
                      have sc1 : wd.cell? ⟨qs, 1, none⟩ = some (.int .u64 (P.wrd s 1)) := hbb.cell 1 _ rfl
                      have sc2 : wd.cell? ⟨qs, 2, none⟩ = some (.int .u64 (P.wrd s 2)) := hbb.cell 2 _ rfl
                      have sc3 : wd.cell? ⟨qs, 3, none⟩ = some (.int .u64 (P.wrd s 3)) := hbb.cell 3 _ rfl
                      have sf0 : wd.frozen? ⟨qs, 0, none⟩ = false := hbb.frozen 0
                      have sf1 : wd.frozen? ⟨qs, 1, none⟩ = false := hbb.frozen 1
                      have sf2 : wd.frozen? ⟨qs, 2, none⟩ = false := hbb.frozen 2
                      have sf3 : wd.frozen? ⟨qs, 3, none⟩ = false := hbb.frozen 3
                      clear hbb
                      go_upto_region 25 with (fail)
                      clear sc0 sc1 sc2 sc3 sf0 sf1 sf2 sf3
                      have BQs := Lib.hid (show Box ((((wd.setCell ⟨qs, 0, none⟩ (.int .u64 (P.wrd (s ||| P.bit (j : Int)) 0))).setCell ⟨qs, 1, none⟩ (.int .u64 (P.wrd (s ||| P.bit (j : Int)) 1))).setCell ⟨qs, 2, none⟩ (.int .u64 (P.wrd (s ||| P.bit (j : Int)) 2))).setCell ⟨qs, 3, none⟩ (.int .u64 (P.wrd (s ||| P.bit (j : Int)) 3))) qs 28 #[.int .u64 (P.wrd (s ||| P.bit (j : Int)) 0), .int .u64 (P.wrd (s ||| P.bit (j : Int)) 1), .int .u64 (P.wrd (s ||| P.bit (j : Int)) 2), .int .u64 (P.wrd (s ||| P.bit (j : Int)) 3)] from Blk.store (show Blk wd qs s 28 from BQs.out) (s ||| P.bit (j : Int)))
                      have BQg := Lib.hid (far4 (.int .u64 (P.wrd (s ||| P.bit (j : Int)) 0)) (.int .u64 (P.wrd (s ||| P.bit (j : Int)) 1)) (.int .u64 (P.wrd (s ||| P.bit (j : Int)) 2)) (.int .u64 (P.wrd (s ||| P.bit (j : Int)) 3)) BQg.out (show qg ≠ qs from HNE_.out.1))
                      have BQi := Lib.hid (far4 (.int .u64 (P.wrd (s ||| P.bit (j : Int)) 0)) (.int .u64 (P.wrd (s ||| P.bit (j : Int)) 1)) (.int .u64 (P.wrd (s ||| P.bit (j : Int)) 2)) (.int .u64 (P.wrd (s ||| P.bit (j : Int)) 3)) BQi.out (show qi ≠ qs from HNE_.out.2.1))
                      have BQl := Lib.hid (far4 (.int .u64 (P.wrd (s ||| P.bit (j : Int)) 0)) (.int .u64 (P.wrd (s ||| P.bit (j : Int)) 1)) (.int .u64 (P.wrd (s ||| P.bit (j : Int)) 2)) (.int .u64 (P.wrd (s ||| P.bit (j : Int)) 3)) BQl.out (show ql ≠ qs from HNE_.out.2.2.1))
                      have BQv := Lib.hid (far4 (.int .u64 (P.wrd (s ||| P.bit (j : Int)) 0)) (.int .u64 (P.wrd (s ||| P.bit (j : Int)) 1)) (.int .u64 (P.wrd (s ||| P.bit (j : Int)) 2)) (.int .u64 (P.wrd (s ||| P.bit (j : Int)) 3)) BQv.out (show qv ≠ qs from HNE_.out.2.2.2.1))
                      replace WB := Lib.hid (WB.out.trans (below4 (w := wd) (q := qs) (.int .u64 (P.wrd (s ||| P.bit (j : Int)) 0)) (.int .u64 (P.wrd (s ||| P.bit (j : Int)) 1)) (.int .u64 (P.wrd (s ||| P.bit (j : Int)) 2)) (.int .u64 (P.wrd (s ||| P.bit (j : Int)) 3)) (Nat.le_trans LWB.out HQ_.out.1)))
                      generalize ((((wd.setCell ⟨qs, 0, none⟩ (.int .u64 (P.wrd (s ||| P.bit (j : Int)) 0))).setCell ⟨qs, 1, none⟩ (.int .u64 (P.wrd (s ||| P.bit (j : Int)) 1))).setCell ⟨qs, 2, none⟩ (.int .u64 (P.wrd (s ||| P.bit (j : Int)) 2))).setCell ⟨qs, 3, none⟩ (.int .u64 (P.wrd (s ||| P.bit (j : Int)) 3))) = wz at BQg BQi BQl BQv BQs WB ⊢
                      have hbb := BQv.out
                      have vc0 : wz.cell? ⟨qv, 0, none⟩ = some (.int .u64 (P.wrd t 0)) := hbb.cell 0 _ rfl
                      have vc1 : wz.cell? ⟨qv, 1, none⟩ = some (.int .u64 (P.wrd t 1)) := hbb.cell 1 _ rfl
                      have vc2 : wz.cell? ⟨qv, 2, none⟩ = some (.int .u64 (P.wrd t 2)) := hbb.cell 2 _ rfl
                      have vc3 : wz.cell? ⟨qv, 3, none⟩ = some (.int .u64 (P.wrd t 3)) := hbb.cell 3 _ rfl
                      clear hbb
                      go_wp2_with fail
                      refine (has_any t (j : Int) _).mono ?_
                      rintro e wy ⟨rfl, hb⟩
                      replace BQg := Lib.hid (BQg.out.keep (grown_of_below hb none))
                      replace BQi := Lib.hid (BQi.out.keep (grown_of_below hb none))
                      replace BQl := Lib.hid (BQl.out.keep (grown_of_below hb none))
                      replace BQs := Lib.hid (BQs.out.keep (grown_of_below hb none))
                      replace BQv := Lib.hid (BQv.out.keep (grown_of_below hb none))
                      replace WB := Lib.hid (WB.out.trans (hb.mono WB.out.size))
                      clear hb vc0 vc1 vc2 vc3
                      rw [P.has_nat]
                      by_cases h3 : t.getLsbD j = true
                      · rw [h3]
                        by_cases h4 : (P.ofL ms &&& (I &&& P.full (n : Int))) = 0#256
                        · have eqa := fun w => set_neq (P.ofL ms &&& (I &&& P.full (n : Int))) 0#256 w
                          rw [decide_eq_true h4, zero_set] at eqa
                          have HUT := Lib.hid (show P.upT g (I &&& P.full (n : Int)) t j = t from by unfold P.upT; rw [HMS.out, if_neg (fun h => h.2.1 h4)])
                          clear h3 h4
                          have hbb := BQl.out
                          have lc0 : wy.cell? ⟨ql, 0, none⟩ = some (.int .u64 (P.wrd (P.ofL ms &&& (I &&& P.full (n : Int))) 0)) := hbb.cell 0 _ rfl
                          have lc1 : wy.cell? ⟨ql, 1, none⟩ = some (.int .u64 (P.wrd (P.ofL ms &&& (I &&& P.full (n : Int))) 1)) := hbb.cell 1 _ rfl
                          have lc2 : wy.cell? ⟨ql, 2, none⟩ = some (.int .u64 (P.wrd (P.ofL ms &&& (I &&& P.full (n : Int))) 2)) := hbb.cell 2 _ rfl
                          have lc3 : wy.cell? ⟨ql, 3, none⟩ = some (.int .u64 (P.wrd (P.ofL ms &&& (I &&& P.full (n : Int))) 3)) := hbb.cell 3 _ rfl
                          clear hbb
                          have HS := Lib.hid (show Box _ qs 28 #[.int .u64 (P.wrd (P.upS g (I &&& P.full (n : Int)) s j) 0), .int .u64 (P.wrd (P.upS g (I &&& P.full (n : Int)) s j) 1), .int .u64 (P.wrd (P.upS g (I &&& P.full (n : Int)) s j) 2), .int .u64 (P.wrd (P.upS g (I &&& P.full (n : Int)) s j) 3)] from by rw [HUS.out]; exact BQs.out)
                          have HT := Lib.hid (show Box _ qv 28 #[.int .u64 (P.wrd (P.upT g (I &&& P.full (n : Int)) t j) 0), .int .u64 (P.wrd (P.upT g (I &&& P.full (n : Int)) t j) 1), .int .u64 (P.wrd (P.upT g (I &&& P.full (n : Int)) t j) 2), .int .u64 (P.wrd (P.upT g (I &&& P.full (n : Int)) t j) 3)] from by rw [HUT.out]; exact BQv.out)
                          go_wp2_with fail
                          go_roundw
                          case rel => exact ⟨j + 1, by omega, by go_num, WB.out, by rw [fold_succ, HSJ.out]; exact HS.out, by rw [fold_succ, HTJ.out]; exact HT.out⟩
                          case measure => simp [intOf]; omega
                        · have eqa := fun w => set_neq (P.ofL ms &&& (I &&& P.full (n : Int))) 0#256 w
                          rw [decide_eq_false h4, zero_set] at eqa
                          have hbb := BQl.out
                          have lc0 : wy.cell? ⟨ql, 0, none⟩ = some (.int .u64 (P.wrd (P.ofL ms &&& (I &&& P.full (n : Int))) 0)) := hbb.cell 0 _ rfl
                          have lc1 : wy.cell? ⟨ql, 1, none⟩ = some (.int .u64 (P.wrd (P.ofL ms &&& (I &&& P.full (n : Int))) 1)) := hbb.cell 1 _ rfl
                          have lc2 : wy.cell? ⟨ql, 2, none⟩ = some (.int .u64 (P.wrd (P.ofL ms &&& (I &&& P.full (n : Int))) 2)) := hbb.cell 2 _ rfl
                          have lc3 : wy.cell? ⟨ql, 3, none⟩ = some (.int .u64 (P.wrd (P.ofL ms &&& (I &&& P.full (n : Int))) 3)) := hbb.cell 3 _ rfl
                          clear hbb
                          have hbb := BQv.out
                          have vc0 : wy.cell? ⟨qv, 0, none⟩ = some (.int .u64 (P.wrd t 0)) := hbb.cell 0 _ rfl
                          have vc1 : wy.cell? ⟨qv, 1, none⟩ = some (.int .u64 (P.wrd t 1)) := hbb.cell 1 _ rfl
                          have vc2 : wy.cell? ⟨qv, 2, none⟩ = some (.int .u64 (P.wrd t 2)) := hbb.cell 2 _ rfl
                          have vc3 : wy.cell? ⟨qv, 3, none⟩ = some (.int .u64 (P.wrd t 3)) := hbb.cell 3 _ rfl
                          clear hbb
                          go_wp2_with fail
                          refine (and_any (P.ofL ms &&& (I &&& P.full (n : Int))) t _).mono ?_
                          rintro e wx ⟨rfl, hb⟩
                          replace BQg := Lib.hid (BQg.out.keep (grown_of_below hb none))
                          replace BQi := Lib.hid (BQi.out.keep (grown_of_below hb none))
                          replace BQl := Lib.hid (BQl.out.keep (grown_of_below hb none))
                          replace BQs := Lib.hid (BQs.out.keep (grown_of_below hb none))
                          replace BQv := Lib.hid (BQv.out.keep (grown_of_below hb none))
                          replace WB := Lib.hid (WB.out.trans (hb.mono WB.out.size))
                          clear hb lc0 lc1 lc2 lc3 vc0 vc1 vc2 vc3 eqa
                          by_cases h5 : (P.ofL ms &&& (I &&& P.full (n : Int))) &&& t = 0#256
                          · have eqa := fun w => set_eq ((P.ofL ms &&& (I &&& P.full (n : Int))) &&& t) 0#256 w
                            rw [decide_eq_true h5, zero_set] at eqa
                            have HUT := Lib.hid (show P.upT g (I &&& P.full (n : Int)) t j = t &&& ~~~P.bit (j : Int) from by unfold P.upT; rw [HMS.out, if_pos ⟨h3, h4, h5⟩])
                            clear h3 h4 h5
                            go_upto_region 26 with (fail)
                            clear eqa
                            have hbb := BQv.out
                            have vc0 : wx.cell? ⟨qv, 0, none⟩ = some (.int .u64 (P.wrd t 0)) := hbb.cell 0 _ rfl
                            have vc1 : wx.cell? ⟨qv, 1, none⟩ = some (.int .u64 (P.wrd t 1)) := hbb.cell 1 _ rfl
                            have vc2 : wx.cell? ⟨qv, 2, none⟩ = some (.int .u64 (P.wrd t 2)) := hbb.cell 2 _ rfl
                            have vc3 : wx.cell? ⟨qv, 3, none⟩ = some (.int .u64 (P.wrd t 3)) := hbb.cell 3 _ rfl
                            clear hbb
                            go_wp2_with fail
                            refine (less_any t (j : Int) _).mono ?_
                            rintro e wu ⟨rfl, hb⟩
                            replace BQg := Lib.hid (BQg.out.keep (grown_of_below hb none))
                            replace BQi := Lib.hid (BQi.out.keep (grown_of_below hb none))
                            replace BQl := Lib.hid (BQl.out.keep (grown_of_below hb none))
                            replace BQs := Lib.hid (BQs.out.keep (grown_of_below hb none))
                            replace BQv := Lib.hid (BQv.out.keep (grown_of_below hb none))
                            replace WB := Lib.hid (WB.out.trans (hb.mono WB.out.size))
                            clear hb vc0 vc1 vc2 vc3
                            have hbb := BQv.out
                            have vc0 : wu.cell? ⟨qv, 0, none⟩ = some (.int .u64 (P.wrd t 0)) := hbb.cell 0 _ rfl
                            have vc1 : wu.cell? ⟨qv, 1, none⟩ = some (.int .u64 (P.wrd t 1)) := hbb.cell 1 _ rfl
                            have vc2 : wu.cell? ⟨qv, 2, none⟩ = some (.int .u64 (P.wrd t 2)) := hbb.cell 2 _ rfl
                            have vc3 : wu.cell? ⟨qv, 3, none⟩ = some (.int .u64 (P.wrd t 3)) := hbb.cell 3 _ rfl
                            have vf0 : wu.frozen? ⟨qv, 0, none⟩ = false := hbb.frozen 0
                            have vf1 : wu.frozen? ⟨qv, 1, none⟩ = false := hbb.frozen 1
                            have vf2 : wu.frozen? ⟨qv, 2, none⟩ = false := hbb.frozen 2
                            have vf3 : wu.frozen? ⟨qv, 3, none⟩ = false := hbb.frozen 3
                            clear hbb
                            go_upto_region 21 with (fail)
                            clear vc0 vc1 vc2 vc3 vf0 vf1 vf2 vf3
                            have BQv := Lib.hid (show Box ((((wu.setCell ⟨qv, 0, none⟩ (.int .u64 (P.wrd (t &&& ~~~P.bit (j : Int)) 0))).setCell ⟨qv, 1, none⟩ (.int .u64 (P.wrd (t &&& ~~~P.bit (j : Int)) 1))).setCell ⟨qv, 2, none⟩ (.int .u64 (P.wrd (t &&& ~~~P.bit (j : Int)) 2))).setCell ⟨qv, 3, none⟩ (.int .u64 (P.wrd (t &&& ~~~P.bit (j : Int)) 3))) qv 28 #[.int .u64 (P.wrd (t &&& ~~~P.bit (j : Int)) 0), .int .u64 (P.wrd (t &&& ~~~P.bit (j : Int)) 1), .int .u64 (P.wrd (t &&& ~~~P.bit (j : Int)) 2), .int .u64 (P.wrd (t &&& ~~~P.bit (j : Int)) 3)] from Blk.store (show Blk wu qv t 28 from BQv.out) (t &&& ~~~P.bit (j : Int)))
                            have BQg := Lib.hid (far4 (.int .u64 (P.wrd (t &&& ~~~P.bit (j : Int)) 0)) (.int .u64 (P.wrd (t &&& ~~~P.bit (j : Int)) 1)) (.int .u64 (P.wrd (t &&& ~~~P.bit (j : Int)) 2)) (.int .u64 (P.wrd (t &&& ~~~P.bit (j : Int)) 3)) BQg.out (show qg ≠ qv from HNE_.out.2.2.2.2.1))
                            have BQi := Lib.hid (far4 (.int .u64 (P.wrd (t &&& ~~~P.bit (j : Int)) 0)) (.int .u64 (P.wrd (t &&& ~~~P.bit (j : Int)) 1)) (.int .u64 (P.wrd (t &&& ~~~P.bit (j : Int)) 2)) (.int .u64 (P.wrd (t &&& ~~~P.bit (j : Int)) 3)) BQi.out (show qi ≠ qv from HNE_.out.2.2.2.2.2.1))
                            have BQl := Lib.hid (far4 (.int .u64 (P.wrd (t &&& ~~~P.bit (j : Int)) 0)) (.int .u64 (P.wrd (t &&& ~~~P.bit (j : Int)) 1)) (.int .u64 (P.wrd (t &&& ~~~P.bit (j : Int)) 2)) (.int .u64 (P.wrd (t &&& ~~~P.bit (j : Int)) 3)) BQl.out (show ql ≠ qv from HNE_.out.2.2.2.2.2.2.1))
                            have BQs := Lib.hid (far4 (.int .u64 (P.wrd (t &&& ~~~P.bit (j : Int)) 0)) (.int .u64 (P.wrd (t &&& ~~~P.bit (j : Int)) 1)) (.int .u64 (P.wrd (t &&& ~~~P.bit (j : Int)) 2)) (.int .u64 (P.wrd (t &&& ~~~P.bit (j : Int)) 3)) BQs.out (show qs ≠ qv from HNE_.out.2.2.2.2.2.2.2))
                            replace WB := Lib.hid (WB.out.trans (below4 (w := wu) (q := qv) (.int .u64 (P.wrd (t &&& ~~~P.bit (j : Int)) 0)) (.int .u64 (P.wrd (t &&& ~~~P.bit (j : Int)) 1)) (.int .u64 (P.wrd (t &&& ~~~P.bit (j : Int)) 2)) (.int .u64 (P.wrd (t &&& ~~~P.bit (j : Int)) 3)) (Nat.le_trans LWB.out HQ_.out.2.1)))
                            generalize ((((wu.setCell ⟨qv, 0, none⟩ (.int .u64 (P.wrd (t &&& ~~~P.bit (j : Int)) 0))).setCell ⟨qv, 1, none⟩ (.int .u64 (P.wrd (t &&& ~~~P.bit (j : Int)) 1))).setCell ⟨qv, 2, none⟩ (.int .u64 (P.wrd (t &&& ~~~P.bit (j : Int)) 2))).setCell ⟨qv, 3, none⟩ (.int .u64 (P.wrd (t &&& ~~~P.bit (j : Int)) 3))) = wt at BQg BQi BQl BQs BQv WB ⊢
                            have HS := Lib.hid (show Box _ qs 28 #[.int .u64 (P.wrd (P.upS g (I &&& P.full (n : Int)) s j) 0), .int .u64 (P.wrd (P.upS g (I &&& P.full (n : Int)) s j) 1), .int .u64 (P.wrd (P.upS g (I &&& P.full (n : Int)) s j) 2), .int .u64 (P.wrd (P.upS g (I &&& P.full (n : Int)) s j) 3)] from by rw [HUS.out]; exact BQs.out)
                            have HT := Lib.hid (show Box _ qv 28 #[.int .u64 (P.wrd (P.upT g (I &&& P.full (n : Int)) t j) 0), .int .u64 (P.wrd (P.upT g (I &&& P.full (n : Int)) t j) 1), .int .u64 (P.wrd (P.upT g (I &&& P.full (n : Int)) t j) 2), .int .u64 (P.wrd (P.upT g (I &&& P.full (n : Int)) t j) 3)] from by rw [HUT.out]; exact BQv.out)
                            go_wp2_with fail
                            go_roundw
                            case rel => exact ⟨j + 1, by omega, by go_num, WB.out, by rw [fold_succ, HSJ.out]; exact HS.out, by rw [fold_succ, HTJ.out]; exact HT.out⟩
                            case measure => simp [intOf]; omega
                          · have eqa := fun w => set_eq ((P.ofL ms &&& (I &&& P.full (n : Int))) &&& t) 0#256 w
                            rw [decide_eq_false h5, zero_set] at eqa
                            have HUT := Lib.hid (show P.upT g (I &&& P.full (n : Int)) t j = t from by unfold P.upT; rw [HMS.out, if_neg (fun h => h5 h.2.2)])
                            clear h3 h4 h5
                            have HS := Lib.hid (show Box _ qs 28 #[.int .u64 (P.wrd (P.upS g (I &&& P.full (n : Int)) s j) 0), .int .u64 (P.wrd (P.upS g (I &&& P.full (n : Int)) s j) 1), .int .u64 (P.wrd (P.upS g (I &&& P.full (n : Int)) s j) 2), .int .u64 (P.wrd (P.upS g (I &&& P.full (n : Int)) s j) 3)] from by rw [HUS.out]; exact BQs.out)
                            have HT := Lib.hid (show Box _ qv 28 #[.int .u64 (P.wrd (P.upT g (I &&& P.full (n : Int)) t j) 0), .int .u64 (P.wrd (P.upT g (I &&& P.full (n : Int)) t j) 1), .int .u64 (P.wrd (P.upT g (I &&& P.full (n : Int)) t j) 2), .int .u64 (P.wrd (P.upT g (I &&& P.full (n : Int)) t j) 3)] from by rw [HUT.out]; exact BQv.out)
                            go_wp2_with fail
                            go_roundw
                            case rel => exact ⟨j + 1, by omega, by go_num, WB.out, by rw [fold_succ, HSJ.out]; exact HS.out, by rw [fold_succ, HTJ.out]; exact HT.out⟩
                            case measure => simp [intOf]; omega
                      · have h3 : t.getLsbD j = false := by simpa using h3
                        rw [h3]
                        have HUT := Lib.hid (show P.upT g (I &&& P.full (n : Int)) t j = t from by unfold P.upT; rw [if_neg (fun h => by rw [h3] at h; cases h.1)])
                        clear h3
                        have HS := Lib.hid (show Box _ qs 28 #[.int .u64 (P.wrd (P.upS g (I &&& P.full (n : Int)) s j) 0), .int .u64 (P.wrd (P.upS g (I &&& P.full (n : Int)) s j) 1), .int .u64 (P.wrd (P.upS g (I &&& P.full (n : Int)) s j) 2), .int .u64 (P.wrd (P.upS g (I &&& P.full (n : Int)) s j) 3)] from by rw [HUS.out]; exact BQs.out)
                        have HT := Lib.hid (show Box _ qv 28 #[.int .u64 (P.wrd (P.upT g (I &&& P.full (n : Int)) t j) 0), .int .u64 (P.wrd (P.upT g (I &&& P.full (n : Int)) t j) 1), .int .u64 (P.wrd (P.upT g (I &&& P.full (n : Int)) t j) 2), .int .u64 (P.wrd (P.upT g (I &&& P.full (n : Int)) t j) 3)] from by rw [HUT.out]; exact BQv.out)
                        go_wp2_with fail
                        go_roundw
                        case rel => exact ⟨j + 1, by omega, by go_num, WB.out, by rw [fold_succ, HSJ.out]; exact HS.out, by rw [fold_succ, HTJ.out]; exact HT.out⟩
                        case measure => simp [intOf]; omega
                  · have h1 : (I &&& P.full (n : Int)).getLsbD j = false := by simpa using h1
                    rw [h1]
                    have HUS := Lib.hid (show P.upS g (I &&& P.full (n : Int)) s j = s from by unfold P.upS; rw [if_neg (fun h => by rw [h1] at h; cases h.1)])
                    clear h1
                    go_upto_region 25 with (fail)
                    generalize w9 = wz at BQg BQi BQl BQs BQv WB ⊢
                    have hbb := BQv.out
                    have vc0 : wz.cell? ⟨qv, 0, none⟩ = some (.int .u64 (P.wrd t 0)) := hbb.cell 0 _ rfl
                    have vc1 : wz.cell? ⟨qv, 1, none⟩ = some (.int .u64 (P.wrd t 1)) := hbb.cell 1 _ rfl
                    have vc2 : wz.cell? ⟨qv, 2, none⟩ = some (.int .u64 (P.wrd t 2)) := hbb.cell 2 _ rfl
                    have vc3 : wz.cell? ⟨qv, 3, none⟩ = some (.int .u64 (P.wrd t 3)) := hbb.cell 3 _ rfl
                    clear hbb
                    go_wp2_with fail
                    refine (has_any t (j : Int) _).mono ?_
                    rintro e wy ⟨rfl, hb⟩
                    replace BQg := Lib.hid (BQg.out.keep (grown_of_below hb none))
                    replace BQi := Lib.hid (BQi.out.keep (grown_of_below hb none))
                    replace BQl := Lib.hid (BQl.out.keep (grown_of_below hb none))
                    replace BQs := Lib.hid (BQs.out.keep (grown_of_below hb none))
                    replace BQv := Lib.hid (BQv.out.keep (grown_of_below hb none))
                    replace WB := Lib.hid (WB.out.trans (hb.mono WB.out.size))
                    clear hb vc0 vc1 vc2 vc3
                    rw [P.has_nat]
                    by_cases h3 : t.getLsbD j = true
                    · rw [h3]
                      by_cases h4 : (P.ofL ms &&& (I &&& P.full (n : Int))) = 0#256
                      · have eqa := fun w => set_neq (P.ofL ms &&& (I &&& P.full (n : Int))) 0#256 w
                        rw [decide_eq_true h4, zero_set] at eqa
                        have HUT := Lib.hid (show P.upT g (I &&& P.full (n : Int)) t j = t from by unfold P.upT; rw [HMS.out, if_neg (fun h => h.2.1 h4)])
                        clear h3 h4
                        have hbb := BQl.out
                        have lc0 : wy.cell? ⟨ql, 0, none⟩ = some (.int .u64 (P.wrd (P.ofL ms &&& (I &&& P.full (n : Int))) 0)) := hbb.cell 0 _ rfl
                        have lc1 : wy.cell? ⟨ql, 1, none⟩ = some (.int .u64 (P.wrd (P.ofL ms &&& (I &&& P.full (n : Int))) 1)) := hbb.cell 1 _ rfl
                        have lc2 : wy.cell? ⟨ql, 2, none⟩ = some (.int .u64 (P.wrd (P.ofL ms &&& (I &&& P.full (n : Int))) 2)) := hbb.cell 2 _ rfl
                        have lc3 : wy.cell? ⟨ql, 3, none⟩ = some (.int .u64 (P.wrd (P.ofL ms &&& (I &&& P.full (n : Int))) 3)) := hbb.cell 3 _ rfl
                        clear hbb
                        have HS := Lib.hid (show Box _ qs 28 #[.int .u64 (P.wrd (P.upS g (I &&& P.full (n : Int)) s j) 0), .int .u64 (P.wrd (P.upS g (I &&& P.full (n : Int)) s j) 1), .int .u64 (P.wrd (P.upS g (I &&& P.full (n : Int)) s j) 2), .int .u64 (P.wrd (P.upS g (I &&& P.full (n : Int)) s j) 3)] from by rw [HUS.out]; exact BQs.out)
                        have HT := Lib.hid (show Box _ qv 28 #[.int .u64 (P.wrd (P.upT g (I &&& P.full (n : Int)) t j) 0), .int .u64 (P.wrd (P.upT g (I &&& P.full (n : Int)) t j) 1), .int .u64 (P.wrd (P.upT g (I &&& P.full (n : Int)) t j) 2), .int .u64 (P.wrd (P.upT g (I &&& P.full (n : Int)) t j) 3)] from by rw [HUT.out]; exact BQv.out)
                        go_wp2_with fail
                        go_roundw
                        case rel => exact ⟨j + 1, by omega, by go_num, WB.out, by rw [fold_succ, HSJ.out]; exact HS.out, by rw [fold_succ, HTJ.out]; exact HT.out⟩
                        case measure => simp [intOf]; omega
                      · have eqa := fun w => set_neq (P.ofL ms &&& (I &&& P.full (n : Int))) 0#256 w
                        rw [decide_eq_false h4, zero_set] at eqa
                        have hbb := BQl.out
                        have lc0 : wy.cell? ⟨ql, 0, none⟩ = some (.int .u64 (P.wrd (P.ofL ms &&& (I &&& P.full (n : Int))) 0)) := hbb.cell 0 _ rfl
                        have lc1 : wy.cell? ⟨ql, 1, none⟩ = some (.int .u64 (P.wrd (P.ofL ms &&& (I &&& P.full (n : Int))) 1)) := hbb.cell 1 _ rfl
                        have lc2 : wy.cell? ⟨ql, 2, none⟩ = some (.int .u64 (P.wrd (P.ofL ms &&& (I &&& P.full (n : Int))) 2)) := hbb.cell 2 _ rfl
                        have lc3 : wy.cell? ⟨ql, 3, none⟩ = some (.int .u64 (P.wrd (P.ofL ms &&& (I &&& P.full (n : Int))) 3)) := hbb.cell 3 _ rfl
                        clear hbb
                        have hbb := BQv.out
                        have vc0 : wy.cell? ⟨qv, 0, none⟩ = some (.int .u64 (P.wrd t 0)) := hbb.cell 0 _ rfl
                        have vc1 : wy.cell? ⟨qv, 1, none⟩ = some (.int .u64 (P.wrd t 1)) := hbb.cell 1 _ rfl
                        have vc2 : wy.cell? ⟨qv, 2, none⟩ = some (.int .u64 (P.wrd t 2)) := hbb.cell 2 _ rfl
                        have vc3 : wy.cell? ⟨qv, 3, none⟩ = some (.int .u64 (P.wrd t 3)) := hbb.cell 3 _ rfl
                        clear hbb
                        go_wp2_with fail
                        refine (and_any (P.ofL ms &&& (I &&& P.full (n : Int))) t _).mono ?_
                        rintro e wx ⟨rfl, hb⟩
                        replace BQg := Lib.hid (BQg.out.keep (grown_of_below hb none))
                        replace BQi := Lib.hid (BQi.out.keep (grown_of_below hb none))
                        replace BQl := Lib.hid (BQl.out.keep (grown_of_below hb none))
                        replace BQs := Lib.hid (BQs.out.keep (grown_of_below hb none))
                        replace BQv := Lib.hid (BQv.out.keep (grown_of_below hb none))
                        replace WB := Lib.hid (WB.out.trans (hb.mono WB.out.size))
                        clear hb lc0 lc1 lc2 lc3 vc0 vc1 vc2 vc3 eqa
                        by_cases h5 : (P.ofL ms &&& (I &&& P.full (n : Int))) &&& t = 0#256
                        · have eqa := fun w => set_eq ((P.ofL ms &&& (I &&& P.full (n : Int))) &&& t) 0#256 w
                          rw [decide_eq_true h5, zero_set] at eqa
                          have HUT := Lib.hid (show P.upT g (I &&& P.full (n : Int)) t j = t &&& ~~~P.bit (j : Int) from by unfold P.upT; rw [HMS.out, if_pos ⟨h3, h4, h5⟩])
                          clear h3 h4 h5
                          go_upto_region 26 with (fail)
                          clear eqa
                          have hbb := BQv.out
                          have vc0 : wx.cell? ⟨qv, 0, none⟩ = some (.int .u64 (P.wrd t 0)) := hbb.cell 0 _ rfl
                          have vc1 : wx.cell? ⟨qv, 1, none⟩ = some (.int .u64 (P.wrd t 1)) := hbb.cell 1 _ rfl
                          have vc2 : wx.cell? ⟨qv, 2, none⟩ = some (.int .u64 (P.wrd t 2)) := hbb.cell 2 _ rfl
                          have vc3 : wx.cell? ⟨qv, 3, none⟩ = some (.int .u64 (P.wrd t 3)) := hbb.cell 3 _ rfl
                          clear hbb
                          go_wp2_with fail
                          refine (less_any t (j : Int) _).mono ?_
                          rintro e wu ⟨rfl, hb⟩
                          replace BQg := Lib.hid (BQg.out.keep (grown_of_below hb none))
                          replace BQi := Lib.hid (BQi.out.keep (grown_of_below hb none))
                          replace BQl := Lib.hid (BQl.out.keep (grown_of_below hb none))
                          replace BQs := Lib.hid (BQs.out.keep (grown_of_below hb none))
                          replace BQv := Lib.hid (BQv.out.keep (grown_of_below hb none))
                          replace WB := Lib.hid (WB.out.trans (hb.mono WB.out.size))
                          clear hb vc0 vc1 vc2 vc3
                          have hbb := BQv.out
                          have vc0 : wu.cell? ⟨qv, 0, none⟩ = some (.int .u64 (P.wrd t 0)) := hbb.cell 0 _ rfl
                          have vc1 : wu.cell? ⟨qv, 1, none⟩ = some (.int .u64 (P.wrd t 1)) := hbb.cell 1 _ rfl
                          have vc2 : wu.cell? ⟨qv, 2, none⟩ = some (.int .u64 (P.wrd t 2)) := hbb.cell 2 _ rfl
                          have vc3 : wu.cell? ⟨qv, 3, none⟩ = some (.int .u64 (P.wrd t 3)) := hbb.cell 3 _ rfl
                          have vf0 : wu.frozen? ⟨qv, 0, none⟩ = false := hbb.frozen 0
                          have vf1 : wu.frozen? ⟨qv, 1, none⟩ = false := hbb.frozen 1
                          have vf2 : wu.frozen? ⟨qv, 2, none⟩ = false := hbb.frozen 2
                          have vf3 : wu.frozen? ⟨qv, 3, none⟩ = false := hbb.frozen 3
                          clear hbb
                          go_upto_region 21 with (fail)
                          clear vc0 vc1 vc2 vc3 vf0 vf1 vf2 vf3
                          have BQv := Lib.hid (show Box ((((wu.setCell ⟨qv, 0, none⟩ (.int .u64 (P.wrd (t &&& ~~~P.bit (j : Int)) 0))).setCell ⟨qv, 1, none⟩ (.int .u64 (P.wrd (t &&& ~~~P.bit (j : Int)) 1))).setCell ⟨qv, 2, none⟩ (.int .u64 (P.wrd (t &&& ~~~P.bit (j : Int)) 2))).setCell ⟨qv, 3, none⟩ (.int .u64 (P.wrd (t &&& ~~~P.bit (j : Int)) 3))) qv 28 #[.int .u64 (P.wrd (t &&& ~~~P.bit (j : Int)) 0), .int .u64 (P.wrd (t &&& ~~~P.bit (j : Int)) 1), .int .u64 (P.wrd (t &&& ~~~P.bit (j : Int)) 2), .int .u64 (P.wrd (t &&& ~~~P.bit (j : Int)) 3)] from Blk.store (show Blk wu qv t 28 from BQv.out) (t &&& ~~~P.bit (j : Int)))
                          have BQg := Lib.hid (far4 (.int .u64 (P.wrd (t &&& ~~~P.bit (j : Int)) 0)) (.int .u64 (P.wrd (t &&& ~~~P.bit (j : Int)) 1)) (.int .u64 (P.wrd (t &&& ~~~P.bit (j : Int)) 2)) (.int .u64 (P.wrd (t &&& ~~~P.bit (j : Int)) 3)) BQg.out (show qg ≠ qv from HNE_.out.2.2.2.2.1))
                          have BQi := Lib.hid (far4 (.int .u64 (P.wrd (t &&& ~~~P.bit (j : Int)) 0)) (.int .u64 (P.wrd (t &&& ~~~P.bit (j : Int)) 1)) (.int .u64 (P.wrd (t &&& ~~~P.bit (j : Int)) 2)) (.int .u64 (P.wrd (t &&& ~~~P.bit (j : Int)) 3)) BQi.out (show qi ≠ qv from HNE_.out.2.2.2.2.2.1))
                          have BQl := Lib.hid (far4 (.int .u64 (P.wrd (t &&& ~~~P.bit (j : Int)) 0)) (.int .u64 (P.wrd (t &&& ~~~P.bit (j : Int)) 1)) (.int .u64 (P.wrd (t &&& ~~~P.bit (j : Int)) 2)) (.int .u64 (P.wrd (t &&& ~~~P.bit (j : Int)) 3)) BQl.out (show ql ≠ qv from HNE_.out.2.2.2.2.2.2.1))
                          have BQs := Lib.hid (far4 (.int .u64 (P.wrd (t &&& ~~~P.bit (j : Int)) 0)) (.int .u64 (P.wrd (t &&& ~~~P.bit (j : Int)) 1)) (.int .u64 (P.wrd (t &&& ~~~P.bit (j : Int)) 2)) (.int .u64 (P.wrd (t &&& ~~~P.bit (j : Int)) 3)) BQs.out (show qs ≠ qv from HNE_.out.2.2.2.2.2.2.2))
                          replace WB := Lib.hid (WB.out.trans (below4 (w := wu) (q := qv) (.int .u64 (P.wrd (t &&& ~~~P.bit (j : Int)) 0)) (.int .u64 (P.wrd (t &&& ~~~P.bit (j : Int)) 1)) (.int .u64 (P.wrd (t &&& ~~~P.bit (j : Int)) 2)) (.int .u64 (P.wrd (t &&& ~~~P.bit (j : Int)) 3)) (Nat.le_trans LWB.out HQ_.out.2.1)))
                          generalize ((((wu.setCell ⟨qv, 0, none⟩ (.int .u64 (P.wrd (t &&& ~~~P.bit (j : Int)) 0))).setCell ⟨qv, 1, none⟩ (.int .u64 (P.wrd (t &&& ~~~P.bit (j : Int)) 1))).setCell ⟨qv, 2, none⟩ (.int .u64 (P.wrd (t &&& ~~~P.bit (j : Int)) 2))).setCell ⟨qv, 3, none⟩ (.int .u64 (P.wrd (t &&& ~~~P.bit (j : Int)) 3))) = wt at BQg BQi BQl BQs BQv WB ⊢
                          have HS := Lib.hid (show Box _ qs 28 #[.int .u64 (P.wrd (P.upS g (I &&& P.full (n : Int)) s j) 0), .int .u64 (P.wrd (P.upS g (I &&& P.full (n : Int)) s j) 1), .int .u64 (P.wrd (P.upS g (I &&& P.full (n : Int)) s j) 2), .int .u64 (P.wrd (P.upS g (I &&& P.full (n : Int)) s j) 3)] from by rw [HUS.out]; exact BQs.out)
                          have HT := Lib.hid (show Box _ qv 28 #[.int .u64 (P.wrd (P.upT g (I &&& P.full (n : Int)) t j) 0), .int .u64 (P.wrd (P.upT g (I &&& P.full (n : Int)) t j) 1), .int .u64 (P.wrd (P.upT g (I &&& P.full (n : Int)) t j) 2), .int .u64 (P.wrd (P.upT g (I &&& P.full (n : Int)) t j) 3)] from by rw [HUT.out]; exact BQv.out)
                          go_wp2_with fail
                          go_roundw
                          case rel => exact ⟨j + 1, by omega, by go_num, WB.out, by rw [fold_succ, HSJ.out]; exact HS.out, by rw [fold_succ, HTJ.out]; exact HT.out⟩
                          case measure => simp [intOf]; omega
                        · have eqa := fun w => set_eq ((P.ofL ms &&& (I &&& P.full (n : Int))) &&& t) 0#256 w
                          rw [decide_eq_false h5, zero_set] at eqa
                          have HUT := Lib.hid (show P.upT g (I &&& P.full (n : Int)) t j = t from by unfold P.upT; rw [HMS.out, if_neg (fun h => h5 h.2.2)])
                          clear h3 h4 h5
                          have HS := Lib.hid (show Box _ qs 28 #[.int .u64 (P.wrd (P.upS g (I &&& P.full (n : Int)) s j) 0), .int .u64 (P.wrd (P.upS g (I &&& P.full (n : Int)) s j) 1), .int .u64 (P.wrd (P.upS g (I &&& P.full (n : Int)) s j) 2), .int .u64 (P.wrd (P.upS g (I &&& P.full (n : Int)) s j) 3)] from by rw [HUS.out]; exact BQs.out)
                          have HT := Lib.hid (show Box _ qv 28 #[.int .u64 (P.wrd (P.upT g (I &&& P.full (n : Int)) t j) 0), .int .u64 (P.wrd (P.upT g (I &&& P.full (n : Int)) t j) 1), .int .u64 (P.wrd (P.upT g (I &&& P.full (n : Int)) t j) 2), .int .u64 (P.wrd (P.upT g (I &&& P.full (n : Int)) t j) 3)] from by rw [HUT.out]; exact BQv.out)
                          go_wp2_with fail
                          go_roundw
                          case rel => exact ⟨j + 1, by omega, by go_num, WB.out, by rw [fold_succ, HSJ.out]; exact HS.out, by rw [fold_succ, HTJ.out]; exact HT.out⟩
                          case measure => simp [intOf]; omega
                    · have h3 : t.getLsbD j = false := by simpa using h3
                      rw [h3]
                      have HUT := Lib.hid (show P.upT g (I &&& P.full (n : Int)) t j = t from by unfold P.upT; rw [if_neg (fun h => by rw [h3] at h; cases h.1)])
                      clear h3
                      have HS := Lib.hid (show Box _ qs 28 #[.int .u64 (P.wrd (P.upS g (I &&& P.full (n : Int)) s j) 0), .int .u64 (P.wrd (P.upS g (I &&& P.full (n : Int)) s j) 1), .int .u64 (P.wrd (P.upS g (I &&& P.full (n : Int)) s j) 2), .int .u64 (P.wrd (P.upS g (I &&& P.full (n : Int)) s j) 3)] from by rw [HUS.out]; exact BQs.out)
                      have HT := Lib.hid (show Box _ qv 28 #[.int .u64 (P.wrd (P.upT g (I &&& P.full (n : Int)) t j) 0), .int .u64 (P.wrd (P.upT g (I &&& P.full (n : Int)) t j) 1), .int .u64 (P.wrd (P.upT g (I &&& P.full (n : Int)) t j) 2), .int .u64 (P.wrd (P.upT g (I &&& P.full (n : Int)) t j) 3)] from by rw [HUT.out]; exact BQv.out)
                      go_wp2_with fail
                      go_roundw
                      case rel => exact ⟨j + 1, by omega, by go_num, WB.out, by rw [fold_succ, HSJ.out]; exact HS.out, by rw [fold_succ, HTJ.out]; exact HT.out⟩
                      case measure => simp [intOf]; omega
              · have fj : decide ((j : Int) < (n : Int)) = false := decide_eq_false (by omega)
                have hjn : j = n := by omega
                have HRS := Lib.hid (show Box wr qs 28 #[.int .u64 (P.wrd (P.iter (fun s => (List.range n).foldl (P.upS g (I &&& P.full (n : Int))) s) (r + 1) (To &&& (I &&& P.full (n : Int)))) 0), .int .u64 (P.wrd (P.iter (fun s => (List.range n).foldl (P.upS g (I &&& P.full (n : Int))) s) (r + 1) (To &&& (I &&& P.full (n : Int)))) 1), .int .u64 (P.wrd (P.iter (fun s => (List.range n).foldl (P.upS g (I &&& P.full (n : Int))) s) (r + 1) (To &&& (I &&& P.full (n : Int)))) 2), .int .u64 (P.wrd (P.iter (fun s => (List.range n).foldl (P.upS g (I &&& P.full (n : Int))) s) (r + 1) (To &&& (I &&& P.full (n : Int)))) 3)] from by
                  rw [iter_succ, HS0.out]
                  have h1 := HSJ.out
                  rw [hjn] at h1
                  rw [h1]
                  exact BQs.out)
                have HRV := Lib.hid (show Box wr qv 28 #[.int .u64 (P.wrd (P.iter (fun s => (List.range n).foldl (P.upT g (I &&& P.full (n : Int))) s) (r + 1) ((I &&& P.full (n : Int)) &&& ~~~To)) 0), .int .u64 (P.wrd (P.iter (fun s => (List.range n).foldl (P.upT g (I &&& P.full (n : Int))) s) (r + 1) ((I &&& P.full (n : Int)) &&& ~~~To)) 1), .int .u64 (P.wrd (P.iter (fun s => (List.range n).foldl (P.upT g (I &&& P.full (n : Int))) s) (r + 1) ((I &&& P.full (n : Int)) &&& ~~~To)) 2), .int .u64 (P.wrd (P.iter (fun s => (List.range n).foldl (P.upT g (I &&& P.full (n : Int))) s) (r + 1) ((I &&& P.full (n : Int)) &&& ~~~To)) 3)] from by
                  rw [iter_succ, HT0.out]
                  have h1 := HTJ.out
                  rw [hjn] at h1
                  rw [h1]
                  exact BQv.out)
                clear hjn
                go_wp2_with fail
                go_roundw
                case rel => exact ⟨r + 1, by omega, by go_num, WB.out, HRS.out, HRV.out⟩
                case measure => simp [intOf]; omega
          · have fr : decide ((r : Int) ≤ (n : Int)) = false := decide_eq_false (by omega)
            have hrn : r = n + 1 := by omega
            rw [hrn] at BQs BQv
            obtain ⟨sf, hsf⟩ : ∃ s, (P.iter (fun s => (List.range n).foldl (P.upS g (I &&& P.full (n : Int))) s) (n + 1) (To &&& (I &&& P.full (n : Int)))) = s := ⟨_, rfl⟩
            obtain ⟨tf, htf⟩ : ∃ s, (P.iter (fun s => (List.range n).foldl (P.upT g (I &&& P.full (n : Int))) s) (n + 1) ((I &&& P.full (n : Int)) &&& ~~~To)) = s := ⟨_, rfl⟩
            rw [hsf] at BQs
            rw [htf] at BQv
            have HSF := Lib.hid hsf
            have HTF := Lib.hid htf
            have W := Lib.hid (HWA.out.trans (WB.out.mono HWA.out.size))
            have BQg := Lib.hid (HBQg.out.keep (grown_of_below WB.out none))
            have BQi := Lib.hid (HBQi.out.keep (grown_of_below WB.out none))
            have BQt := Lib.hid (HBQt.out.keep (grown_of_below WB.out none))
            have BQf := Lib.hid (HBQf.out.keep (grown_of_below WB.out none))
            have BQh := Lib.hid (HBQh.out.keep (grown_of_below WB.out none))
            have GF := Lib.hid (HGF.out.on WB.out)
            have GH := Lib.hid (HGH.out.on WB.out)
            clear hsf htf hrn
            go_upto_region 27 with (fail)
            have hbb := BQf.out
            have gc0 : wr.cell? ⟨qf, 0, none⟩ = some (.slice (some ⟨pf, 0, none⟩) n fka) := hbb.cell 0 _ rfl
            have gc1 : wr.cell? ⟨qf, 1, none⟩ = some (.slice fb n fkb) := hbb.cell 1 _ rfl
            have gc2 : wr.cell? ⟨qf, 2, none⟩ = some (.slice fc n fkc) := hbb.cell 2 _ rfl
            clear hbb
            have hbb := BQi.out
            have ic0 : wr.cell? ⟨qi, 0, none⟩ = some (.int .u64 (P.wrd (I &&& P.full (n : Int)) 0)) := hbb.cell 0 _ rfl
            have ic1 : wr.cell? ⟨qi, 1, none⟩ = some (.int .u64 (P.wrd (I &&& P.full (n : Int)) 1)) := hbb.cell 1 _ rfl
            have ic2 : wr.cell? ⟨qi, 2, none⟩ = some (.int .u64 (P.wrd (I &&& P.full (n : Int)) 2)) := hbb.cell 2 _ rfl
            have ic3 : wr.cell? ⟨qi, 3, none⟩ = some (.int .u64 (P.wrd (I &&& P.full (n : Int)) 3)) := hbb.cell 3 _ rfl
            clear hbb
            have hbb := BQt.out
            have tc0 : wr.cell? ⟨qt, 0, none⟩ = some (.int .u64 (P.wrd To 0)) := hbb.cell 0 _ rfl
            have tc1 : wr.cell? ⟨qt, 1, none⟩ = some (.int .u64 (P.wrd To 1)) := hbb.cell 1 _ rfl
            have tc2 : wr.cell? ⟨qt, 2, none⟩ = some (.int .u64 (P.wrd To 2)) := hbb.cell 2 _ rfl
            have tc3 : wr.cell? ⟨qt, 3, none⟩ = some (.int .u64 (P.wrd To 3)) := hbb.cell 3 _ rfl
            clear hbb
            go_wp2_with fail
            refine (attract_any (g.all 0) (I &&& P.full (n : Int)) To 0 _ _ GF.out (T.out.on W.out)).mono ?_
            rintro e u2 ⟨v2, m2, rfl, ho2, hm2, hb⟩
            obtain ⟨vo2, vk2, rfl, -⟩ := own_at ho2
            replace BQg := Lib.hid (BQg.out.keep (grown_of_below hb none))
            replace BQi := Lib.hid (BQi.out.keep (grown_of_below hb none))
            replace BQt := Lib.hid (BQt.out.keep (grown_of_below hb none))
            replace BQf := Lib.hid (BQf.out.keep (grown_of_below hb none))
            replace BQh := Lib.hid (BQh.out.keep (grown_of_below hb none))
            replace GF := Lib.hid (GF.out.on hb)
            replace GH := Lib.hid (GH.out.on hb)
            replace W := Lib.hid (W.out.trans (hb.mono W.out.size))
            replace BQs := Lib.hid (BQs.out.keep (grown_of_below hb none))
            replace BQv := Lib.hid (BQv.out.keep (grown_of_below hb none))
            obtain ⟨s2, hs2⟩ : ∃ s, P.attOf (g.all 0) (I &&& P.full (n : Int)) 0 To = s := ⟨_, rfl⟩
            rw [hs2]
            have HS2 := Lib.hid hs2
            clear hb hs2 gc0 gc1 gc2 ic0 ic1 ic2 ic3 tc0 tc1 tc2 tc3
            clear ho2 hm2
            go_upto_region 28 with (fail)
            have bq : Box (u2.alloc (.cells #[.int .u64 (P.wrd s2 0), .int .u64 (P.wrd s2 1), .int .u64 (P.wrd s2 2), .int .u64 (P.wrd s2 3)] 28)) u2.heap.size 28 #[.int .u64 (P.wrd s2 0), .int .u64 (P.wrd s2 1), .int .u64 (P.wrd s2 2), .int .u64 (P.wrd s2 3)] := Box.new _ _ _
            have hgq := World.grownBy_alloc u2 (.cells #[.int .u64 (P.wrd s2 0), .int .u64 (P.wrd s2 1), .int .u64 (P.wrd s2 2), .int .u64 (P.wrd s2 3)] 28) none
            replace BQg := Lib.hid (BQg.out.keep hgq)
            replace BQi := Lib.hid (BQi.out.keep hgq)
            replace BQt := Lib.hid (BQt.out.keep hgq)
            replace BQf := Lib.hid (BQf.out.keep hgq)
            replace BQh := Lib.hid (BQh.out.keep hgq)
            replace GF := Lib.hid (GF.out.on (below_of_grown hgq))
            replace GH := Lib.hid (GH.out.on (below_of_grown hgq))
            replace W := Lib.hid (W.out.trans ((below_of_grown hgq).mono W.out.size))
            replace BQs := Lib.hid (BQs.out.keep hgq)
            replace BQv := Lib.hid (BQv.out.keep hgq)
            generalize (u2.alloc (.cells #[.int .u64 (P.wrd s2 0), .int .u64 (P.wrd s2 1), .int .u64 (P.wrd s2 2), .int .u64 (P.wrd s2 3)] 28)) = xa at bq BQg BQi BQt BQf BQh GF GH W BQs BQv ⊢
            generalize u2.heap.size = q2 at bq ⊢
            have BQ2 := Lib.hid bq
            clear bq hgq
            have hbb := BQh.out
            have gc0 : xa.cell? ⟨qh, 0, none⟩ = some (.slice (some ⟨ph, 0, none⟩) n hka) := hbb.cell 0 _ rfl
            have gc1 : xa.cell? ⟨qh, 1, none⟩ = some (.slice hb_ n hkb) := hbb.cell 1 _ rfl
            have gc2 : xa.cell? ⟨qh, 2, none⟩ = some (.slice hc n hkc) := hbb.cell 2 _ rfl
            clear hbb
            have hbb := BQi.out
            have ic0 : xa.cell? ⟨qi, 0, none⟩ = some (.int .u64 (P.wrd (I &&& P.full (n : Int)) 0)) := hbb.cell 0 _ rfl
            have ic1 : xa.cell? ⟨qi, 1, none⟩ = some (.int .u64 (P.wrd (I &&& P.full (n : Int)) 1)) := hbb.cell 1 _ rfl
            have ic2 : xa.cell? ⟨qi, 2, none⟩ = some (.int .u64 (P.wrd (I &&& P.full (n : Int)) 2)) := hbb.cell 2 _ rfl
            have ic3 : xa.cell? ⟨qi, 3, none⟩ = some (.int .u64 (P.wrd (I &&& P.full (n : Int)) 3)) := hbb.cell 3 _ rfl
            clear hbb
            have hbb := BQt.out
            have tc0 : xa.cell? ⟨qt, 0, none⟩ = some (.int .u64 (P.wrd To 0)) := hbb.cell 0 _ rfl
            have tc1 : xa.cell? ⟨qt, 1, none⟩ = some (.int .u64 (P.wrd To 1)) := hbb.cell 1 _ rfl
            have tc2 : xa.cell? ⟨qt, 2, none⟩ = some (.int .u64 (P.wrd To 2)) := hbb.cell 2 _ rfl
            have tc3 : xa.cell? ⟨qt, 3, none⟩ = some (.int .u64 (P.wrd To 3)) := hbb.cell 3 _ rfl
            clear hbb
            go_wp2_with fail
            refine (attract_any (g.all 1) (I &&& P.full (n : Int)) To 0 _ _ GH.out (T.out.on W.out)).mono ?_
            rintro e u3 ⟨v3, m3, rfl, ho3, hm3, hb⟩
            obtain ⟨vo3, vk3, rfl, -⟩ := own_at ho3
            replace BQg := Lib.hid (BQg.out.keep (grown_of_below hb none))
            replace BQi := Lib.hid (BQi.out.keep (grown_of_below hb none))
            replace BQt := Lib.hid (BQt.out.keep (grown_of_below hb none))
            replace BQf := Lib.hid (BQf.out.keep (grown_of_below hb none))
            replace BQh := Lib.hid (BQh.out.keep (grown_of_below hb none))
            replace GF := Lib.hid (GF.out.on hb)
            replace GH := Lib.hid (GH.out.on hb)
            replace W := Lib.hid (W.out.trans (hb.mono W.out.size))
            replace BQs := Lib.hid (BQs.out.keep (grown_of_below hb none))
            replace BQv := Lib.hid (BQv.out.keep (grown_of_below hb none))
            replace BQ2 := Lib.hid (BQ2.out.keep (grown_of_below hb none))
            obtain ⟨s3, hs3⟩ : ∃ s, P.attOf (g.all 1) (I &&& P.full (n : Int)) 0 To = s := ⟨_, rfl⟩
            rw [hs3]
            have HS3 := Lib.hid hs3
            clear hb hs3 gc0 gc1 gc2 ic0 ic1 ic2 ic3 tc0 tc1 tc2 tc3
            clear ho3 hm3
            go_upto_region 29 with (fail)
            have bq : Box (u3.alloc (.cells #[.int .u64 (P.wrd s3 0), .int .u64 (P.wrd s3 1), .int .u64 (P.wrd s3 2), .int .u64 (P.wrd s3 3)] 28)) u3.heap.size 28 #[.int .u64 (P.wrd s3 0), .int .u64 (P.wrd s3 1), .int .u64 (P.wrd s3 2), .int .u64 (P.wrd s3 3)] := Box.new _ _ _
            have hgq := World.grownBy_alloc u3 (.cells #[.int .u64 (P.wrd s3 0), .int .u64 (P.wrd s3 1), .int .u64 (P.wrd s3 2), .int .u64 (P.wrd s3 3)] 28) none
            replace BQg := Lib.hid (BQg.out.keep hgq)
            replace BQi := Lib.hid (BQi.out.keep hgq)
            replace BQt := Lib.hid (BQt.out.keep hgq)
            replace BQf := Lib.hid (BQf.out.keep hgq)
            replace BQh := Lib.hid (BQh.out.keep hgq)
            replace GF := Lib.hid (GF.out.on (below_of_grown hgq))
            replace GH := Lib.hid (GH.out.on (below_of_grown hgq))
            replace W := Lib.hid (W.out.trans ((below_of_grown hgq).mono W.out.size))
            replace BQs := Lib.hid (BQs.out.keep hgq)
            replace BQv := Lib.hid (BQv.out.keep hgq)
            replace BQ2 := Lib.hid (BQ2.out.keep hgq)
            generalize (u3.alloc (.cells #[.int .u64 (P.wrd s3 0), .int .u64 (P.wrd s3 1), .int .u64 (P.wrd s3 2), .int .u64 (P.wrd s3 3)] 28)) = xb at bq BQg BQi BQt BQf BQh GF GH W BQs BQv BQ2 ⊢
            generalize u3.heap.size = q3 at bq ⊢
            have BQ3 := Lib.hid bq
            clear bq hgq
            have hI : ∀ x, (I &&& P.full (n : Int)).getLsbD x = true → x < g.owner.length := fun x hx => by
              rw [BitVec.getLsbD_and, Bool.and_eq_true, P.getLsbD_full, decide_eq_true_eq] at hx
              have := HN.out
              omega
            have e1 : s2 = sf := by
              have h := P.ways_some (g := g.all 0) (To := To) (p := 0) (P.G.all_right HR.out (by omega)) (by omega) (fun i hi => P.G.all_own g 0 i (by rwa [P.G.all_len] at hi)) (fun x hx => by rw [P.G.all_len]; exact hI x hx)
              rw [P.G.all_len, HN.out] at h
              rw [← HS2.out, ← HSF.out]
              exact h
            have e2 : s3 = (I &&& P.full (n : Int)) &&& ~~~tf := by
              have h := P.ways_stays (g := g.all 1) (To := To) (p := 0) (P.G.all_right HR.out (by omega)) (by omega) (fun i hi => by rw [P.G.all_own g 1 i (by rwa [P.G.all_len] at hi)]; decide) (fun x hx => by rw [P.G.all_len]; exact hI x hx)
              rw [P.G.all_len, HN.out] at h
              rw [← HS3.out, ← HTF.out]
              exact h
            have eqx := eq_wrd e1
            have eqy := eq_wrd e2
            have c1 := fun d os => rMinus xb (I &&& P.full (n : Int)) tf d os
            clear e1 e2 hI
            have ka0 : ∀ (d : Nat) (os : Array Obj), (grow (redrawn xb d) os).cell? ⟨q2, 0, none⟩ = some (.int .u64 (P.wrd s2 0)) := fun d os => (BQ2.out.keep (grown_of_below (below_regrown xb d os) none)).cell 0 _ rfl
            have ka1 : ∀ (d : Nat) (os : Array Obj), (grow (redrawn xb d) os).cell? ⟨q2, 1, none⟩ = some (.int .u64 (P.wrd s2 1)) := fun d os => (BQ2.out.keep (grown_of_below (below_regrown xb d os) none)).cell 1 _ rfl
            have ka2 : ∀ (d : Nat) (os : Array Obj), (grow (redrawn xb d) os).cell? ⟨q2, 2, none⟩ = some (.int .u64 (P.wrd s2 2)) := fun d os => (BQ2.out.keep (grown_of_below (below_regrown xb d os) none)).cell 2 _ rfl
            have ka3 : ∀ (d : Nat) (os : Array Obj), (grow (redrawn xb d) os).cell? ⟨q2, 3, none⟩ = some (.int .u64 (P.wrd s2 3)) := fun d os => (BQ2.out.keep (grown_of_below (below_regrown xb d os) none)).cell 3 _ rfl
            have kb0 : ∀ (d : Nat) (os : Array Obj), (grow (redrawn xb d) os).cell? ⟨q3, 0, none⟩ = some (.int .u64 (P.wrd s3 0)) := fun d os => (BQ3.out.keep (grown_of_below (below_regrown xb d os) none)).cell 0 _ rfl
            have kb1 : ∀ (d : Nat) (os : Array Obj), (grow (redrawn xb d) os).cell? ⟨q3, 1, none⟩ = some (.int .u64 (P.wrd s3 1)) := fun d os => (BQ3.out.keep (grown_of_below (below_regrown xb d os) none)).cell 1 _ rfl
            have kb2 : ∀ (d : Nat) (os : Array Obj), (grow (redrawn xb d) os).cell? ⟨q3, 2, none⟩ = some (.int .u64 (P.wrd s3 2)) := fun d os => (BQ3.out.keep (grown_of_below (below_regrown xb d os) none)).cell 2 _ rfl
            have kb3 : ∀ (d : Nat) (os : Array Obj), (grow (redrawn xb d) os).cell? ⟨q3, 3, none⟩ = some (.int .u64 (P.wrd s3 3)) := fun d os => (BQ3.out.keep (grown_of_below (below_regrown xb d os) none)).cell 3 _ rfl
            have ki0 : ∀ (d : Nat) (os : Array Obj), (grow (redrawn xb d) os).cell? ⟨qi, 0, none⟩ = some (.int .u64 (P.wrd (I &&& P.full (n : Int)) 0)) := fun d os => (BQi.out.keep (grown_of_below (below_regrown xb d os) none)).cell 0 _ rfl
            have ki1 : ∀ (d : Nat) (os : Array Obj), (grow (redrawn xb d) os).cell? ⟨qi, 1, none⟩ = some (.int .u64 (P.wrd (I &&& P.full (n : Int)) 1)) := fun d os => (BQi.out.keep (grown_of_below (below_regrown xb d os) none)).cell 1 _ rfl
            have ki2 : ∀ (d : Nat) (os : Array Obj), (grow (redrawn xb d) os).cell? ⟨qi, 2, none⟩ = some (.int .u64 (P.wrd (I &&& P.full (n : Int)) 2)) := fun d os => (BQi.out.keep (grown_of_below (below_regrown xb d os) none)).cell 2 _ rfl
            have ki3 : ∀ (d : Nat) (os : Array Obj), (grow (redrawn xb d) os).cell? ⟨qi, 3, none⟩ = some (.int .u64 (P.wrd (I &&& P.full (n : Int)) 3)) := fun d os => (BQi.out.keep (grown_of_below (below_regrown xb d os) none)).cell 3 _ rfl
            have ks0 : ∀ (d : Nat) (os : Array Obj), (grow (redrawn xb d) os).cell? ⟨qs, 0, none⟩ = some (.int .u64 (P.wrd sf 0)) := fun d os => (BQs.out.keep (grown_of_below (below_regrown xb d os) none)).cell 0 _ rfl
            have ks1 : ∀ (d : Nat) (os : Array Obj), (grow (redrawn xb d) os).cell? ⟨qs, 1, none⟩ = some (.int .u64 (P.wrd sf 1)) := fun d os => (BQs.out.keep (grown_of_below (below_regrown xb d os) none)).cell 1 _ rfl
            have ks2 : ∀ (d : Nat) (os : Array Obj), (grow (redrawn xb d) os).cell? ⟨qs, 2, none⟩ = some (.int .u64 (P.wrd sf 2)) := fun d os => (BQs.out.keep (grown_of_below (below_regrown xb d os) none)).cell 2 _ rfl
            have ks3 : ∀ (d : Nat) (os : Array Obj), (grow (redrawn xb d) os).cell? ⟨qs, 3, none⟩ = some (.int .u64 (P.wrd sf 3)) := fun d os => (BQs.out.keep (grown_of_below (below_regrown xb d os) none)).cell 3 _ rfl
            have kv0 : ∀ (d : Nat) (os : Array Obj), (grow (redrawn xb d) os).cell? ⟨qv, 0, none⟩ = some (.int .u64 (P.wrd tf 0)) := fun d os => (BQv.out.keep (grown_of_below (below_regrown xb d os) none)).cell 0 _ rfl
            have kv1 : ∀ (d : Nat) (os : Array Obj), (grow (redrawn xb d) os).cell? ⟨qv, 1, none⟩ = some (.int .u64 (P.wrd tf 1)) := fun d os => (BQv.out.keep (grown_of_below (below_regrown xb d os) none)).cell 1 _ rfl
            have kv2 : ∀ (d : Nat) (os : Array Obj), (grow (redrawn xb d) os).cell? ⟨qv, 2, none⟩ = some (.int .u64 (P.wrd tf 2)) := fun d os => (BQv.out.keep (grown_of_below (below_regrown xb d os) none)).cell 2 _ rfl
            have kv3 : ∀ (d : Nat) (os : Array Obj), (grow (redrawn xb d) os).cell? ⟨qv, 3, none⟩ = some (.int .u64 (P.wrd tf 3)) := fun d os => (BQv.out.keep (grown_of_below (below_regrown xb d os) none)).cell 3 _ rfl
            refine wp_region_quiet_below (by kernel_rfl) (by kernel_rfl) ?_
            repeat (quiet_step (with_reducible exact c1 _ _))
            refine wpQuiet_nil ?_
            intro _ hw'
            obtain ⟨⟨dq, osq⟩, hw''⟩ := hw'
            subst hw''
            clear c1 eqx eqy ka0 ka1 ka2 ka3 kb0 kb1 kb2 kb3 ki0 ki1 ki2 ki3 ks0 ks1 ks2 ks3 kv0 kv1 kv2 kv3
            have hb := below_regrown xb dq osq
            replace W := Lib.hid (W.out.trans (hb.mono W.out.size))
            clear hb
            generalize (grow (redrawn xb dq) osq) = xc at W ⊢
            go_wp2_with fail
            exact bodyPost_ret (v := .bool true) (by simp [results, Tryd.results8, go_sem]) rfl ⟨rfl, W.out⟩

set_option maxRecDepth 100000 in
set_option maxHeartbeats 4000000 in
theorem ways_1 (g : P.G) (I To : BitVec 256) (v : Value) (w : World) (hv : GameV w v g) (hT : Tab w) (hok : g.ok = true) : Calls Tryd.prog 8 #[v, .agg #[.int .u64 (P.wrd I 0), .int .u64 (P.wrd I 1), .int .u64 (P.wrd I 2), .int .u64 (P.wrd I 3)], .int .i64 1, .agg #[.int .u64 (P.wrd To 0), .int .u64 (P.wrd To 1), .int .u64 (P.wrd To 2), .int .u64 (P.wrd To 3)]] w fun e w' => e = .returned (.bool true) ∧ Below w.heap.size w w' := by
  have hq0 : g.right.2 = 0 := by unfold P.G.ok at hok; exact beq_iff_eq.1 hok
  have hr := (P.G.ok_iff g).1 hok
  have HV := Lib.hid hv
  have HFI := Lib.hid hv.fits
  have hop := hr.prio
  have hmp := hr.moves
  have hmany := hr.many
  have h0 := hr.pos
  obtain ⟨n, hn⟩ : ∃ n, g.owner.length = n := ⟨_, rfl⟩
  rw [hn] at hop hmp hmany h0
  obtain ⟨ba, oa, ka, bb, ob, kb, bc, oc, kc, rfl, hca, -, hcc⟩ := hv.open_ hn hop hmp h0
  have HCA := Lib.hid hca
  have HCC := Lib.hid hcc
  have HR := Lib.hid hr
  have HN := Lib.hid hn
  have HOP := Lib.hid hop
  have HMP := Lib.hid hmp
  clear hca hcc hr hn hop hmp hv
  clear hok
  have T := Lib.hid hT
  clear hT
  go_enter Tryd.func8, Tryd.ntmps8
  go_wp2_with fail
  have bx0 : Box (((w.alloc (.cells #[.slice (some ⟨ba, oa, none⟩) n ka, .slice (some ⟨bb, ob, none⟩) n kb, .slice (some ⟨bc, oc, none⟩) n kc] 25)).alloc (.cells #[.int .u64 (P.wrd I 0), .int .u64 (P.wrd I 1), .int .u64 (P.wrd I 2), .int .u64 (P.wrd I 3)] 28)).alloc (.cells #[.int .u64 (P.wrd To 0), .int .u64 (P.wrd To 1), .int .u64 (P.wrd To 2), .int .u64 (P.wrd To 3)] 28)) (w.heap.size) 25 #[.slice (some ⟨ba, oa, none⟩) n ka, .slice (some ⟨bb, ob, none⟩) n kb, .slice (some ⟨bc, oc, none⟩) n kc] := Box.alloc (Box.alloc (Box.new w 25 #[.slice (some ⟨ba, oa, none⟩) n ka, .slice (some ⟨bb, ob, none⟩) n kb, .slice (some ⟨bc, oc, none⟩) n kc]) (.cells #[.int .u64 (P.wrd I 0), .int .u64 (P.wrd I 1), .int .u64 (P.wrd I 2), .int .u64 (P.wrd I 3)] 28)) (.cells #[.int .u64 (P.wrd To 0), .int .u64 (P.wrd To 1), .int .u64 (P.wrd To 2), .int .u64 (P.wrd To 3)] 28)
  have bx1 : Box (((w.alloc (.cells #[.slice (some ⟨ba, oa, none⟩) n ka, .slice (some ⟨bb, ob, none⟩) n kb, .slice (some ⟨bc, oc, none⟩) n kc] 25)).alloc (.cells #[.int .u64 (P.wrd I 0), .int .u64 (P.wrd I 1), .int .u64 (P.wrd I 2), .int .u64 (P.wrd I 3)] 28)).alloc (.cells #[.int .u64 (P.wrd To 0), .int .u64 (P.wrd To 1), .int .u64 (P.wrd To 2), .int .u64 (P.wrd To 3)] 28)) (w.heap.size + 1) 28 #[.int .u64 (P.wrd I 0), .int .u64 (P.wrd I 1), .int .u64 (P.wrd I 2), .int .u64 (P.wrd I 3)] := by
    have := Box.alloc (Box.new (w.alloc (.cells #[.slice (some ⟨ba, oa, none⟩) n ka, .slice (some ⟨bb, ob, none⟩) n kb, .slice (some ⟨bc, oc, none⟩) n kc] 25)) 28 #[.int .u64 (P.wrd I 0), .int .u64 (P.wrd I 1), .int .u64 (P.wrd I 2), .int .u64 (P.wrd I 3)]) (.cells #[.int .u64 (P.wrd To 0), .int .u64 (P.wrd To 1), .int .u64 (P.wrd To 2), .int .u64 (P.wrd To 3)] 28)
    simpa using this
  have bx2 : Box (((w.alloc (.cells #[.slice (some ⟨ba, oa, none⟩) n ka, .slice (some ⟨bb, ob, none⟩) n kb, .slice (some ⟨bc, oc, none⟩) n kc] 25)).alloc (.cells #[.int .u64 (P.wrd I 0), .int .u64 (P.wrd I 1), .int .u64 (P.wrd I 2), .int .u64 (P.wrd I 3)] 28)).alloc (.cells #[.int .u64 (P.wrd To 0), .int .u64 (P.wrd To 1), .int .u64 (P.wrd To 2), .int .u64 (P.wrd To 3)] 28)) (w.heap.size + 1 + 1) 28 #[.int .u64 (P.wrd To 0), .int .u64 (P.wrd To 1), .int .u64 (P.wrd To 2), .int .u64 (P.wrd To 3)] := by
    have := Box.new ((w.alloc (.cells #[.slice (some ⟨ba, oa, none⟩) n ka, .slice (some ⟨bb, ob, none⟩) n kb, .slice (some ⟨bc, oc, none⟩) n kc] 25)).alloc (.cells #[.int .u64 (P.wrd I 0), .int .u64 (P.wrd I 1), .int .u64 (P.wrd I 2), .int .u64 (P.wrd I 3)] 28)) 28 #[.int .u64 (P.wrd To 0), .int .u64 (P.wrd To 1), .int .u64 (P.wrd To 2), .int .u64 (P.wrd To 3)]
    simpa using this
  have hbq : Below w.heap.size w (((w.alloc (.cells #[.slice (some ⟨ba, oa, none⟩) n ka, .slice (some ⟨bb, ob, none⟩) n kb, .slice (some ⟨bc, oc, none⟩) n kc] 25)).alloc (.cells #[.int .u64 (P.wrd I 0), .int .u64 (P.wrd I 1), .int .u64 (P.wrd I 2), .int .u64 (P.wrd I 3)] 28)).alloc (.cells #[.int .u64 (P.wrd To 0), .int .u64 (P.wrd To 1), .int .u64 (P.wrd To 2), .int .u64 (P.wrd To 3)] 28)) := (((Below.refl _ w).alloc (Nat.le_refl _) _).alloc (by simp) _).alloc (by simp; omega) _
  have lt0 : w.heap.size < w.heap.size + 1 := Nat.lt_succ_self _
  have lt1 : w.heap.size + 1 < w.heap.size + 1 + 1 := Nat.lt_succ_self _
  have hle0 : w.heap.size ≤ w.heap.size := Nat.le_refl _
  generalize (((w.alloc (.cells #[.slice (some ⟨ba, oa, none⟩) n ka, .slice (some ⟨bb, ob, none⟩) n kb, .slice (some ⟨bc, oc, none⟩) n kc] 25)).alloc (.cells #[.int .u64 (P.wrd I 0), .int .u64 (P.wrd I 1), .int .u64 (P.wrd I 2), .int .u64 (P.wrd I 3)] 28)).alloc (.cells #[.int .u64 (P.wrd To 0), .int .u64 (P.wrd To 1), .int .u64 (P.wrd To 2), .int .u64 (P.wrd To 3)] 28)) = w0 at bx0 bx1 bx2 hbq  ⊢
  have BQg := Lib.hid bx0
  have BQi := Lib.hid bx1
  have BQt := Lib.hid bx2
  have W := Lib.hid hbq
  have LTgi := Lib.hid lt0
  have LTit := Lib.hid lt1
  have LEg := Lib.hid hle0
  clear hbq hle0 bx0 bx1 bx2 lt0 lt1
  generalize w.heap.size + 1 + 1 = qt at BQt LTit ⊢
  generalize w.heap.size + 1 = qi at BQi LTit LTgi ⊢
  obtain ⟨qg, hqg⟩ : ∃ qg, w.heap.size = qg := ⟨_, rfl⟩
  rw [hqg] at BQg LTgi ⊢
  have LEg : Hid (w.heap.size ≤ qg) := Lib.hid (by omega)
  clear hqg
  refine (shown_any _ (T.out.on W.out)).mono ?_
  rintro e w1 ⟨rfl, hb⟩
  replace BQg := Lib.hid (BQg.out.keep (grown_of_below hb none))
  replace BQi := Lib.hid (BQi.out.keep (grown_of_below hb none))
  replace BQt := Lib.hid (BQt.out.keep (grown_of_below hb none))
  replace W := Lib.hid (W.out.trans (hb.mono W.out.size))
  clear hb
  have hbb := BQg.out
  have gc0 : w1.cell? ⟨qg, 0, none⟩ = some (.slice (some ⟨ba, oa, none⟩) n ka) := hbb.cell 0 _ rfl
  have gc1 : w1.cell? ⟨qg, 1, none⟩ = some (.slice (some ⟨bb, ob, none⟩) n kb) := hbb.cell 1 _ rfl
  have gc2 : w1.cell? ⟨qg, 2, none⟩ = some (.slice (some ⟨bc, oc, none⟩) n kc) := hbb.cell 2 _ rfl
  clear hbb
  go_wp2_with fail
  refine (right_any g _ _ (HV.out.on W.out)).mono ?_
  rintro e w2 ⟨rfl, hb⟩
  replace BQg := Lib.hid (BQg.out.keep (grown_of_below hb none))
  replace BQi := Lib.hid (BQi.out.keep (grown_of_below hb none))
  replace BQt := Lib.hid (BQt.out.keep (grown_of_below hb none))
  replace W := Lib.hid (W.out.trans (hb.mono W.out.size))
  clear hb gc0 gc1 gc2
  obtain ⟨z, hz⟩ : ∃ z, g.right.2 = z := ⟨_, rfl⟩
  rw [hz] at hq0 ⊢
  have fq : (((z : Nat) : Int) != 0) = false := by rw [bne_eq_false_iff_eq]; omega
  clear hz hq0
  have hbb := BQg.out
  have gc0 : w2.cell? ⟨qg, 0, none⟩ = some (.slice (some ⟨ba, oa, none⟩) n ka) := hbb.cell 0 _ rfl
  have gc1 : w2.cell? ⟨qg, 1, none⟩ = some (.slice (some ⟨bb, ob, none⟩) n kb) := hbb.cell 1 _ rfl
  have gc2 : w2.cell? ⟨qg, 2, none⟩ = some (.slice (some ⟨bc, oc, none⟩) n kc) := hbb.cell 2 _ rfl
  clear hbb
  go_upto_region 6 with (fail)
  clear gc0 gc1 gc2
  refine Rg.wp_region_lit (fun idx => match idx with | 0 => (fun v _ _ => v = .agg #[.int .u64 (P.wrd I 0), .int .u64 (P.wrd I 1), .int .u64 (P.wrd I 2), .int .u64 (P.wrd I 3)]) | 1 => (fun v _ _ => v = (.int .i64 (n : Int))) | 2 => (fun v _ _ => v = .agg #[.int .u64 (P.wrd (P.full (n : Int)) 0), .int .u64 (P.wrd (P.full (n : Int)) 1), .int .u64 (P.wrd (P.full (n : Int)) 2), .int .u64 (P.wrd (P.full (n : Int)) 3)]) | 3 => (fun v _ _ => v = .agg #[.int .u64 (P.wrd (I &&& P.full (n : Int)) 0), .int .u64 (P.wrd (I &&& P.full (n : Int)) 1), .int .u64 (P.wrd (I &&& P.full (n : Int)) 2), .int .u64 (P.wrd (I &&& P.full (n : Int)) 3)]) | _ => fun _ _ _ => True) (none) 99 (by kernel_rfl) (by rfl) (by kernel_rfl) (by rfl) ?_ ?_ ?_
  · refine ⟨?_, ?_, ?_, ?_, trivial⟩
    · intro A w' K vals h hn hg hK
      have r0 : A.tmps[5]?.getD undef = .pointer (some ⟨qi, 0, none⟩) := Rg.slot h.1
      have bs := BQi.out.keep hg
      have cc0 : w'.cell? ⟨qi, 0, none⟩ = some (.int .u64 (P.wrd I 0)) := bs.cell 0 _ rfl
      have cc1 : w'.cell? ⟨qi, 1, none⟩ = some (.int .u64 (P.wrd I 1)) := bs.cell 1 _ rfl
      have cc2 : w'.cell? ⟨qi, 2, none⟩ = some (.int .u64 (P.wrd I 2)) := bs.cell 2 _ rfl
      have cc3 : w'.cell? ⟨qi, 3, none⟩ = some (.int .u64 (P.wrd I 3)) := bs.cell 3 _ rfl
      clear h hn hg bs
      simp [Oper.wp, execOp, go_sem, r0, cc0, cc1, cc2, cc3]
      exact hK _ _ (Rg.grown_refl _ _) rfl
    · intro A w' K vals h hn hg hK
      have r0 : A.tmps[12]?.getD undef = .int .i64 (n : Int) := Rg.slot (h.1)
      clear h hn hg
      simp [Oper.wp, execOp, go_sem, r0]
      exact hK _ _ (Rg.grown_refl _ _) rfl
    · intro A w' K vals h hn hg hK
      have r0 : A.tmps[50]?.getD undef = vals 1 := Rg.slot h.2.1
      have s0 : vals 1 = (.int .i64 (n : Int)) := hn.1
      clear h hn
      simp [Oper.wp, go_sem, r0, s0]
      refine (full_any (n : Int) w').mono ?_
      rintro e w'' ⟨rfl, hb⟩
      exact hK _ _ (grown_of_below hb _) rfl
    · intro A w' K vals h hn hg hK
      have r0 : A.tmps[49]?.getD undef = vals 0 := Rg.slot h.2.1
      have s0 : vals 0 = .agg #[.int .u64 (P.wrd I 0), .int .u64 (P.wrd I 1), .int .u64 (P.wrd I 2), .int .u64 (P.wrd I 3)] := hn.1
      have r1 : A.tmps[51]?.getD undef = vals 2 := Rg.slot h.2.2.1
      have s1 : vals 2 = .agg #[.int .u64 (P.wrd (P.full (n : Int)) 0), .int .u64 (P.wrd (P.full (n : Int)) 1), .int .u64 (P.wrd (P.full (n : Int)) 2), .int .u64 (P.wrd (P.full (n : Int)) 3)] := hn.2.1
      clear h hn
      simp [Oper.wp, go_sem, r0, s0, r1, s1]
      refine (and_any I (P.full (n : Int)) w').mono ?_
      rintro e w'' ⟨rfl, hb⟩
      exact hK _ _ (grown_of_below hb _) rfl
  · refine ⟨?_, ?_, ?_, ?_, trivial⟩
    · exact fun _ _ _ _ _ _ h => h
    · exact fun _ _ _ _ _ _ h => h
    · exact fun _ _ _ _ _ _ h => h
    · exact fun _ _ _ _ _ _ h => h
  · intro vals w3 G hg hS hG
    have s3 : vals 3 = .agg #[.int .u64 (P.wrd (I &&& P.full (n : Int)) 0), .int .u64 (P.wrd (I &&& P.full (n : Int)) 1), .int .u64 (P.wrd (I &&& P.full (n : Int)) 2), .int .u64 (P.wrd (I &&& P.full (n : Int)) 3)] := hS.2.2.2.1
    clear hS
    have hb := below_of_grown hg
    replace BQg := Lib.hid (BQg.out.keep (grown_of_below hb none))
    replace BQi := Lib.hid (BQi.out.keep (grown_of_below hb none))
    replace BQt := Lib.hid (BQt.out.keep (grown_of_below hb none))
    replace W := Lib.hid (W.out.trans (hb.mono W.out.size))
    clear hb hg
    have hbb := BQi.out
    have ic0 : w3.cell? ⟨qi, 0, none⟩ = some (.int .u64 (P.wrd I 0)) := hbb.cell 0 _ rfl
    have ic1 : w3.cell? ⟨qi, 1, none⟩ = some (.int .u64 (P.wrd I 1)) := hbb.cell 1 _ rfl
    have ic2 : w3.cell? ⟨qi, 2, none⟩ = some (.int .u64 (P.wrd I 2)) := hbb.cell 2 _ rfl
    have ic3 : w3.cell? ⟨qi, 3, none⟩ = some (.int .u64 (P.wrd I 3)) := hbb.cell 3 _ rfl
    have if0 : w3.frozen? ⟨qi, 0, none⟩ = false := hbb.frozen 0
    have if1 : w3.frozen? ⟨qi, 1, none⟩ = false := hbb.frozen 1
    have if2 : w3.frozen? ⟨qi, 2, none⟩ = false := hbb.frozen 2
    have if3 : w3.frozen? ⟨qi, 3, none⟩ = false := hbb.frozen 3
    clear hbb
    refine hG ?_
    clear hG
    simp [List.dropLast, Rg.putAll, Oper.wp, execOp, go_sem, s3, ic0, ic1, ic2, ic3, if0, if1, if2, if3]
    clear s3 ic0 ic1 ic2 ic3 if0 if1 if2 if3
    have BQi := Lib.hid (show Box ((((w3.setCell ⟨qi, 0, none⟩ (.int .u64 (P.wrd (I &&& P.full (n : Int)) 0))).setCell ⟨qi, 1, none⟩ (.int .u64 (P.wrd (I &&& P.full (n : Int)) 1))).setCell ⟨qi, 2, none⟩ (.int .u64 (P.wrd (I &&& P.full (n : Int)) 2))).setCell ⟨qi, 3, none⟩ (.int .u64 (P.wrd (I &&& P.full (n : Int)) 3))) qi 28 #[.int .u64 (P.wrd (I &&& P.full (n : Int)) 0), .int .u64 (P.wrd (I &&& P.full (n : Int)) 1), .int .u64 (P.wrd (I &&& P.full (n : Int)) 2), .int .u64 (P.wrd (I &&& P.full (n : Int)) 3)] from Blk.store (show Blk w3 qi I 28 from BQi.out) (I &&& P.full (n : Int)))
    have BQg := Lib.hid (far4 (.int .u64 (P.wrd (I &&& P.full (n : Int)) 0)) (.int .u64 (P.wrd (I &&& P.full (n : Int)) 1)) (.int .u64 (P.wrd (I &&& P.full (n : Int)) 2)) (.int .u64 (P.wrd (I &&& P.full (n : Int)) 3)) BQg.out (show qg ≠ qi by have := LTgi.out; omega))
    have BQt := Lib.hid (far4 (.int .u64 (P.wrd (I &&& P.full (n : Int)) 0)) (.int .u64 (P.wrd (I &&& P.full (n : Int)) 1)) (.int .u64 (P.wrd (I &&& P.full (n : Int)) 2)) (.int .u64 (P.wrd (I &&& P.full (n : Int)) 3)) BQt.out (show qt ≠ qi by have := LTit.out; omega))
    replace W := Lib.hid (W.out.trans (below4 (w := w3) (q := qi) (.int .u64 (P.wrd (I &&& P.full (n : Int)) 0)) (.int .u64 (P.wrd (I &&& P.full (n : Int)) 1)) (.int .u64 (P.wrd (I &&& P.full (n : Int)) 2)) (.int .u64 (P.wrd (I &&& P.full (n : Int)) 3)) (by have := LTgi.out; have := LEg.out; omega)))
    generalize ((((w3.setCell ⟨qi, 0, none⟩ (.int .u64 (P.wrd (I &&& P.full (n : Int)) 0))).setCell ⟨qi, 1, none⟩ (.int .u64 (P.wrd (I &&& P.full (n : Int)) 1))).setCell ⟨qi, 2, none⟩ (.int .u64 (P.wrd (I &&& P.full (n : Int)) 2))).setCell ⟨qi, 3, none⟩ (.int .u64 (P.wrd (I &&& P.full (n : Int)) 3))) = w4 at BQg BQi BQt W ⊢
    have HW1 := Lib.hid W.out.size
    have hbb := BQg.out
    have gc0 : w4.cell? ⟨qg, 0, none⟩ = some (.slice (some ⟨ba, oa, none⟩) n ka) := hbb.cell 0 _ rfl
    have gc1 : w4.cell? ⟨qg, 1, none⟩ = some (.slice (some ⟨bb, ob, none⟩) n kb) := hbb.cell 1 _ rfl
    have gc2 : w4.cell? ⟨qg, 2, none⟩ = some (.slice (some ⟨bc, oc, none⟩) n kc) := hbb.cell 2 _ rfl
    clear hbb
    go_wp2_with fail
    have LOf := Lib.hid (Nat.le_refl w4.heap.size)
    refine (copy_any g _ _ (HV.out.on W.out)).mono ?_
    rintro e y1 ⟨fav, fbv, fcv, fL, rfl, ho, hb⟩
    obtain ⟨fa, fka, fb, fkb, fc, fkc, rfl, rfl, rfl⟩ := ho.forms
    rw [HN.out, HOP.out, HMP.out] at ho ⊢
    replace BQg := Lib.hid (BQg.out.keep (grown_of_below hb none))
    replace BQi := Lib.hid (BQi.out.keep (grown_of_below hb none))
    replace BQt := Lib.hid (BQt.out.keep (grown_of_below hb none))
    replace W := Lib.hid (W.out.trans (hb.mono W.out.size))
    have Of := Lib.hid ho
    have Uf := Lib.hid ho.under
    have SZf := Lib.hid hb.size
    clear hb ho gc0 gc1 gc2
    go_upto_region 8 with (fail)
    have Wfy := Lib.hid (Below.refl y1.heap.size y1)
    have bq : Box (y1.alloc (.cells #[.slice fa n fka, .slice fb n fkb, .slice fc n fkc] 25)) y1.heap.size 25 #[.slice fa n fka, .slice fb n fkb, .slice fc n fkc] := Box.new _ _ _
    have hgq := World.grownBy_alloc y1 (.cells #[.slice fa n fka, .slice fb n fkb, .slice fc n fkc] 25) none
    replace BQg := Lib.hid (BQg.out.keep hgq)
    replace BQi := Lib.hid (BQi.out.keep hgq)
    replace BQt := Lib.hid (BQt.out.keep hgq)
    replace W := Lib.hid (W.out.trans ((below_of_grown hgq).mono W.out.size))
    replace Of := Lib.hid (Of.out.grown hgq)
    replace Wfy := Lib.hid (Wfy.out.trans ((below_of_grown hgq).mono Wfy.out.size))
    generalize (y1.alloc (.cells #[.slice fa n fka, .slice fb n fkb, .slice fc n fkc] 25)) = x2 at bq BQg BQi BQt W Of Wfy ⊢
    generalize y1.heap.size = qf at bq ⊢
    have BQf := Lib.hid bq
    clear bq hgq
    have HYf := Lib.hid Wfy.out.size
    clear Wfy
    have hbb := BQg.out
    have gc0 : x2.cell? ⟨qg, 0, none⟩ = some (.slice (some ⟨ba, oa, none⟩) n ka) := hbb.cell 0 _ rfl
    have gc1 : x2.cell? ⟨qg, 1, none⟩ = some (.slice (some ⟨bb, ob, none⟩) n kb) := hbb.cell 1 _ rfl
    have gc2 : x2.cell? ⟨qg, 2, none⟩ = some (.slice (some ⟨bc, oc, none⟩) n kc) := hbb.cell 2 _ rfl
    clear hbb
    go_wp2_with fail
    have LOh := Lib.hid (Nat.le_refl x2.heap.size)
    refine (copy_any g _ _ (HV.out.on W.out)).mono ?_
    rintro e y2 ⟨hav, hbv, hcv, hL, rfl, ho, hb⟩
    obtain ⟨ha, hka, hb_, hkb, hc, hkc, rfl, rfl, rfl⟩ := ho.forms
    rw [HN.out, HOP.out, HMP.out] at ho ⊢
    replace BQg := Lib.hid (BQg.out.keep (grown_of_below hb none))
    replace BQi := Lib.hid (BQi.out.keep (grown_of_below hb none))
    replace BQt := Lib.hid (BQt.out.keep (grown_of_below hb none))
    replace W := Lib.hid (W.out.trans (hb.mono W.out.size))
    replace BQf := Lib.hid (BQf.out.keep (grown_of_below hb none))
    replace Of := Lib.hid (Of.out.grown (grown_of_below hb none))
    have Oh := Lib.hid ho
    have Uh := Lib.hid ho.under
    have SZh := Lib.hid hb.size
    clear hb ho gc0 gc1 gc2
    go_upto_region 9 with (fail)
    have Why := Lib.hid (Below.refl y2.heap.size y2)
    have bq : Box (y2.alloc (.cells #[.slice ha n hka, .slice hb_ n hkb, .slice hc n hkc] 25)) y2.heap.size 25 #[.slice ha n hka, .slice hb_ n hkb, .slice hc n hkc] := Box.new _ _ _
    have hgq := World.grownBy_alloc y2 (.cells #[.slice ha n hka, .slice hb_ n hkb, .slice hc n hkc] 25) none
    replace BQg := Lib.hid (BQg.out.keep hgq)
    replace BQi := Lib.hid (BQi.out.keep hgq)
    replace BQt := Lib.hid (BQt.out.keep hgq)
    replace W := Lib.hid (W.out.trans ((below_of_grown hgq).mono W.out.size))
    replace BQf := Lib.hid (BQf.out.keep hgq)
    replace Of := Lib.hid (Of.out.grown hgq)
    replace Oh := Lib.hid (Oh.out.grown hgq)
    replace Why := Lib.hid (Why.out.trans ((below_of_grown hgq).mono Why.out.size))
    generalize (y2.alloc (.cells #[.slice ha n hka, .slice hb_ n hkb, .slice hc n hkc] 25)) = x3 at bq BQg BQi BQt W BQf Of Oh Why ⊢
    generalize y2.heap.size = qh at bq ⊢
    have BQh := Lib.hid bq
    clear bq hgq
    have HYh := Lib.hid Why.out.size
    clear Why
    have hn0 : 0 < g.owner.length := by have := HN.out; omega
    obtain ⟨pf, kf2, ef, lf1, lf2, -, -⟩ := own_form Of.out.owner hn0
    rw [HN.out] at ef
    obtain ⟨rfl, -, rfl⟩ : fa = some ⟨pf, 0, none⟩ ∧ n = n ∧ fka = kf2 := by injection ef with h1 h2 h3; exact ⟨h1, h2, h3⟩
    obtain ⟨ph, kh2, eh, lh1, lh2, -, -⟩ := own_form Oh.out.owner hn0
    rw [HN.out] at eh
    obtain ⟨rfl, -, rfl⟩ : ha = some ⟨ph, 0, none⟩ ∧ n = n ∧ hka = kh2 := by injection eh with h1 h2 h3; exact ⟨h1, h2, h3⟩
    have hfm : pf < x2.heap.size := Nat.lt_of_lt_of_le (Uf.out 0 _ pf rfl rfl) HYf.out
    have HPF := Lib.hid (show w.heap.size ≤ pf ∧ pf < x2.heap.size ∧ x2.heap.size ≤ ph ∧ ph < x3.heap.size from ⟨by have := HW1.out; omega, hfm, lh1, lh2⟩)
    have HW3 := Lib.hid W.out
    have Lg := Lib.hid BQg.out.lt
    clear ef eh hn0 lf1 lf2 lh1 lh2 hfm
    go_wp2_with fail
    go_loopw [15] (fun i wr => ∃ j : Nat, j ≤ n ∧ i = .int .i64 (j : Int) ∧ Rk.Keeps (KX x3.heap.size [pf, ph]) x3 wr ∧ OwnG wr w4.heap.size (.slice (some ⟨pf, 0, none⟩) n fka) (.slice fb n fkb) (.slice fc n fkc) fL (g.given 1 j) ∧ OwnG wr x2.heap.size (.slice (some ⟨ph, 0, none⟩) n hka) (.slice hb_ n hkb) (.slice hc n hkc) hL (g.given 0 j)) (fun i _ => n - (intOf i).toNat)
    case atStart => exact ⟨0, Nat.zero_le _, rfl, Rk.Keeps.refl _ _, by rw [P.G.given_zero]; exact Of.out, by rw [P.G.given_zero]; exact Oh.out⟩
    case round =>
      obtain ⟨j, hj, rfl, hk, hof, hoh⟩ := hrel
      have HK := Lib.hid hk
      have HOF := Lib.hid hof
      have HOH := Lib.hid hoh
      clear hk hof hoh
      have hj0 : (0 : Int) ≤ (j : Int) := Int.natCast_nonneg _
      have HX : Hid (∀ x ∈ [pf, ph], w.heap.size ≤ x) := Lib.hid (fun x hx => by
        have h1 := HPF.out
        have h2 := HW3.out.size
        simp only [List.mem_cons, List.not_mem_nil, or_false] at hx
        rcases hx with rfl | rfl <;> omega)
      have hbx : ∀ {q : Nat} {t : TypeId} {cs : Array Value}, Box x3 q t cs → t ≠ 3 → Box wr q t cs := fun {q t cs} h ht => kx_box HK.out h h.lt (fun e => by
        simp only [List.mem_cons, List.not_mem_nil, or_false] at e
        rcases e with rfl | rfl
        · exact own_box Of.out.owner h (fun e => ht e.symm) rfl
        · exact own_box Oh.out.owner h (fun e => ht e.symm) rfl)
      have BQg := Lib.hid (hbx BQg.out (by decide))
      have BQi := Lib.hid (hbx BQi.out (by decide))
      have BQt := Lib.hid (hbx BQt.out (by decide))
      have BQf := Lib.hid (hbx BQf.out (by decide))
      have BQh := Lib.hid (hbx BQh.out (by decide))
      have W := Lib.hid (HW3.out.trans (kx_below HK.out HX.out HW3.out.size (Nat.le_refl _)))
      clear hbx
      have hbb := BQg.out
      have gc0 : wr.cell? ⟨qg, 0, none⟩ = some (.slice (some ⟨ba, oa, none⟩) n ka) := hbb.cell 0 _ rfl
      have gc1 : wr.cell? ⟨qg, 1, none⟩ = some (.slice (some ⟨bb, ob, none⟩) n kb) := hbb.cell 1 _ rfl
      have gc2 : wr.cell? ⟨qg, 2, none⟩ = some (.slice (some ⟨bc, oc, none⟩) n kc) := hbb.cell 2 _ rfl
      clear hbb
      by_cases hlt : j < n
      · have fj : decide ((j : Int) < (n : Int)) = true := decide_eq_true (by omega)
        have hji : (j : Int) < (n : Int) := by omega
        have hbb := BQf.out
        have fc0 : wr.cell? ⟨qf, 0, none⟩ = some (.slice (some ⟨pf, 0, none⟩) n fka) := hbb.cell 0 _ rfl
        have fc1 : wr.cell? ⟨qf, 1, none⟩ = some (.slice fb n fkb) := hbb.cell 1 _ rfl
        have fc2 : wr.cell? ⟨qf, 2, none⟩ = some (.slice fc n fkc) := hbb.cell 2 _ rfl
        clear hbb
        obtain ⟨z1, cf, ff⟩ := HOF.out.cellO (j := j) (by rw [P.G.given_len, HN.out]; exact hlt)
        have HOF2 := Lib.hid (HOF.out.give (by rw [HN.out]; exact hlt))
        have HOH1 := Lib.hid (HOH.out.below_ (x := pf) HPF.out.2.1 j (.int .i64 1))
        have HK2 := Lib.hid (HK.out.trans (kx_set wr (x := pf) (.inl (by simp)) j (.int .i64 1)))
        replace BQh := Lib.hid (BQh.out.far (p := ⟨pf, j, none⟩) (fun e => own_box HOF.out.owner BQh.out (by decide) (by show some pf = some qh; rw [e])) (.int .i64 1))
        go_upto_region 13 with (fail)
        clear cf ff fc0 fc1 fc2 gc0 gc1 gc2
        generalize (wr.setCell ⟨pf, j, none⟩ (.int .i64 1)) = wv at HOF2 HOH1 HK2 BQh ⊢
        obtain ⟨z2, cf, ff⟩ := HOH1.out.cellO (j := j) (by rw [P.G.given_len, HN.out]; exact hlt)
        have hbb := BQh.out
        have hc0 : wv.cell? ⟨qh, 0, none⟩ = some (.slice (some ⟨ph, 0, none⟩) n hka) := hbb.cell 0 _ rfl
        have hc1 : wv.cell? ⟨qh, 1, none⟩ = some (.slice hb_ n hkb) := hbb.cell 1 _ rfl
        have hc2 : wv.cell? ⟨qh, 2, none⟩ = some (.slice hc n hkc) := hbb.cell 2 _ rfl
        clear hbb
        have HOH2 := Lib.hid (HOH1.out.give (by rw [HN.out]; exact hlt))
        have HOF3 := Lib.hid (HOF2.out.above (M := x2.heap.size) (fun i u q hu hq => Nat.lt_of_lt_of_le (Uf.out i u q hu hq) HYf.out) HPF.out.2.2.1 j (.int .i64 0))
        have HK3 := Lib.hid (HK2.out.trans (kx_set wv (x := ph) (.inl (by simp)) j (.int .i64 0)))
        go_wp2_with fail
        go_roundw
        case rel => exact ⟨j + 1, by omega, by go_num, HK3.out, HOF3.out, HOH2.out⟩
        case measure => simp [intOf]; omega
      · have fj : decide ((j : Int) < (n : Int)) = false := decide_eq_false (by omega)
        have hjn : j = n := by omega
        have GF := Lib.hid (show GameV wr (.agg #[.slice (some ⟨pf, 0, none⟩) n fka, .slice fb n fkb, .slice fc n fkc]) (g.all 1) from by
          have h := HOF.out
          rw [P.G.given_all g 1 j (by have := HN.out; omega)] at h
          exact h.game (fits_all HFI.out 1))
        have GH := Lib.hid (show GameV wr (.agg #[.slice (some ⟨ph, 0, none⟩) n hka, .slice hb_ n hkb, .slice hc n hkc]) (g.all 0) from by
          have h := HOH.out
          rw [P.G.given_all g 0 j (by have := HN.out; omega)] at h
          exact h.game (fits_all HFI.out 0))
        clear hjn
        go_upto_region 14 with (fail)
        clear gc0 gc1 gc2
        obtain ⟨wA, rfl⟩ : ∃ wA : World, wA = wr := ⟨_, rfl⟩
        have HWA := Lib.hid W.out
        have HBQg := Lib.hid BQg.out
        have HBQi := Lib.hid BQi.out
        have HBQt := Lib.hid BQt.out
        have HBQf := Lib.hid BQf.out
        have HBQh := Lib.hid BQh.out
        have HGF := Lib.hid GF.out
        have HGH := Lib.hid GH.out
        have WB := Lib.hid (Below.refl wA.heap.size wA)
        have hbb := BQi.out
        have ic0 : wA.cell? ⟨qi, 0, none⟩ = some (.int .u64 (P.wrd (I &&& P.full (n : Int)) 0)) := hbb.cell 0 _ rfl
        have ic1 : wA.cell? ⟨qi, 1, none⟩ = some (.int .u64 (P.wrd (I &&& P.full (n : Int)) 1)) := hbb.cell 1 _ rfl
        have ic2 : wA.cell? ⟨qi, 2, none⟩ = some (.int .u64 (P.wrd (I &&& P.full (n : Int)) 2)) := hbb.cell 2 _ rfl
        have ic3 : wA.cell? ⟨qi, 3, none⟩ = some (.int .u64 (P.wrd (I &&& P.full (n : Int)) 3)) := hbb.cell 3 _ rfl
        clear hbb
        have hbb := BQt.out
        have tc0 : wA.cell? ⟨qt, 0, none⟩ = some (.int .u64 (P.wrd To 0)) := hbb.cell 0 _ rfl
        have tc1 : wA.cell? ⟨qt, 1, none⟩ = some (.int .u64 (P.wrd To 1)) := hbb.cell 1 _ rfl
        have tc2 : wA.cell? ⟨qt, 2, none⟩ = some (.int .u64 (P.wrd To 2)) := hbb.cell 2 _ rfl
        have tc3 : wA.cell? ⟨qt, 3, none⟩ = some (.int .u64 (P.wrd To 3)) := hbb.cell 3 _ rfl
        clear hbb
        go_wp2_with fail
        refine (and_any To (I &&& P.full (n : Int)) _).mono ?_
        rintro e v1 ⟨rfl, hb⟩
        replace BQi := Lib.hid (BQi.out.keep (grown_of_below hb none))
        replace BQt := Lib.hid (BQt.out.keep (grown_of_below hb none))
        replace WB := Lib.hid (WB.out.trans (hb.mono WB.out.size))
        clear hb ic0 ic1 ic2 ic3 tc0 tc1 tc2 tc3
        go_upto_region 15 with (fail)
        have LWA := Lib.hid WB.out.size
        have bq : Box (v1.alloc (.cells #[.int .u64 (P.wrd (To &&& (I &&& P.full (n : Int))) 0), .int .u64 (P.wrd (To &&& (I &&& P.full (n : Int))) 1), .int .u64 (P.wrd (To &&& (I &&& P.full (n : Int))) 2), .int .u64 (P.wrd (To &&& (I &&& P.full (n : Int))) 3)] 28)) v1.heap.size 28 #[.int .u64 (P.wrd (To &&& (I &&& P.full (n : Int))) 0), .int .u64 (P.wrd (To &&& (I &&& P.full (n : Int))) 1), .int .u64 (P.wrd (To &&& (I &&& P.full (n : Int))) 2), .int .u64 (P.wrd (To &&& (I &&& P.full (n : Int))) 3)] := Box.new _ _ _
        have hgq := World.grownBy_alloc v1 (.cells #[.int .u64 (P.wrd (To &&& (I &&& P.full (n : Int))) 0), .int .u64 (P.wrd (To &&& (I &&& P.full (n : Int))) 1), .int .u64 (P.wrd (To &&& (I &&& P.full (n : Int))) 2), .int .u64 (P.wrd (To &&& (I &&& P.full (n : Int))) 3)] 28) none
        replace BQi := Lib.hid (BQi.out.keep hgq)
        replace BQt := Lib.hid (BQt.out.keep hgq)
        replace WB := Lib.hid (WB.out.trans ((below_of_grown hgq).mono WB.out.size))
        generalize (v1.alloc (.cells #[.int .u64 (P.wrd (To &&& (I &&& P.full (n : Int))) 0), .int .u64 (P.wrd (To &&& (I &&& P.full (n : Int))) 1), .int .u64 (P.wrd (To &&& (I &&& P.full (n : Int))) 2), .int .u64 (P.wrd (To &&& (I &&& P.full (n : Int))) 3)] 28)) = v2 at bq BQi BQt WB ⊢
        have LQS : Hid (wA.heap.size ≤ v1.heap.size) := Lib.hid LWA.out
        clear LWA
        generalize v1.heap.size = qs at bq LQS ⊢
        have BQs := Lib.hid bq
        clear bq hgq
        have hbb := BQi.out
        have ic0 : v2.cell? ⟨qi, 0, none⟩ = some (.int .u64 (P.wrd (I &&& P.full (n : Int)) 0)) := hbb.cell 0 _ rfl
        have ic1 : v2.cell? ⟨qi, 1, none⟩ = some (.int .u64 (P.wrd (I &&& P.full (n : Int)) 1)) := hbb.cell 1 _ rfl
        have ic2 : v2.cell? ⟨qi, 2, none⟩ = some (.int .u64 (P.wrd (I &&& P.full (n : Int)) 2)) := hbb.cell 2 _ rfl
        have ic3 : v2.cell? ⟨qi, 3, none⟩ = some (.int .u64 (P.wrd (I &&& P.full (n : Int)) 3)) := hbb.cell 3 _ rfl
        clear hbb
        have hbb := BQt.out
        have tc0 : v2.cell? ⟨qt, 0, none⟩ = some (.int .u64 (P.wrd To 0)) := hbb.cell 0 _ rfl
        have tc1 : v2.cell? ⟨qt, 1, none⟩ = some (.int .u64 (P.wrd To 1)) := hbb.cell 1 _ rfl
        have tc2 : v2.cell? ⟨qt, 2, none⟩ = some (.int .u64 (P.wrd To 2)) := hbb.cell 2 _ rfl
        have tc3 : v2.cell? ⟨qt, 3, none⟩ = some (.int .u64 (P.wrd To 3)) := hbb.cell 3 _ rfl
        clear hbb
        go_wp2_with fail
        refine (minus_any (I &&& P.full (n : Int)) To _).mono ?_
        rintro e v3 ⟨rfl, hb⟩
        replace BQs := Lib.hid (BQs.out.keep (grown_of_below hb none))
        replace WB := Lib.hid (WB.out.trans (hb.mono WB.out.size))
        clear hb ic0 ic1 ic2 ic3 tc0 tc1 tc2 tc3
        go_upto_region 16 with (fail)
        have LQS2 := Lib.hid BQs.out.lt
        have bq : Box (v3.alloc (.cells #[.int .u64 (P.wrd ((I &&& P.full (n : Int)) &&& ~~~To) 0), .int .u64 (P.wrd ((I &&& P.full (n : Int)) &&& ~~~To) 1), .int .u64 (P.wrd ((I &&& P.full (n : Int)) &&& ~~~To) 2), .int .u64 (P.wrd ((I &&& P.full (n : Int)) &&& ~~~To) 3)] 28)) v3.heap.size 28 #[.int .u64 (P.wrd ((I &&& P.full (n : Int)) &&& ~~~To) 0), .int .u64 (P.wrd ((I &&& P.full (n : Int)) &&& ~~~To) 1), .int .u64 (P.wrd ((I &&& P.full (n : Int)) &&& ~~~To) 2), .int .u64 (P.wrd ((I &&& P.full (n : Int)) &&& ~~~To) 3)] := Box.new _ _ _
        have hgq := World.grownBy_alloc v3 (.cells #[.int .u64 (P.wrd ((I &&& P.full (n : Int)) &&& ~~~To) 0), .int .u64 (P.wrd ((I &&& P.full (n : Int)) &&& ~~~To) 1), .int .u64 (P.wrd ((I &&& P.full (n : Int)) &&& ~~~To) 2), .int .u64 (P.wrd ((I &&& P.full (n : Int)) &&& ~~~To) 3)] 28) none
        replace BQs := Lib.hid (BQs.out.keep hgq)
        replace WB := Lib.hid (WB.out.trans ((below_of_grown hgq).mono WB.out.size))
        generalize (v3.alloc (.cells #[.int .u64 (P.wrd ((I &&& P.full (n : Int)) &&& ~~~To) 0), .int .u64 (P.wrd ((I &&& P.full (n : Int)) &&& ~~~To) 1), .int .u64 (P.wrd ((I &&& P.full (n : Int)) &&& ~~~To) 2), .int .u64 (P.wrd ((I &&& P.full (n : Int)) &&& ~~~To) 3)] 28)) = v4 at bq BQs WB ⊢
        generalize v3.heap.size = qv at bq LQS2 ⊢
        have BQv := Lib.hid bq
        clear bq hgq
        have HQ_ := Lib.hid (show wA.heap.size ≤ qs ∧ wA.heap.size ≤ qv ∧ qs < qv from ⟨LQS.out, by have h1 := LQS.out; have h2 := LQS2.out; omega, LQS2.out⟩)
        have HGI := Lib.hid (show qg < wA.heap.size ∧ qi < wA.heap.size from ⟨HBQg.out.lt, HBQi.out.lt⟩)
        have HQSV := Lib.hid BQs.out
        have HQVV := Lib.hid BQv.out
        have HWBV := Lib.hid WB.out
        have LWB : Hid (wA.heap.size ≤ wA.heap.size) := Lib.hid (Nat.le_refl _)
        clear BQs BQv WB BQg BQi BQt BQf BQh GF GH W
        go_wp2_with fail
        go_loopw [18] (fun i wr => ∃ r : Nat, r ≤ n + 1 ∧ i = .int .i64 (r : Int) ∧ Below wA.heap.size wA wr ∧ Box wr qs 28 #[.int .u64 (P.wrd (P.iter (fun s => (List.range n).foldl (P.upS g (I &&& P.full (n : Int))) s) r (To &&& (I &&& P.full (n : Int)))) 0), .int .u64 (P.wrd (P.iter (fun s => (List.range n).foldl (P.upS g (I &&& P.full (n : Int))) s) r (To &&& (I &&& P.full (n : Int)))) 1), .int .u64 (P.wrd (P.iter (fun s => (List.range n).foldl (P.upS g (I &&& P.full (n : Int))) s) r (To &&& (I &&& P.full (n : Int)))) 2), .int .u64 (P.wrd (P.iter (fun s => (List.range n).foldl (P.upS g (I &&& P.full (n : Int))) s) r (To &&& (I &&& P.full (n : Int)))) 3)] ∧ Box wr qv 28 #[.int .u64 (P.wrd (P.iter (fun s => (List.range n).foldl (P.upT g (I &&& P.full (n : Int))) s) r ((I &&& P.full (n : Int)) &&& ~~~To)) 0), .int .u64 (P.wrd (P.iter (fun s => (List.range n).foldl (P.upT g (I &&& P.full (n : Int))) s) r ((I &&& P.full (n : Int)) &&& ~~~To)) 1), .int .u64 (P.wrd (P.iter (fun s => (List.range n).foldl (P.upT g (I &&& P.full (n : Int))) s) r ((I &&& P.full (n : Int)) &&& ~~~To)) 2), .int .u64 (P.wrd (P.iter (fun s => (List.range n).foldl (P.upT g (I &&& P.full (n : Int))) s) r ((I &&& P.full (n : Int)) &&& ~~~To)) 3)]) (fun i _ => n + 1 - (intOf i).toNat)
        case atStart => exact ⟨0, Nat.zero_le _, rfl, HWBV.out, HQSV.out, HQVV.out⟩
        case round =>
          obtain ⟨r, hr, rfl, hwb, hs_, hv_⟩ := hrel
          have WB := Lib.hid hwb
          have BQs := Lib.hid hs_
          have BQv := Lib.hid hv_
          clear hwb hs_ hv_
          have hr0 : (0 : Int) ≤ (r : Int) := Int.natCast_nonneg _
          by_cases hlr : r ≤ n
          · have fr : decide ((r : Int) ≤ (n : Int)) = true := decide_eq_true (by omega)
            obtain ⟨s0, hs0⟩ : ∃ s, P.iter (fun s => (List.range n).foldl (P.upS g (I &&& P.full (n : Int))) s) r (To &&& (I &&& P.full (n : Int))) = s := ⟨_, rfl⟩
            obtain ⟨t0, ht0⟩ : ∃ s, P.iter (fun s => (List.range n).foldl (P.upT g (I &&& P.full (n : Int))) s) r ((I &&& P.full (n : Int)) &&& ~~~To) = s := ⟨_, rfl⟩
            rw [hs0] at BQs
            rw [ht0] at BQv
            have HS0 := Lib.hid hs0
            have HT0 := Lib.hid ht0
            clear hs0 ht0
            obtain ⟨wo, rfl⟩ : ∃ wo : World, wo = wr := ⟨_, rfl⟩
            go_wp2_with fail
            go_loopw [19] (fun i wr => ∃ j : Nat, j ≤ n ∧ i = .int .i64 (j : Int) ∧ Below wA.heap.size wA wr ∧ Box wr qs 28 #[.int .u64 (P.wrd ((List.range j).foldl (P.upS g (I &&& P.full (n : Int))) s0) 0), .int .u64 (P.wrd ((List.range j).foldl (P.upS g (I &&& P.full (n : Int))) s0) 1), .int .u64 (P.wrd ((List.range j).foldl (P.upS g (I &&& P.full (n : Int))) s0) 2), .int .u64 (P.wrd ((List.range j).foldl (P.upS g (I &&& P.full (n : Int))) s0) 3)] ∧ Box wr qv 28 #[.int .u64 (P.wrd ((List.range j).foldl (P.upT g (I &&& P.full (n : Int))) t0) 0), .int .u64 (P.wrd ((List.range j).foldl (P.upT g (I &&& P.full (n : Int))) t0) 1), .int .u64 (P.wrd ((List.range j).foldl (P.upT g (I &&& P.full (n : Int))) t0) 2), .int .u64 (P.wrd ((List.range j).foldl (P.upT g (I &&& P.full (n : Int))) t0) 3)]) (fun i _ => n - (intOf i).toNat)
            case atStart => exact ⟨0, Nat.zero_le _, rfl, WB.out, BQs.out, BQv.out⟩
            case round =>
              clear BQs BQv WB
              obtain ⟨j, hj, rfl, hwb, hs_, hv_⟩ := hrel
              obtain ⟨s, hs1⟩ : ∃ s, (List.range j).foldl (P.upS g (I &&& P.full (n : Int))) s0 = s := ⟨_, rfl⟩
              obtain ⟨t, ht1⟩ : ∃ t, (List.range j).foldl (P.upT g (I &&& P.full (n : Int))) t0 = t := ⟨_, rfl⟩
              rw [hs1] at hs_
              rw [ht1] at hv_
              have WB := Lib.hid hwb
              have BQs := Lib.hid hs_
              have BQv := Lib.hid hv_
              have HSJ := Lib.hid hs1
              have HTJ := Lib.hid ht1
              clear hwb hs_ hv_ hs1 ht1
              have hj0 : (0 : Int) ≤ (j : Int) := Int.natCast_nonneg _
              by_cases hlt : j < n
              · have fj : decide ((j : Int) < (n : Int)) = true := decide_eq_true (by omega)
                have hji : (j : Int) < (n : Int) := by omega
                have BQg := Lib.hid (HBQg.out.keep (grown_of_below WB.out none))
                have BQi := Lib.hid (HBQi.out.keep (grown_of_below WB.out none))
                have hww := HWA.out.trans (WB.out.mono HWA.out.size)
                obtain ⟨xv, hcx, hxv⟩ := HCC.out wr hww j hlt
                obtain ⟨ms, hms⟩ : ∃ ms, g.moves.getD j [] = ms := ⟨_, rfl⟩
                rw [hms] at hxv
                have IX := Lib.hid hxv
                obtain ⟨mo, mk, rfl, -, -⟩ := hxv
                have HCX := Lib.hid hcx
                have HMS := Lib.hid hms
                have LWR := Lib.hid WB.out.size
                have Lg := Lib.hid BQg.out.lt
                have Li := Lib.hid BQi.out.lt
                have Ls := Lib.hid BQs.out.lt
                have Lv := Lib.hid BQv.out.lt
                clear hms hcx hww
                go_upto_region 22 with (fail)
                refine Rg.wp_region_lit (fun idx => match idx with | 0 => (fun v _ _ => v = (.pointer (some ⟨qg, 2, none⟩))) | 1 => (fun v _ _ => v = (.slice (some ⟨bc, oc, none⟩) n kc)) | 2 => (fun v _ _ => v = (.int .i64 (j : Int))) | 3 => (fun v _ _ => v = (.pointer (some ⟨bc, oc + j, none⟩))) | 4 => (fun v _ _ => v = (.slice mo ms.length mk)) | 5 => (fun v _ _ => v = .agg #[.int .u64 (P.wrd (P.ofL ms) 0), .int .u64 (P.wrd (P.ofL ms) 1), .int .u64 (P.wrd (P.ofL ms) 2), .int .u64 (P.wrd (P.ofL ms) 3)]) | 6 => (fun v _ _ => v = .agg #[.int .u64 (P.wrd (I &&& P.full (n : Int)) 0), .int .u64 (P.wrd (I &&& P.full (n : Int)) 1), .int .u64 (P.wrd (I &&& P.full (n : Int)) 2), .int .u64 (P.wrd (I &&& P.full (n : Int)) 3)]) | 7 => (fun v _ _ => v = .agg #[.int .u64 (P.wrd (P.ofL ms &&& (I &&& P.full (n : Int))) 0), .int .u64 (P.wrd (P.ofL ms &&& (I &&& P.full (n : Int))) 1), .int .u64 (P.wrd (P.ofL ms &&& (I &&& P.full (n : Int))) 2), .int .u64 (P.wrd (P.ofL ms &&& (I &&& P.full (n : Int))) 3)]) | 8 => (fun v _ w' => ∃ qp, v = .pointer (some ⟨qp, 0, none⟩) ∧ wr.heap.size ≤ qp ∧ Box w' qp 28 #[.int .u64 0, .int .u64 0, .int .u64 0, .int .u64 0]) | _ => fun _ _ _ => True) (none) 99 (by kernel_rfl) (by rfl) (by kernel_rfl) (by rfl) ?_ ?_ ?_
                · refine ⟨?_, ?_, ?_, ?_, ?_, ?_, ?_, ?_, ?_, trivial⟩
                  · intro A w' K vals h hn hg hK
                    have r0 : A.tmps[4]?.getD undef = (.pointer (some ⟨qg, 0, none⟩)) := Rg.slot (h.1)
                    clear h hn hg
                    simp [Oper.wp, execOp, go_sem, r0]
                    exact hK _ _ (Rg.grown_refl _ _) rfl
                  · intro A w' K vals h hn hg hK
                    have r0 : A.tmps[89]?.getD undef = vals 0 := Rg.slot h.1
                    have r1 : vals 0 = (.pointer (some ⟨qg, 2, none⟩)) := hn.1
                    have c : w'.cell? ⟨qg, 2, none⟩ = some (.slice (some ⟨bc, oc, none⟩) n kc) := (BQg.out.keep (hg)).cell _ _ rfl
                    clear h hn
                    simp [Oper.wp, execOp, go_sem, r0, r1, c]
                    exact hK _ _ (Rg.grown_refl _ _) rfl
                  · intro A w' K vals h hn hg hK
                    have r0 : A.tmps[19]?.getD undef = (.int .i64 (j : Int)) := Rg.slot (h.1)
                    clear h hn hg
                    simp [Oper.wp, execOp, go_sem, r0]
                    exact hK _ _ (Rg.grown_refl _ _) rfl
                  · intro A w' K vals h hn hg hK
                    have r0 : A.tmps[90]?.getD undef = vals 1 := Rg.slot h.1
                    have r1 : A.tmps[91]?.getD undef = vals 2 := Rg.slot h.2.1
                    have r2 : vals 1 = (.slice (some ⟨bc, oc, none⟩) n kc) := hn.1
                    have r3 : vals 2 = (.int .i64 (j : Int)) := hn.2.1
                    clear h hn hg
                    simp [Oper.wp, execOp, go_sem, r0, r1, r2, r3, hlt]
                    exact hK _ _ (Rg.grown_refl _ _) rfl
                  · intro A w' K vals h hn hg hK
                    have r0 : A.tmps[92]?.getD undef = vals 3 := Rg.slot h.1
                    have r1 : vals 3 = (.pointer (some ⟨bc, oc + j, none⟩)) := hn.1
                    have c : w'.cell? ⟨bc, oc + j, none⟩ = some (.slice mo ms.length mk) := hg.cell HCX.out (by simp)
                    clear h hn
                    simp [Oper.wp, execOp, go_sem, r0, r1, c]
                    exact hK _ _ (Rg.grown_refl _ _) rfl
                  · intro A w' K vals h hn hg hK
                    have r0 : A.tmps[93]?.getD undef = vals 4 := Rg.slot h.2.1
                    have s0 : vals 4 = (.slice mo ms.length mk) := hn.1
                    clear h hn
                    simp [Oper.wp, go_sem, r0, s0]
                    refine (of_ints (IX.out.on (below_of_grown hg))).mono ?_
                    rintro e w'' ⟨rfl, hb⟩
                    exact hK _ _ (grown_of_below hb _) rfl
                  · intro A w' K vals h hn hg hK
                    have r0 : A.tmps[5]?.getD undef = .pointer (some ⟨qi, 0, none⟩) := Rg.slot h.1
                    have bs := BQi.out.keep hg
                    have cc0 : w'.cell? ⟨qi, 0, none⟩ = some (.int .u64 (P.wrd (I &&& P.full (n : Int)) 0)) := bs.cell 0 _ rfl
                    have cc1 : w'.cell? ⟨qi, 1, none⟩ = some (.int .u64 (P.wrd (I &&& P.full (n : Int)) 1)) := bs.cell 1 _ rfl
                    have cc2 : w'.cell? ⟨qi, 2, none⟩ = some (.int .u64 (P.wrd (I &&& P.full (n : Int)) 2)) := bs.cell 2 _ rfl
                    have cc3 : w'.cell? ⟨qi, 3, none⟩ = some (.int .u64 (P.wrd (I &&& P.full (n : Int)) 3)) := bs.cell 3 _ rfl
                    clear h hn hg bs
                    simp [Oper.wp, execOp, go_sem, r0, cc0, cc1, cc2, cc3]
                    exact hK _ _ (Rg.grown_refl _ _) rfl
                  · intro A w' K vals h hn hg hK
                    have r0 : A.tmps[94]?.getD undef = vals 5 := Rg.slot h.2.1
                    have s0 : vals 5 = .agg #[.int .u64 (P.wrd (P.ofL ms) 0), .int .u64 (P.wrd (P.ofL ms) 1), .int .u64 (P.wrd (P.ofL ms) 2), .int .u64 (P.wrd (P.ofL ms) 3)] := hn.1
                    have r1 : A.tmps[95]?.getD undef = vals 6 := Rg.slot h.2.2.1
                    have s1 : vals 6 = .agg #[.int .u64 (P.wrd (I &&& P.full (n : Int)) 0), .int .u64 (P.wrd (I &&& P.full (n : Int)) 1), .int .u64 (P.wrd (I &&& P.full (n : Int)) 2), .int .u64 (P.wrd (I &&& P.full (n : Int)) 3)] := hn.2.1
                    clear h hn
                    simp [Oper.wp, go_sem, r0, s0, r1, s1]
                    refine (and_any (P.ofL ms) (I &&& P.full (n : Int)) w').mono ?_
                    rintro e w'' ⟨rfl, hb⟩
                    exact hK _ _ (grown_of_below hb _) rfl
                  · intro A w' K vals h hn hg hK
                    clear h hn
                    simp [Oper.wp, execOp, go_sem]
                    exact hK _ _ (World.grownBy_alloc _ _ _) ⟨_, rfl, hg.size, Box.new _ _ _⟩
                · refine ⟨?_, ?_, ?_, ?_, ?_, ?_, ?_, ?_, ?_, trivial⟩
                  · exact fun _ _ _ _ _ _ h => h
                  · exact fun _ _ _ _ _ _ h => h
                  · exact fun _ _ _ _ _ _ h => h
                  · exact fun _ _ _ _ _ _ h => h
                  · exact fun _ _ _ _ _ _ h => h
                  · exact fun _ _ _ _ _ _ h => h
                  · exact fun _ _ _ _ _ _ h => h
                  · exact fun _ _ _ _ _ _ h => h
                  · exact fun _ _ _ _ _ h ⟨qp, hv, hq, hb⟩ => ⟨qp, hv, hq, hb.keep h⟩
                · intro vals w7 G hg hS hG
                  have s7 : vals 7 = .agg #[.int .u64 (P.wrd (P.ofL ms &&& (I &&& P.full (n : Int))) 0), .int .u64 (P.wrd (P.ofL ms &&& (I &&& P.full (n : Int))) 1), .int .u64 (P.wrd (P.ofL ms &&& (I &&& P.full (n : Int))) 2), .int .u64 (P.wrd (P.ofL ms &&& (I &&& P.full (n : Int))) 3)] := hS.2.2.2.2.2.2.2.1
                  obtain ⟨ql, s8, hql, hbl⟩ : ∃ qp, vals 8 = .pointer (some ⟨qp, 0, none⟩) ∧ wr.heap.size ≤ qp ∧ Box w7 qp 28 #[.int .u64 0, .int .u64 0, .int .u64 0, .int .u64 0] := hS.2.2.2.2.2.2.2.2.1
                  clear hS
                  have hb := below_of_grown hg
                  replace BQg := Lib.hid (BQg.out.keep (grown_of_below hb none))
                  replace BQi := Lib.hid (BQi.out.keep (grown_of_below hb none))
                  replace BQs := Lib.hid (BQs.out.keep (grown_of_below hb none))
                  replace BQv := Lib.hid (BQv.out.keep (grown_of_below hb none))
                  replace WB := Lib.hid (WB.out.trans (hb.mono WB.out.size))
                  clear hb
                  have lc0 : w7.cell? ⟨ql, 0, none⟩ = some (.int .u64 0) := hbl.cell 0 _ rfl
                  have lc1 : w7.cell? ⟨ql, 1, none⟩ = some (.int .u64 0) := hbl.cell 1 _ rfl
                  have lc2 : w7.cell? ⟨ql, 2, none⟩ = some (.int .u64 0) := hbl.cell 2 _ rfl
                  have lc3 : w7.cell? ⟨ql, 3, none⟩ = some (.int .u64 0) := hbl.cell 3 _ rfl
                  have lf0 : w7.frozen? ⟨ql, 0, none⟩ = false := hbl.frozen 0
                  have lf1 : w7.frozen? ⟨ql, 1, none⟩ = false := hbl.frozen 1
                  have lf2 : w7.frozen? ⟨ql, 2, none⟩ = false := hbl.frozen 2
                  have lf3 : w7.frozen? ⟨ql, 3, none⟩ = false := hbl.frozen 3
                  have BQl := Lib.hid (show Box ((((w7.setCell ⟨ql, 0, none⟩ (.int .u64 (P.wrd (P.ofL ms &&& (I &&& P.full (n : Int))) 0))).setCell ⟨ql, 1, none⟩ (.int .u64 (P.wrd (P.ofL ms &&& (I &&& P.full (n : Int))) 1))).setCell ⟨ql, 2, none⟩ (.int .u64 (P.wrd (P.ofL ms &&& (I &&& P.full (n : Int))) 2))).setCell ⟨ql, 3, none⟩ (.int .u64 (P.wrd (P.ofL ms &&& (I &&& P.full (n : Int))) 3))) ql 28 #[.int .u64 (P.wrd (P.ofL ms &&& (I &&& P.full (n : Int))) 0), .int .u64 (P.wrd (P.ofL ms &&& (I &&& P.full (n : Int))) 1), .int .u64 (P.wrd (P.ofL ms &&& (I &&& P.full (n : Int))) 2), .int .u64 (P.wrd (P.ofL ms &&& (I &&& P.full (n : Int))) 3)] from Blk.store (Blk.zero hbl) (P.ofL ms &&& (I &&& P.full (n : Int))))
                  have hne : ∀ q, q < wr.heap.size → q ≠ ql := fun q hq e => by omega
                  have BQg := Lib.hid (far4 (.int .u64 (P.wrd (P.ofL ms &&& (I &&& P.full (n : Int))) 0)) (.int .u64 (P.wrd (P.ofL ms &&& (I &&& P.full (n : Int))) 1)) (.int .u64 (P.wrd (P.ofL ms &&& (I &&& P.full (n : Int))) 2)) (.int .u64 (P.wrd (P.ofL ms &&& (I &&& P.full (n : Int))) 3)) BQg.out (hne _ Lg.out))
                  have BQi := Lib.hid (far4 (.int .u64 (P.wrd (P.ofL ms &&& (I &&& P.full (n : Int))) 0)) (.int .u64 (P.wrd (P.ofL ms &&& (I &&& P.full (n : Int))) 1)) (.int .u64 (P.wrd (P.ofL ms &&& (I &&& P.full (n : Int))) 2)) (.int .u64 (P.wrd (P.ofL ms &&& (I &&& P.full (n : Int))) 3)) BQi.out (hne _ Li.out))
                  have BQs := Lib.hid (far4 (.int .u64 (P.wrd (P.ofL ms &&& (I &&& P.full (n : Int))) 0)) (.int .u64 (P.wrd (P.ofL ms &&& (I &&& P.full (n : Int))) 1)) (.int .u64 (P.wrd (P.ofL ms &&& (I &&& P.full (n : Int))) 2)) (.int .u64 (P.wrd (P.ofL ms &&& (I &&& P.full (n : Int))) 3)) BQs.out (hne _ Ls.out))
                  have BQv := Lib.hid (far4 (.int .u64 (P.wrd (P.ofL ms &&& (I &&& P.full (n : Int))) 0)) (.int .u64 (P.wrd (P.ofL ms &&& (I &&& P.full (n : Int))) 1)) (.int .u64 (P.wrd (P.ofL ms &&& (I &&& P.full (n : Int))) 2)) (.int .u64 (P.wrd (P.ofL ms &&& (I &&& P.full (n : Int))) 3)) BQv.out (hne _ Lv.out))
                  replace WB := Lib.hid (WB.out.trans (below4 (w := w7) (q := ql) (.int .u64 (P.wrd (P.ofL ms &&& (I &&& P.full (n : Int))) 0)) (.int .u64 (P.wrd (P.ofL ms &&& (I &&& P.full (n : Int))) 1)) (.int .u64 (P.wrd (P.ofL ms &&& (I &&& P.full (n : Int))) 2)) (.int .u64 (P.wrd (P.ofL ms &&& (I &&& P.full (n : Int))) 3)) (Nat.le_trans LWR.out hql)))
                  have HNE_ := Lib.hid (show qg ≠ qs ∧ qi ≠ qs ∧ ql ≠ qs ∧ qv ≠ qs ∧ qg ≠ qv ∧ qi ≠ qv ∧ ql ≠ qv ∧ qs ≠ qv from by
                    have h1 := Lg.out
                    have h2 := Li.out
                    have h3 := Ls.out
                    have h4 := Lv.out
                    have h5 := HQ_.out
                    have h6 := HGI.out
                    refine ⟨by omega, by omega, by omega, by omega, by omega, by omega, by omega, by omega⟩)
                  clear hbl hg hql hne
                  refine hG ?_
                  clear hG
                  simp [List.dropLast, Rg.putAll, Oper.wp, execOp, go_sem, s7, s8, lc0, lc1, lc2, lc3, lf0, lf1, lf2, lf3]
                  clear s7 s8 lc0 lc1 lc2 lc3 lf0 lf1 lf2 lf3
                  generalize ((((w7.setCell ⟨ql, 0, none⟩ (.int .u64 (P.wrd (P.ofL ms &&& (I &&& P.full (n : Int))) 0))).setCell ⟨ql, 1, none⟩ (.int .u64 (P.wrd (P.ofL ms &&& (I &&& P.full (n : Int))) 1))).setCell ⟨ql, 2, none⟩ (.int .u64 (P.wrd (P.ofL ms &&& (I &&& P.full (n : Int))) 2))).setCell ⟨ql, 3, none⟩ (.int .u64 (P.wrd (P.ofL ms &&& (I &&& P.full (n : Int))) 3))) = w8 at BQg BQi BQs BQv BQl WB ⊢
                  have hbb := BQi.out
                  have ic0 : w8.cell? ⟨qi, 0, none⟩ = some (.int .u64 (P.wrd (I &&& P.full (n : Int)) 0)) := hbb.cell 0 _ rfl
                  have ic1 : w8.cell? ⟨qi, 1, none⟩ = some (.int .u64 (P.wrd (I &&& P.full (n : Int)) 1)) := hbb.cell 1 _ rfl
                  have ic2 : w8.cell? ⟨qi, 2, none⟩ = some (.int .u64 (P.wrd (I &&& P.full (n : Int)) 2)) := hbb.cell 2 _ rfl
                  have ic3 : w8.cell? ⟨qi, 3, none⟩ = some (.int .u64 (P.wrd (I &&& P.full (n : Int)) 3)) := hbb.cell 3 _ rfl
                  clear hbb
                  go_wp2_with fail
                  refine (has_any (I &&& P.full (n : Int)) (j : Int) _).mono ?_
                  rintro e w9 ⟨rfl, hb⟩
                  replace BQg := Lib.hid (BQg.out.keep (grown_of_below hb none))
                  replace BQi := Lib.hid (BQi.out.keep (grown_of_below hb none))
                  replace BQl := Lib.hid (BQl.out.keep (grown_of_below hb none))
                  replace BQs := Lib.hid (BQs.out.keep (grown_of_below hb none))
                  replace BQv := Lib.hid (BQv.out.keep (grown_of_below hb none))
                  replace WB := Lib.hid (WB.out.trans (hb.mono WB.out.size))
                  clear hb ic0 ic1 ic2 ic3
                  rw [P.has_nat]
                  by_cases h1 : (I &&& P.full (n : Int)).getLsbD j = true
                  · rw [h1]
                    have hbb := BQl.out
                    have lc0 : w9.cell? ⟨ql, 0, none⟩ = some (.int .u64 (P.wrd (P.ofL ms &&& (I &&& P.full (n : Int))) 0)) := hbb.cell 0 _ rfl
                    have lc1 : w9.cell? ⟨ql, 1, none⟩ = some (.int .u64 (P.wrd (P.ofL ms &&& (I &&& P.full (n : Int))) 1)) := hbb.cell 1 _ rfl
                    have lc2 : w9.cell? ⟨ql, 2, none⟩ = some (.int .u64 (P.wrd (P.ofL ms &&& (I &&& P.full (n : Int))) 2)) := hbb.cell 2 _ rfl
                    have lc3 : w9.cell? ⟨ql, 3, none⟩ = some (.int .u64 (P.wrd (P.ofL ms &&& (I &&& P.full (n : Int))) 3)) := hbb.cell 3 _ rfl
                    clear hbb
                    have hbb := BQs.out
                    have sc0 : w9.cell? ⟨qs, 0, none⟩ = some (.int .u64 (P.wrd s 0)) := hbb.cell 0 _ rfl
                    have sc1 : w9.cell? ⟨qs, 1, none⟩ = some (.int .u64 (P.wrd s 1)) := hbb.cell 1 _ rfl
                    have sc2 : w9.cell? ⟨qs, 2, none⟩ = some (.int .u64 (P.wrd s 2)) := hbb.cell 2 _ rfl
                    have sc3 : w9.cell? ⟨qs, 3, none⟩ = some (.int .u64 (P.wrd s 3)) := hbb.cell 3 _ rfl
                    clear hbb
                    go_wp2_with fail
                    refine (and_any (P.ofL ms &&& (I &&& P.full (n : Int))) s _).mono ?_
                    rintro e wb ⟨rfl, hb⟩
                    replace BQg := Lib.hid (BQg.out.keep (grown_of_below hb none))
                    replace BQi := Lib.hid (BQi.out.keep (grown_of_below hb none))
                    replace BQl := Lib.hid (BQl.out.keep (grown_of_below hb none))
                    replace BQs := Lib.hid (BQs.out.keep (grown_of_below hb none))
                    replace BQv := Lib.hid (BQv.out.keep (grown_of_below hb none))
                    replace WB := Lib.hid (WB.out.trans (hb.mono WB.out.size))
                    clear hb lc0 lc1 lc2 lc3 sc0 sc1 sc2 sc3
                    by_cases h2 : (P.ofL ms &&& (I &&& P.full (n : Int))) &&& s = 0#256
                    · have eqa := fun w => set_neq ((P.ofL ms &&& (I &&& P.full (n : Int))) &&& s) 0#256 w
                      rw [decide_eq_true h2, zero_set] at eqa
                      have HUS := Lib.hid (show P.upS g (I &&& P.full (n : Int)) s j = s from by unfold P.upS; rw [HMS.out, if_neg (fun h => h.2 h2)])
                      clear h1 h2
                      go_upto_region 25 with (fail)
                      clear eqa
                      generalize wb = wz at BQg BQi BQl BQs BQv WB ⊢
                      have hbb := BQv.out
                      have vc0 : wz.cell? ⟨qv, 0, none⟩ = some (.int .u64 (P.wrd t 0)) := hbb.cell 0 _ rfl
                      have vc1 : wz.cell? ⟨qv, 1, none⟩ = some (.int .u64 (P.wrd t 1)) := hbb.cell 1 _ rfl
                      have vc2 : wz.cell? ⟨qv, 2, none⟩ = some (.int .u64 (P.wrd t 2)) := hbb.cell 2 _ rfl
                      have vc3 : wz.cell? ⟨qv, 3, none⟩ = some (.int .u64 (P.wrd t 3)) := hbb.cell 3 _ rfl
                      clear hbb
                      go_wp2_with fail
                      refine (has_any t (j : Int) _).mono ?_
                      rintro e wy ⟨rfl, hb⟩
                      replace BQg := Lib.hid (BQg.out.keep (grown_of_below hb none))
                      replace BQi := Lib.hid (BQi.out.keep (grown_of_below hb none))
                      replace BQl := Lib.hid (BQl.out.keep (grown_of_below hb none))
                      replace BQs := Lib.hid (BQs.out.keep (grown_of_below hb none))
                      replace BQv := Lib.hid (BQv.out.keep (grown_of_below hb none))
                      replace WB := Lib.hid (WB.out.trans (hb.mono WB.out.size))
                      clear hb vc0 vc1 vc2 vc3
                      rw [P.has_nat]
                      by_cases h3 : t.getLsbD j = true
                      · rw [h3]
                        by_cases h4 : (P.ofL ms &&& (I &&& P.full (n : Int))) = 0#256
                        · have eqa := fun w => set_neq (P.ofL ms &&& (I &&& P.full (n : Int))) 0#256 w
                          rw [decide_eq_true h4, zero_set] at eqa
                          have HUT := Lib.hid (show P.upT g (I &&& P.full (n : Int)) t j = t from by unfold P.upT; rw [HMS.out, if_neg (fun h => h.2.1 h4)])
                          clear h3 h4
                          have hbb := BQl.out
                          have lc0 : wy.cell? ⟨ql, 0, none⟩ = some (.int .u64 (P.wrd (P.ofL ms &&& (I &&& P.full (n : Int))) 0)) := hbb.cell 0 _ rfl
                          have lc1 : wy.cell? ⟨ql, 1, none⟩ = some (.int .u64 (P.wrd (P.ofL ms &&& (I &&& P.full (n : Int))) 1)) := hbb.cell 1 _ rfl
                          have lc2 : wy.cell? ⟨ql, 2, none⟩ = some (.int .u64 (P.wrd (P.ofL ms &&& (I &&& P.full (n : Int))) 2)) := hbb.cell 2 _ rfl
                          have lc3 : wy.cell? ⟨ql, 3, none⟩ = some (.int .u64 (P.wrd (P.ofL ms &&& (I &&& P.full (n : Int))) 3)) := hbb.cell 3 _ rfl
                          clear hbb
                          have HS := Lib.hid (show Box _ qs 28 #[.int .u64 (P.wrd (P.upS g (I &&& P.full (n : Int)) s j) 0), .int .u64 (P.wrd (P.upS g (I &&& P.full (n : Int)) s j) 1), .int .u64 (P.wrd (P.upS g (I &&& P.full (n : Int)) s j) 2), .int .u64 (P.wrd (P.upS g (I &&& P.full (n : Int)) s j) 3)] from by rw [HUS.out]; exact BQs.out)
                          have HT := Lib.hid (show Box _ qv 28 #[.int .u64 (P.wrd (P.upT g (I &&& P.full (n : Int)) t j) 0), .int .u64 (P.wrd (P.upT g (I &&& P.full (n : Int)) t j) 1), .int .u64 (P.wrd (P.upT g (I &&& P.full (n : Int)) t j) 2), .int .u64 (P.wrd (P.upT g (I &&& P.full (n : Int)) t j) 3)] from by rw [HUT.out]; exact BQv.out)
                          go_wp2_with fail
                          go_roundw
                          case rel => exact ⟨j + 1, by omega, by go_num, WB.out, by rw [fold_succ, HSJ.out]; exact HS.out, by rw [fold_succ, HTJ.out]; exact HT.out⟩
                          case measure => simp [intOf]; omega
                        · have eqa := fun w => set_neq (P.ofL ms &&& (I &&& P.full (n : Int))) 0#256 w
                          rw [decide_eq_false h4, zero_set] at eqa
                          have hbb := BQl.out
                          have lc0 : wy.cell? ⟨ql, 0, none⟩ = some (.int .u64 (P.wrd (P.ofL ms &&& (I &&& P.full (n : Int))) 0)) := hbb.cell 0 _ rfl
                          have lc1 : wy.cell? ⟨ql, 1, none⟩ = some (.int .u64 (P.wrd (P.ofL ms &&& (I &&& P.full (n : Int))) 1)) := hbb.cell 1 _ rfl
                          have lc2 : wy.cell? ⟨ql, 2, none⟩ = some (.int .u64 (P.wrd (P.ofL ms &&& (I &&& P.full (n : Int))) 2)) := hbb.cell 2 _ rfl
                          have lc3 : wy.cell? ⟨ql, 3, none⟩ = some (.int .u64 (P.wrd (P.ofL ms &&& (I &&& P.full (n : Int))) 3)) := hbb.cell 3 _ rfl
                          clear hbb
                          have hbb := BQv.out
                          have vc0 : wy.cell? ⟨qv, 0, none⟩ = some (.int .u64 (P.wrd t 0)) := hbb.cell 0 _ rfl
                          have vc1 : wy.cell? ⟨qv, 1, none⟩ = some (.int .u64 (P.wrd t 1)) := hbb.cell 1 _ rfl
                          have vc2 : wy.cell? ⟨qv, 2, none⟩ = some (.int .u64 (P.wrd t 2)) := hbb.cell 2 _ rfl
                          have vc3 : wy.cell? ⟨qv, 3, none⟩ = some (.int .u64 (P.wrd t 3)) := hbb.cell 3 _ rfl
                          clear hbb
                          go_wp2_with fail
                          refine (and_any (P.ofL ms &&& (I &&& P.full (n : Int))) t _).mono ?_
                          rintro e wx ⟨rfl, hb⟩
                          replace BQg := Lib.hid (BQg.out.keep (grown_of_below hb none))
                          replace BQi := Lib.hid (BQi.out.keep (grown_of_below hb none))
                          replace BQl := Lib.hid (BQl.out.keep (grown_of_below hb none))
                          replace BQs := Lib.hid (BQs.out.keep (grown_of_below hb none))
                          replace BQv := Lib.hid (BQv.out.keep (grown_of_below hb none))
                          replace WB := Lib.hid (WB.out.trans (hb.mono WB.out.size))
                          clear hb lc0 lc1 lc2 lc3 vc0 vc1 vc2 vc3 eqa
                          by_cases h5 : (P.ofL ms &&& (I &&& P.full (n : Int))) &&& t = 0#256
                          · have eqa := fun w => set_eq ((P.ofL ms &&& (I &&& P.full (n : Int))) &&& t) 0#256 w
                            rw [decide_eq_true h5, zero_set] at eqa
                            have HUT := Lib.hid (show P.upT g (I &&& P.full (n : Int)) t j = t &&& ~~~P.bit (j : Int) from by unfold P.upT; rw [HMS.out, if_pos ⟨h3, h4, h5⟩])
                            clear h3 h4 h5
                            go_upto_region 26 with (fail)
                            clear eqa
                            have hbb := BQv.out
                            have vc0 : wx.cell? ⟨qv, 0, none⟩ = some (.int .u64 (P.wrd t 0)) := hbb.cell 0 _ rfl
                            have vc1 : wx.cell? ⟨qv, 1, none⟩ = some (.int .u64 (P.wrd t 1)) := hbb.cell 1 _ rfl
                            have vc2 : wx.cell? ⟨qv, 2, none⟩ = some (.int .u64 (P.wrd t 2)) := hbb.cell 2 _ rfl
                            have vc3 : wx.cell? ⟨qv, 3, none⟩ = some (.int .u64 (P.wrd t 3)) := hbb.cell 3 _ rfl
                            clear hbb
                            go_wp2_with fail
                            refine (less_any t (j : Int) _).mono ?_
                            rintro e wu ⟨rfl, hb⟩
                            replace BQg := Lib.hid (BQg.out.keep (grown_of_below hb none))
                            replace BQi := Lib.hid (BQi.out.keep (grown_of_below hb none))
                            replace BQl := Lib.hid (BQl.out.keep (grown_of_below hb none))
                            replace BQs := Lib.hid (BQs.out.keep (grown_of_below hb none))
                            replace BQv := Lib.hid (BQv.out.keep (grown_of_below hb none))
                            replace WB := Lib.hid (WB.out.trans (hb.mono WB.out.size))
                            clear hb vc0 vc1 vc2 vc3
                            have hbb := BQv.out
                            have vc0 : wu.cell? ⟨qv, 0, none⟩ = some (.int .u64 (P.wrd t 0)) := hbb.cell 0 _ rfl
                            have vc1 : wu.cell? ⟨qv, 1, none⟩ = some (.int .u64 (P.wrd t 1)) := hbb.cell 1 _ rfl
                            have vc2 : wu.cell? ⟨qv, 2, none⟩ = some (.int .u64 (P.wrd t 2)) := hbb.cell 2 _ rfl
                            have vc3 : wu.cell? ⟨qv, 3, none⟩ = some (.int .u64 (P.wrd t 3)) := hbb.cell 3 _ rfl
                            have vf0 : wu.frozen? ⟨qv, 0, none⟩ = false := hbb.frozen 0
                            have vf1 : wu.frozen? ⟨qv, 1, none⟩ = false := hbb.frozen 1
                            have vf2 : wu.frozen? ⟨qv, 2, none⟩ = false := hbb.frozen 2
                            have vf3 : wu.frozen? ⟨qv, 3, none⟩ = false := hbb.frozen 3
                            clear hbb
                            go_upto_region 21 with (fail)
                            clear vc0 vc1 vc2 vc3 vf0 vf1 vf2 vf3
                            have BQv := Lib.hid (show Box ((((wu.setCell ⟨qv, 0, none⟩ (.int .u64 (P.wrd (t &&& ~~~P.bit (j : Int)) 0))).setCell ⟨qv, 1, none⟩ (.int .u64 (P.wrd (t &&& ~~~P.bit (j : Int)) 1))).setCell ⟨qv, 2, none⟩ (.int .u64 (P.wrd (t &&& ~~~P.bit (j : Int)) 2))).setCell ⟨qv, 3, none⟩ (.int .u64 (P.wrd (t &&& ~~~P.bit (j : Int)) 3))) qv 28 #[.int .u64 (P.wrd (t &&& ~~~P.bit (j : Int)) 0), .int .u64 (P.wrd (t &&& ~~~P.bit (j : Int)) 1), .int .u64 (P.wrd (t &&& ~~~P.bit (j : Int)) 2), .int .u64 (P.wrd (t &&& ~~~P.bit (j : Int)) 3)] from Blk.store (show Blk wu qv t 28 from BQv.out) (t &&& ~~~P.bit (j : Int)))
                            have BQg := Lib.hid (far4 (.int .u64 (P.wrd (t &&& ~~~P.bit (j : Int)) 0)) (.int .u64 (P.wrd (t &&& ~~~P.bit (j : Int)) 1)) (.int .u64 (P.wrd (t &&& ~~~P.bit (j : Int)) 2)) (.int .u64 (P.wrd (t &&& ~~~P.bit (j : Int)) 3)) BQg.out (show qg ≠ qv from HNE_.out.2.2.2.2.1))
                            have BQi := Lib.hid (far4 (.int .u64 (P.wrd (t &&& ~~~P.bit (j : Int)) 0)) (.int .u64 (P.wrd (t &&& ~~~P.bit (j : Int)) 1)) (.int .u64 (P.wrd (t &&& ~~~P.bit (j : Int)) 2)) (.int .u64 (P.wrd (t &&& ~~~P.bit (j : Int)) 3)) BQi.out (show qi ≠ qv from HNE_.out.2.2.2.2.2.1))
                            have BQl := Lib.hid (far4 (.int .u64 (P.wrd (t &&& ~~~P.bit (j : Int)) 0)) (.int .u64 (P.wrd (t &&& ~~~P.bit (j : Int)) 1)) (.int .u64 (P.wrd (t &&& ~~~P.bit (j : Int)) 2)) (.int .u64 (P.wrd (t &&& ~~~P.bit (j : Int)) 3)) BQl.out (show ql ≠ qv from HNE_.out.2.2.2.2.2.2.1))
                            have BQs := Lib.hid (far4 (.int .u64 (P.wrd (t &&& ~~~P.bit (j : Int)) 0)) (.int .u64 (P.wrd (t &&& ~~~P.bit (j : Int)) 1)) (.int .u64 (P.wrd (t &&& ~~~P.bit (j : Int)) 2)) (.int .u64 (P.wrd (t &&& ~~~P.bit (j : Int)) 3)) BQs.out (show qs ≠ qv from HNE_.out.2.2.2.2.2.2.2))
                            replace WB := Lib.hid (WB.out.trans (below4 (w := wu) (q := qv) (.int .u64 (P.wrd (t &&& ~~~P.bit (j : Int)) 0)) (.int .u64 (P.wrd (t &&& ~~~P.bit (j : Int)) 1)) (.int .u64 (P.wrd (t &&& ~~~P.bit (j : Int)) 2)) (.int .u64 (P.wrd (t &&& ~~~P.bit (j : Int)) 3)) (Nat.le_trans LWB.out HQ_.out.2.1)))
                            generalize ((((wu.setCell ⟨qv, 0, none⟩ (.int .u64 (P.wrd (t &&& ~~~P.bit (j : Int)) 0))).setCell ⟨qv, 1, none⟩ (.int .u64 (P.wrd (t &&& ~~~P.bit (j : Int)) 1))).setCell ⟨qv, 2, none⟩ (.int .u64 (P.wrd (t &&& ~~~P.bit (j : Int)) 2))).setCell ⟨qv, 3, none⟩ (.int .u64 (P.wrd (t &&& ~~~P.bit (j : Int)) 3))) = wt at BQg BQi BQl BQs BQv WB ⊢
                            have HS := Lib.hid (show Box _ qs 28 #[.int .u64 (P.wrd (P.upS g (I &&& P.full (n : Int)) s j) 0), .int .u64 (P.wrd (P.upS g (I &&& P.full (n : Int)) s j) 1), .int .u64 (P.wrd (P.upS g (I &&& P.full (n : Int)) s j) 2), .int .u64 (P.wrd (P.upS g (I &&& P.full (n : Int)) s j) 3)] from by rw [HUS.out]; exact BQs.out)
                            have HT := Lib.hid (show Box _ qv 28 #[.int .u64 (P.wrd (P.upT g (I &&& P.full (n : Int)) t j) 0), .int .u64 (P.wrd (P.upT g (I &&& P.full (n : Int)) t j) 1), .int .u64 (P.wrd (P.upT g (I &&& P.full (n : Int)) t j) 2), .int .u64 (P.wrd (P.upT g (I &&& P.full (n : Int)) t j) 3)] from by rw [HUT.out]; exact BQv.out)
                            go_wp2_with fail
                            go_roundw
                            case rel => exact ⟨j + 1, by omega, by go_num, WB.out, by rw [fold_succ, HSJ.out]; exact HS.out, by rw [fold_succ, HTJ.out]; exact HT.out⟩
                            case measure => simp [intOf]; omega
                          · have eqa := fun w => set_eq ((P.ofL ms &&& (I &&& P.full (n : Int))) &&& t) 0#256 w
                            rw [decide_eq_false h5, zero_set] at eqa
                            have HUT := Lib.hid (show P.upT g (I &&& P.full (n : Int)) t j = t from by unfold P.upT; rw [HMS.out, if_neg (fun h => h5 h.2.2)])
                            clear h3 h4 h5
                            have HS := Lib.hid (show Box _ qs 28 #[.int .u64 (P.wrd (P.upS g (I &&& P.full (n : Int)) s j) 0), .int .u64 (P.wrd (P.upS g (I &&& P.full (n : Int)) s j) 1), .int .u64 (P.wrd (P.upS g (I &&& P.full (n : Int)) s j) 2), .int .u64 (P.wrd (P.upS g (I &&& P.full (n : Int)) s j) 3)] from by rw [HUS.out]; exact BQs.out)
                            have HT := Lib.hid (show Box _ qv 28 #[.int .u64 (P.wrd (P.upT g (I &&& P.full (n : Int)) t j) 0), .int .u64 (P.wrd (P.upT g (I &&& P.full (n : Int)) t j) 1), .int .u64 (P.wrd (P.upT g (I &&& P.full (n : Int)) t j) 2), .int .u64 (P.wrd (P.upT g (I &&& P.full (n : Int)) t j) 3)] from by rw [HUT.out]; exact BQv.out)
                            go_wp2_with fail
                            go_roundw
                            case rel => exact ⟨j + 1, by omega, by go_num, WB.out, by rw [fold_succ, HSJ.out]; exact HS.out, by rw [fold_succ, HTJ.out]; exact HT.out⟩
                            case measure => simp [intOf]; omega
                      · have h3 : t.getLsbD j = false := by simpa using h3
                        rw [h3]
                        have HUT := Lib.hid (show P.upT g (I &&& P.full (n : Int)) t j = t from by unfold P.upT; rw [if_neg (fun h => by rw [h3] at h; cases h.1)])
                        clear h3
                        have HS := Lib.hid (show Box _ qs 28 #[.int .u64 (P.wrd (P.upS g (I &&& P.full (n : Int)) s j) 0), .int .u64 (P.wrd (P.upS g (I &&& P.full (n : Int)) s j) 1), .int .u64 (P.wrd (P.upS g (I &&& P.full (n : Int)) s j) 2), .int .u64 (P.wrd (P.upS g (I &&& P.full (n : Int)) s j) 3)] from by rw [HUS.out]; exact BQs.out)
                        have HT := Lib.hid (show Box _ qv 28 #[.int .u64 (P.wrd (P.upT g (I &&& P.full (n : Int)) t j) 0), .int .u64 (P.wrd (P.upT g (I &&& P.full (n : Int)) t j) 1), .int .u64 (P.wrd (P.upT g (I &&& P.full (n : Int)) t j) 2), .int .u64 (P.wrd (P.upT g (I &&& P.full (n : Int)) t j) 3)] from by rw [HUT.out]; exact BQv.out)
                        go_wp2_with fail
                        go_roundw
                        case rel => exact ⟨j + 1, by omega, by go_num, WB.out, by rw [fold_succ, HSJ.out]; exact HS.out, by rw [fold_succ, HTJ.out]; exact HT.out⟩
                        case measure => simp [intOf]; omega
                    · have eqa := fun w => set_neq ((P.ofL ms &&& (I &&& P.full (n : Int))) &&& s) 0#256 w
                      rw [decide_eq_false h2, zero_set] at eqa
                      have HUS := Lib.hid (show P.upS g (I &&& P.full (n : Int)) s j = s ||| P.bit (j : Int) from by unfold P.upS; rw [HMS.out, if_pos ⟨h1, h2⟩])
                      clear h1 h2
                      go_upto_region 24 with (fail)
                      clear eqa
                      have hbb := BQs.out
                      have sc0 : wb.cell? ⟨qs, 0, none⟩ = some (.int .u64 (P.wrd s 0)) := hbb.cell 0 _ rfl
                      have sc1 : wb.cell? ⟨qs, 1, none⟩ = some (.int .u64 (P.wrd s 1)) := hbb.cell 1 _ rfl
                      have sc2 : wb.cell? ⟨qs, 2, none⟩ = some (.int .u64 (P.wrd s 2)) := hbb.cell 2 _ rfl
                      have sc3 : wb.cell? ⟨qs, 3, none⟩ = some (.int .u64 (P.wrd s 3)) := hbb.cell 3 _ rfl
                      clear hbb
                      go_wp2_with fail
                      refine (with_any s (j : Int) _).mono ?_
                      rintro e wd ⟨rfl, hb⟩
                      replace BQg := Lib.hid (BQg.out.keep (grown_of_below hb none))
                      replace BQi := Lib.hid (BQi.out.keep (grown_of_below hb none))
                      replace BQl := Lib.hid (BQl.out.keep (grown_of_below hb none))
                      replace BQs := Lib.hid (BQs.out.keep (grown_of_below hb none))
                      replace BQv := Lib.hid (BQv.out.keep (grown_of_below hb none))
                      replace WB := Lib.hid (WB.out.trans (hb.mono WB.out.size))
                      clear hb sc0 sc1 sc2 sc3
                      have hbb := BQs.out
                      have sc0 : wd.cell? ⟨qs, 0, none⟩ = some (.int .u64 (P.wrd s 0)) := hbb.cell 0 _ rfl
                      have sc1 : wd.cell? ⟨qs, 1, none⟩ = some (.int .u64 (P.wrd s 1)) := hbb.cell 1 _ rfl
                      have sc2 : wd.cell? ⟨qs, 2, none⟩ = some (.int .u64 (P.wrd s 2)) := hbb.cell 2 _ rfl
                      have sc3 : wd.cell? ⟨qs, 3, none⟩ = some (.int .u64 (P.wrd s 3)) := hbb.cell 3 _ rfl
                      have sf0 : wd.frozen? ⟨qs, 0, none⟩ = false := hbb.frozen 0
                      have sf1 : wd.frozen? ⟨qs, 1, none⟩ = false := hbb.frozen 1
                      have sf2 : wd.frozen? ⟨qs, 2, none⟩ = false := hbb.frozen 2
                      have sf3 : wd.frozen? ⟨qs, 3, none⟩ = false := hbb.frozen 3
                      clear hbb
                      go_upto_region 25 with (fail)
                      clear sc0 sc1 sc2 sc3 sf0 sf1 sf2 sf3
                      have BQs := Lib.hid (show Box ((((wd.setCell ⟨qs, 0, none⟩ (.int .u64 (P.wrd (s ||| P.bit (j : Int)) 0))).setCell ⟨qs, 1, none⟩ (.int .u64 (P.wrd (s ||| P.bit (j : Int)) 1))).setCell ⟨qs, 2, none⟩ (.int .u64 (P.wrd (s ||| P.bit (j : Int)) 2))).setCell ⟨qs, 3, none⟩ (.int .u64 (P.wrd (s ||| P.bit (j : Int)) 3))) qs 28 #[.int .u64 (P.wrd (s ||| P.bit (j : Int)) 0), .int .u64 (P.wrd (s ||| P.bit (j : Int)) 1), .int .u64 (P.wrd (s ||| P.bit (j : Int)) 2), .int .u64 (P.wrd (s ||| P.bit (j : Int)) 3)] from Blk.store (show Blk wd qs s 28 from BQs.out) (s ||| P.bit (j : Int)))
                      have BQg := Lib.hid (far4 (.int .u64 (P.wrd (s ||| P.bit (j : Int)) 0)) (.int .u64 (P.wrd (s ||| P.bit (j : Int)) 1)) (.int .u64 (P.wrd (s ||| P.bit (j : Int)) 2)) (.int .u64 (P.wrd (s ||| P.bit (j : Int)) 3)) BQg.out (show qg ≠ qs from HNE_.out.1))
                      have BQi := Lib.hid (far4 (.int .u64 (P.wrd (s ||| P.bit (j : Int)) 0)) (.int .u64 (P.wrd (s ||| P.bit (j : Int)) 1)) (.int .u64 (P.wrd (s ||| P.bit (j : Int)) 2)) (.int .u64 (P.wrd (s ||| P.bit (j : Int)) 3)) BQi.out (show qi ≠ qs from HNE_.out.2.1))
                      have BQl := Lib.hid (far4 (.int .u64 (P.wrd (s ||| P.bit (j : Int)) 0)) (.int .u64 (P.wrd (s ||| P.bit (j : Int)) 1)) (.int .u64 (P.wrd (s ||| P.bit (j : Int)) 2)) (.int .u64 (P.wrd (s ||| P.bit (j : Int)) 3)) BQl.out (show ql ≠ qs from HNE_.out.2.2.1))
                      have BQv := Lib.hid (far4 (.int .u64 (P.wrd (s ||| P.bit (j : Int)) 0)) (.int .u64 (P.wrd (s ||| P.bit (j : Int)) 1)) (.int .u64 (P.wrd (s ||| P.bit (j : Int)) 2)) (.int .u64 (P.wrd (s ||| P.bit (j : Int)) 3)) BQv.out (show qv ≠ qs from HNE_.out.2.2.2.1))
                      replace WB := Lib.hid (WB.out.trans (below4 (w := wd) (q := qs) (.int .u64 (P.wrd (s ||| P.bit (j : Int)) 0)) (.int .u64 (P.wrd (s ||| P.bit (j : Int)) 1)) (.int .u64 (P.wrd (s ||| P.bit (j : Int)) 2)) (.int .u64 (P.wrd (s ||| P.bit (j : Int)) 3)) (Nat.le_trans LWB.out HQ_.out.1)))
                      generalize ((((wd.setCell ⟨qs, 0, none⟩ (.int .u64 (P.wrd (s ||| P.bit (j : Int)) 0))).setCell ⟨qs, 1, none⟩ (.int .u64 (P.wrd (s ||| P.bit (j : Int)) 1))).setCell ⟨qs, 2, none⟩ (.int .u64 (P.wrd (s ||| P.bit (j : Int)) 2))).setCell ⟨qs, 3, none⟩ (.int .u64 (P.wrd (s ||| P.bit (j : Int)) 3))) = wz at BQg BQi BQl BQv BQs WB ⊢
                      have hbb := BQv.out
                      have vc0 : wz.cell? ⟨qv, 0, none⟩ = some (.int .u64 (P.wrd t 0)) := hbb.cell 0 _ rfl
                      have vc1 : wz.cell? ⟨qv, 1, none⟩ = some (.int .u64 (P.wrd t 1)) := hbb.cell 1 _ rfl
                      have vc2 : wz.cell? ⟨qv, 2, none⟩ = some (.int .u64 (P.wrd t 2)) := hbb.cell 2 _ rfl
                      have vc3 : wz.cell? ⟨qv, 3, none⟩ = some (.int .u64 (P.wrd t 3)) := hbb.cell 3 _ rfl
                      clear hbb
                      go_wp2_with fail
                      refine (has_any t (j : Int) _).mono ?_
                      rintro e wy ⟨rfl, hb⟩
                      replace BQg := Lib.hid (BQg.out.keep (grown_of_below hb none))
                      replace BQi := Lib.hid (BQi.out.keep (grown_of_below hb none))
                      replace BQl := Lib.hid (BQl.out.keep (grown_of_below hb none))
                      replace BQs := Lib.hid (BQs.out.keep (grown_of_below hb none))
                      replace BQv := Lib.hid (BQv.out.keep (grown_of_below hb none))
                      replace WB := Lib.hid (WB.out.trans (hb.mono WB.out.size))
                      clear hb vc0 vc1 vc2 vc3
                      rw [P.has_nat]
                      by_cases h3 : t.getLsbD j = true
                      · rw [h3]
                        by_cases h4 : (P.ofL ms &&& (I &&& P.full (n : Int))) = 0#256
                        · have eqa := fun w => set_neq (P.ofL ms &&& (I &&& P.full (n : Int))) 0#256 w
                          rw [decide_eq_true h4, zero_set] at eqa
                          have HUT := Lib.hid (show P.upT g (I &&& P.full (n : Int)) t j = t from by unfold P.upT; rw [HMS.out, if_neg (fun h => h.2.1 h4)])
                          clear h3 h4
                          have hbb := BQl.out
                          have lc0 : wy.cell? ⟨ql, 0, none⟩ = some (.int .u64 (P.wrd (P.ofL ms &&& (I &&& P.full (n : Int))) 0)) := hbb.cell 0 _ rfl
                          have lc1 : wy.cell? ⟨ql, 1, none⟩ = some (.int .u64 (P.wrd (P.ofL ms &&& (I &&& P.full (n : Int))) 1)) := hbb.cell 1 _ rfl
                          have lc2 : wy.cell? ⟨ql, 2, none⟩ = some (.int .u64 (P.wrd (P.ofL ms &&& (I &&& P.full (n : Int))) 2)) := hbb.cell 2 _ rfl
                          have lc3 : wy.cell? ⟨ql, 3, none⟩ = some (.int .u64 (P.wrd (P.ofL ms &&& (I &&& P.full (n : Int))) 3)) := hbb.cell 3 _ rfl
                          clear hbb
                          have HS := Lib.hid (show Box _ qs 28 #[.int .u64 (P.wrd (P.upS g (I &&& P.full (n : Int)) s j) 0), .int .u64 (P.wrd (P.upS g (I &&& P.full (n : Int)) s j) 1), .int .u64 (P.wrd (P.upS g (I &&& P.full (n : Int)) s j) 2), .int .u64 (P.wrd (P.upS g (I &&& P.full (n : Int)) s j) 3)] from by rw [HUS.out]; exact BQs.out)
                          have HT := Lib.hid (show Box _ qv 28 #[.int .u64 (P.wrd (P.upT g (I &&& P.full (n : Int)) t j) 0), .int .u64 (P.wrd (P.upT g (I &&& P.full (n : Int)) t j) 1), .int .u64 (P.wrd (P.upT g (I &&& P.full (n : Int)) t j) 2), .int .u64 (P.wrd (P.upT g (I &&& P.full (n : Int)) t j) 3)] from by rw [HUT.out]; exact BQv.out)
                          go_wp2_with fail
                          go_roundw
                          case rel => exact ⟨j + 1, by omega, by go_num, WB.out, by rw [fold_succ, HSJ.out]; exact HS.out, by rw [fold_succ, HTJ.out]; exact HT.out⟩
                          case measure => simp [intOf]; omega
                        · have eqa := fun w => set_neq (P.ofL ms &&& (I &&& P.full (n : Int))) 0#256 w
                          rw [decide_eq_false h4, zero_set] at eqa
                          have hbb := BQl.out
                          have lc0 : wy.cell? ⟨ql, 0, none⟩ = some (.int .u64 (P.wrd (P.ofL ms &&& (I &&& P.full (n : Int))) 0)) := hbb.cell 0 _ rfl
                          have lc1 : wy.cell? ⟨ql, 1, none⟩ = some (.int .u64 (P.wrd (P.ofL ms &&& (I &&& P.full (n : Int))) 1)) := hbb.cell 1 _ rfl
                          have lc2 : wy.cell? ⟨ql, 2, none⟩ = some (.int .u64 (P.wrd (P.ofL ms &&& (I &&& P.full (n : Int))) 2)) := hbb.cell 2 _ rfl
                          have lc3 : wy.cell? ⟨ql, 3, none⟩ = some (.int .u64 (P.wrd (P.ofL ms &&& (I &&& P.full (n : Int))) 3)) := hbb.cell 3 _ rfl
                          clear hbb
                          have hbb := BQv.out
                          have vc0 : wy.cell? ⟨qv, 0, none⟩ = some (.int .u64 (P.wrd t 0)) := hbb.cell 0 _ rfl
                          have vc1 : wy.cell? ⟨qv, 1, none⟩ = some (.int .u64 (P.wrd t 1)) := hbb.cell 1 _ rfl
                          have vc2 : wy.cell? ⟨qv, 2, none⟩ = some (.int .u64 (P.wrd t 2)) := hbb.cell 2 _ rfl
                          have vc3 : wy.cell? ⟨qv, 3, none⟩ = some (.int .u64 (P.wrd t 3)) := hbb.cell 3 _ rfl
                          clear hbb
                          go_wp2_with fail
                          refine (and_any (P.ofL ms &&& (I &&& P.full (n : Int))) t _).mono ?_
                          rintro e wx ⟨rfl, hb⟩
                          replace BQg := Lib.hid (BQg.out.keep (grown_of_below hb none))
                          replace BQi := Lib.hid (BQi.out.keep (grown_of_below hb none))
                          replace BQl := Lib.hid (BQl.out.keep (grown_of_below hb none))
                          replace BQs := Lib.hid (BQs.out.keep (grown_of_below hb none))
                          replace BQv := Lib.hid (BQv.out.keep (grown_of_below hb none))
                          replace WB := Lib.hid (WB.out.trans (hb.mono WB.out.size))
                          clear hb lc0 lc1 lc2 lc3 vc0 vc1 vc2 vc3 eqa
                          by_cases h5 : (P.ofL ms &&& (I &&& P.full (n : Int))) &&& t = 0#256
                          · have eqa := fun w => set_eq ((P.ofL ms &&& (I &&& P.full (n : Int))) &&& t) 0#256 w
                            rw [decide_eq_true h5, zero_set] at eqa
                            have HUT := Lib.hid (show P.upT g (I &&& P.full (n : Int)) t j = t &&& ~~~P.bit (j : Int) from by unfold P.upT; rw [HMS.out, if_pos ⟨h3, h4, h5⟩])
                            clear h3 h4 h5
                            go_upto_region 26 with (fail)
                            clear eqa
                            have hbb := BQv.out
                            have vc0 : wx.cell? ⟨qv, 0, none⟩ = some (.int .u64 (P.wrd t 0)) := hbb.cell 0 _ rfl
                            have vc1 : wx.cell? ⟨qv, 1, none⟩ = some (.int .u64 (P.wrd t 1)) := hbb.cell 1 _ rfl
                            have vc2 : wx.cell? ⟨qv, 2, none⟩ = some (.int .u64 (P.wrd t 2)) := hbb.cell 2 _ rfl
                            have vc3 : wx.cell? ⟨qv, 3, none⟩ = some (.int .u64 (P.wrd t 3)) := hbb.cell 3 _ rfl
                            clear hbb
                            go_wp2_with fail
                            refine (less_any t (j : Int) _).mono ?_
                            rintro e wu ⟨rfl, hb⟩
                            replace BQg := Lib.hid (BQg.out.keep (grown_of_below hb none))
                            replace BQi := Lib.hid (BQi.out.keep (grown_of_below hb none))
                            replace BQl := Lib.hid (BQl.out.keep (grown_of_below hb none))
                            replace BQs := Lib.hid (BQs.out.keep (grown_of_below hb none))
                            replace BQv := Lib.hid (BQv.out.keep (grown_of_below hb none))
                            replace WB := Lib.hid (WB.out.trans (hb.mono WB.out.size))
                            clear hb vc0 vc1 vc2 vc3
                            have hbb := BQv.out
                            have vc0 : wu.cell? ⟨qv, 0, none⟩ = some (.int .u64 (P.wrd t 0)) := hbb.cell 0 _ rfl
                            have vc1 : wu.cell? ⟨qv, 1, none⟩ = some (.int .u64 (P.wrd t 1)) := hbb.cell 1 _ rfl
                            have vc2 : wu.cell? ⟨qv, 2, none⟩ = some (.int .u64 (P.wrd t 2)) := hbb.cell 2 _ rfl
                            have vc3 : wu.cell? ⟨qv, 3, none⟩ = some (.int .u64 (P.wrd t 3)) := hbb.cell 3 _ rfl
                            have vf0 : wu.frozen? ⟨qv, 0, none⟩ = false := hbb.frozen 0
                            have vf1 : wu.frozen? ⟨qv, 1, none⟩ = false := hbb.frozen 1
                            have vf2 : wu.frozen? ⟨qv, 2, none⟩ = false := hbb.frozen 2
                            have vf3 : wu.frozen? ⟨qv, 3, none⟩ = false := hbb.frozen 3
                            clear hbb
                            go_upto_region 21 with (fail)
                            clear vc0 vc1 vc2 vc3 vf0 vf1 vf2 vf3
                            have BQv := Lib.hid (show Box ((((wu.setCell ⟨qv, 0, none⟩ (.int .u64 (P.wrd (t &&& ~~~P.bit (j : Int)) 0))).setCell ⟨qv, 1, none⟩ (.int .u64 (P.wrd (t &&& ~~~P.bit (j : Int)) 1))).setCell ⟨qv, 2, none⟩ (.int .u64 (P.wrd (t &&& ~~~P.bit (j : Int)) 2))).setCell ⟨qv, 3, none⟩ (.int .u64 (P.wrd (t &&& ~~~P.bit (j : Int)) 3))) qv 28 #[.int .u64 (P.wrd (t &&& ~~~P.bit (j : Int)) 0), .int .u64 (P.wrd (t &&& ~~~P.bit (j : Int)) 1), .int .u64 (P.wrd (t &&& ~~~P.bit (j : Int)) 2), .int .u64 (P.wrd (t &&& ~~~P.bit (j : Int)) 3)] from Blk.store (show Blk wu qv t 28 from BQv.out) (t &&& ~~~P.bit (j : Int)))
                            have BQg := Lib.hid (far4 (.int .u64 (P.wrd (t &&& ~~~P.bit (j : Int)) 0)) (.int .u64 (P.wrd (t &&& ~~~P.bit (j : Int)) 1)) (.int .u64 (P.wrd (t &&& ~~~P.bit (j : Int)) 2)) (.int .u64 (P.wrd (t &&& ~~~P.bit (j : Int)) 3)) BQg.out (show qg ≠ qv from HNE_.out.2.2.2.2.1))
                            have BQi := Lib.hid (far4 (.int .u64 (P.wrd (t &&& ~~~P.bit (j : Int)) 0)) (.int .u64 (P.wrd (t &&& ~~~P.bit (j : Int)) 1)) (.int .u64 (P.wrd (t &&& ~~~P.bit (j : Int)) 2)) (.int .u64 (P.wrd (t &&& ~~~P.bit (j : Int)) 3)) BQi.out (show qi ≠ qv from HNE_.out.2.2.2.2.2.1))
                            have BQl := Lib.hid (far4 (.int .u64 (P.wrd (t &&& ~~~P.bit (j : Int)) 0)) (.int .u64 (P.wrd (t &&& ~~~P.bit (j : Int)) 1)) (.int .u64 (P.wrd (t &&& ~~~P.bit (j : Int)) 2)) (.int .u64 (P.wrd (t &&& ~~~P.bit (j : Int)) 3)) BQl.out (show ql ≠ qv from HNE_.out.2.2.2.2.2.2.1))
                            have BQs := Lib.hid (far4 (.int .u64 (P.wrd (t &&& ~~~P.bit (j : Int)) 0)) (.int .u64 (P.wrd (t &&& ~~~P.bit (j : Int)) 1)) (.int .u64 (P.wrd (t &&& ~~~P.bit (j : Int)) 2)) (.int .u64 (P.wrd (t &&& ~~~P.bit (j : Int)) 3)) BQs.out (show qs ≠ qv from HNE_.out.2.2.2.2.2.2.2))
                            replace WB := Lib.hid (WB.out.trans (below4 (w := wu) (q := qv) (.int .u64 (P.wrd (t &&& ~~~P.bit (j : Int)) 0)) (.int .u64 (P.wrd (t &&& ~~~P.bit (j : Int)) 1)) (.int .u64 (P.wrd (t &&& ~~~P.bit (j : Int)) 2)) (.int .u64 (P.wrd (t &&& ~~~P.bit (j : Int)) 3)) (Nat.le_trans LWB.out HQ_.out.2.1)))
                            generalize ((((wu.setCell ⟨qv, 0, none⟩ (.int .u64 (P.wrd (t &&& ~~~P.bit (j : Int)) 0))).setCell ⟨qv, 1, none⟩ (.int .u64 (P.wrd (t &&& ~~~P.bit (j : Int)) 1))).setCell ⟨qv, 2, none⟩ (.int .u64 (P.wrd (t &&& ~~~P.bit (j : Int)) 2))).setCell ⟨qv, 3, none⟩ (.int .u64 (P.wrd (t &&& ~~~P.bit (j : Int)) 3))) = wt at BQg BQi BQl BQs BQv WB ⊢
                            have HS := Lib.hid (show Box _ qs 28 #[.int .u64 (P.wrd (P.upS g (I &&& P.full (n : Int)) s j) 0), .int .u64 (P.wrd (P.upS g (I &&& P.full (n : Int)) s j) 1), .int .u64 (P.wrd (P.upS g (I &&& P.full (n : Int)) s j) 2), .int .u64 (P.wrd (P.upS g (I &&& P.full (n : Int)) s j) 3)] from by rw [HUS.out]; exact BQs.out)
                            have HT := Lib.hid (show Box _ qv 28 #[.int .u64 (P.wrd (P.upT g (I &&& P.full (n : Int)) t j) 0), .int .u64 (P.wrd (P.upT g (I &&& P.full (n : Int)) t j) 1), .int .u64 (P.wrd (P.upT g (I &&& P.full (n : Int)) t j) 2), .int .u64 (P.wrd (P.upT g (I &&& P.full (n : Int)) t j) 3)] from by rw [HUT.out]; exact BQv.out)
                            go_wp2_with fail
                            go_roundw
                            case rel => exact ⟨j + 1, by omega, by go_num, WB.out, by rw [fold_succ, HSJ.out]; exact HS.out, by rw [fold_succ, HTJ.out]; exact HT.out⟩
                            case measure => simp [intOf]; omega
                          · have eqa := fun w => set_eq ((P.ofL ms &&& (I &&& P.full (n : Int))) &&& t) 0#256 w
                            rw [decide_eq_false h5, zero_set] at eqa
                            have HUT := Lib.hid (show P.upT g (I &&& P.full (n : Int)) t j = t from by unfold P.upT; rw [HMS.out, if_neg (fun h => h5 h.2.2)])
                            clear h3 h4 h5
                            have HS := Lib.hid (show Box _ qs 28 #[.int .u64 (P.wrd (P.upS g (I &&& P.full (n : Int)) s j) 0), .int .u64 (P.wrd (P.upS g (I &&& P.full (n : Int)) s j) 1), .int .u64 (P.wrd (P.upS g (I &&& P.full (n : Int)) s j) 2), .int .u64 (P.wrd (P.upS g (I &&& P.full (n : Int)) s j) 3)] from by rw [HUS.out]; exact BQs.out)
                            have HT := Lib.hid (show Box _ qv 28 #[.int .u64 (P.wrd (P.upT g (I &&& P.full (n : Int)) t j) 0), .int .u64 (P.wrd (P.upT g (I &&& P.full (n : Int)) t j) 1), .int .u64 (P.wrd (P.upT g (I &&& P.full (n : Int)) t j) 2), .int .u64 (P.wrd (P.upT g (I &&& P.full (n : Int)) t j) 3)] from by rw [HUT.out]; exact BQv.out)
                            go_wp2_with fail
                            go_roundw
                            case rel => exact ⟨j + 1, by omega, by go_num, WB.out, by rw [fold_succ, HSJ.out]; exact HS.out, by rw [fold_succ, HTJ.out]; exact HT.out⟩
                            case measure => simp [intOf]; omega
                      · have h3 : t.getLsbD j = false := by simpa using h3
                        rw [h3]
                        have HUT := Lib.hid (show P.upT g (I &&& P.full (n : Int)) t j = t from by unfold P.upT; rw [if_neg (fun h => by rw [h3] at h; cases h.1)])
                        clear h3
                        have HS := Lib.hid (show Box _ qs 28 #[.int .u64 (P.wrd (P.upS g (I &&& P.full (n : Int)) s j) 0), .int .u64 (P.wrd (P.upS g (I &&& P.full (n : Int)) s j) 1), .int .u64 (P.wrd (P.upS g (I &&& P.full (n : Int)) s j) 2), .int .u64 (P.wrd (P.upS g (I &&& P.full (n : Int)) s j) 3)] from by rw [HUS.out]; exact BQs.out)
                        have HT := Lib.hid (show Box _ qv 28 #[.int .u64 (P.wrd (P.upT g (I &&& P.full (n : Int)) t j) 0), .int .u64 (P.wrd (P.upT g (I &&& P.full (n : Int)) t j) 1), .int .u64 (P.wrd (P.upT g (I &&& P.full (n : Int)) t j) 2), .int .u64 (P.wrd (P.upT g (I &&& P.full (n : Int)) t j) 3)] from by rw [HUT.out]; exact BQv.out)
                        go_wp2_with fail
                        go_roundw
                        case rel => exact ⟨j + 1, by omega, by go_num, WB.out, by rw [fold_succ, HSJ.out]; exact HS.out, by rw [fold_succ, HTJ.out]; exact HT.out⟩
                        case measure => simp [intOf]; omega
                  · have h1 : (I &&& P.full (n : Int)).getLsbD j = false := by simpa using h1
                    rw [h1]
                    have HUS := Lib.hid (show P.upS g (I &&& P.full (n : Int)) s j = s from by unfold P.upS; rw [if_neg (fun h => by rw [h1] at h; cases h.1)])
                    clear h1
                    go_upto_region 25 with (fail)
                    generalize w9 = wz at BQg BQi BQl BQs BQv WB ⊢
                    have hbb := BQv.out
                    have vc0 : wz.cell? ⟨qv, 0, none⟩ = some (.int .u64 (P.wrd t 0)) := hbb.cell 0 _ rfl
                    have vc1 : wz.cell? ⟨qv, 1, none⟩ = some (.int .u64 (P.wrd t 1)) := hbb.cell 1 _ rfl
                    have vc2 : wz.cell? ⟨qv, 2, none⟩ = some (.int .u64 (P.wrd t 2)) := hbb.cell 2 _ rfl
                    have vc3 : wz.cell? ⟨qv, 3, none⟩ = some (.int .u64 (P.wrd t 3)) := hbb.cell 3 _ rfl
                    clear hbb
                    go_wp2_with fail
                    refine (has_any t (j : Int) _).mono ?_
                    rintro e wy ⟨rfl, hb⟩
                    replace BQg := Lib.hid (BQg.out.keep (grown_of_below hb none))
                    replace BQi := Lib.hid (BQi.out.keep (grown_of_below hb none))
                    replace BQl := Lib.hid (BQl.out.keep (grown_of_below hb none))
                    replace BQs := Lib.hid (BQs.out.keep (grown_of_below hb none))
                    replace BQv := Lib.hid (BQv.out.keep (grown_of_below hb none))
                    replace WB := Lib.hid (WB.out.trans (hb.mono WB.out.size))
                    clear hb vc0 vc1 vc2 vc3
                    rw [P.has_nat]
                    by_cases h3 : t.getLsbD j = true
                    · rw [h3]
                      by_cases h4 : (P.ofL ms &&& (I &&& P.full (n : Int))) = 0#256
                      · have eqa := fun w => set_neq (P.ofL ms &&& (I &&& P.full (n : Int))) 0#256 w
                        rw [decide_eq_true h4, zero_set] at eqa
                        have HUT := Lib.hid (show P.upT g (I &&& P.full (n : Int)) t j = t from by unfold P.upT; rw [HMS.out, if_neg (fun h => h.2.1 h4)])
                        clear h3 h4
                        have hbb := BQl.out
                        have lc0 : wy.cell? ⟨ql, 0, none⟩ = some (.int .u64 (P.wrd (P.ofL ms &&& (I &&& P.full (n : Int))) 0)) := hbb.cell 0 _ rfl
                        have lc1 : wy.cell? ⟨ql, 1, none⟩ = some (.int .u64 (P.wrd (P.ofL ms &&& (I &&& P.full (n : Int))) 1)) := hbb.cell 1 _ rfl
                        have lc2 : wy.cell? ⟨ql, 2, none⟩ = some (.int .u64 (P.wrd (P.ofL ms &&& (I &&& P.full (n : Int))) 2)) := hbb.cell 2 _ rfl
                        have lc3 : wy.cell? ⟨ql, 3, none⟩ = some (.int .u64 (P.wrd (P.ofL ms &&& (I &&& P.full (n : Int))) 3)) := hbb.cell 3 _ rfl
                        clear hbb
                        have HS := Lib.hid (show Box _ qs 28 #[.int .u64 (P.wrd (P.upS g (I &&& P.full (n : Int)) s j) 0), .int .u64 (P.wrd (P.upS g (I &&& P.full (n : Int)) s j) 1), .int .u64 (P.wrd (P.upS g (I &&& P.full (n : Int)) s j) 2), .int .u64 (P.wrd (P.upS g (I &&& P.full (n : Int)) s j) 3)] from by rw [HUS.out]; exact BQs.out)
                        have HT := Lib.hid (show Box _ qv 28 #[.int .u64 (P.wrd (P.upT g (I &&& P.full (n : Int)) t j) 0), .int .u64 (P.wrd (P.upT g (I &&& P.full (n : Int)) t j) 1), .int .u64 (P.wrd (P.upT g (I &&& P.full (n : Int)) t j) 2), .int .u64 (P.wrd (P.upT g (I &&& P.full (n : Int)) t j) 3)] from by rw [HUT.out]; exact BQv.out)
                        go_wp2_with fail
                        go_roundw
                        case rel => exact ⟨j + 1, by omega, by go_num, WB.out, by rw [fold_succ, HSJ.out]; exact HS.out, by rw [fold_succ, HTJ.out]; exact HT.out⟩
                        case measure => simp [intOf]; omega
                      · have eqa := fun w => set_neq (P.ofL ms &&& (I &&& P.full (n : Int))) 0#256 w
                        rw [decide_eq_false h4, zero_set] at eqa
                        have hbb := BQl.out
                        have lc0 : wy.cell? ⟨ql, 0, none⟩ = some (.int .u64 (P.wrd (P.ofL ms &&& (I &&& P.full (n : Int))) 0)) := hbb.cell 0 _ rfl
                        have lc1 : wy.cell? ⟨ql, 1, none⟩ = some (.int .u64 (P.wrd (P.ofL ms &&& (I &&& P.full (n : Int))) 1)) := hbb.cell 1 _ rfl
                        have lc2 : wy.cell? ⟨ql, 2, none⟩ = some (.int .u64 (P.wrd (P.ofL ms &&& (I &&& P.full (n : Int))) 2)) := hbb.cell 2 _ rfl
                        have lc3 : wy.cell? ⟨ql, 3, none⟩ = some (.int .u64 (P.wrd (P.ofL ms &&& (I &&& P.full (n : Int))) 3)) := hbb.cell 3 _ rfl
                        clear hbb
                        have hbb := BQv.out
                        have vc0 : wy.cell? ⟨qv, 0, none⟩ = some (.int .u64 (P.wrd t 0)) := hbb.cell 0 _ rfl
                        have vc1 : wy.cell? ⟨qv, 1, none⟩ = some (.int .u64 (P.wrd t 1)) := hbb.cell 1 _ rfl
                        have vc2 : wy.cell? ⟨qv, 2, none⟩ = some (.int .u64 (P.wrd t 2)) := hbb.cell 2 _ rfl
                        have vc3 : wy.cell? ⟨qv, 3, none⟩ = some (.int .u64 (P.wrd t 3)) := hbb.cell 3 _ rfl
                        clear hbb
                        go_wp2_with fail
                        refine (and_any (P.ofL ms &&& (I &&& P.full (n : Int))) t _).mono ?_
                        rintro e wx ⟨rfl, hb⟩
                        replace BQg := Lib.hid (BQg.out.keep (grown_of_below hb none))
                        replace BQi := Lib.hid (BQi.out.keep (grown_of_below hb none))
                        replace BQl := Lib.hid (BQl.out.keep (grown_of_below hb none))
                        replace BQs := Lib.hid (BQs.out.keep (grown_of_below hb none))
                        replace BQv := Lib.hid (BQv.out.keep (grown_of_below hb none))
                        replace WB := Lib.hid (WB.out.trans (hb.mono WB.out.size))
                        clear hb lc0 lc1 lc2 lc3 vc0 vc1 vc2 vc3 eqa
                        by_cases h5 : (P.ofL ms &&& (I &&& P.full (n : Int))) &&& t = 0#256
                        · have eqa := fun w => set_eq ((P.ofL ms &&& (I &&& P.full (n : Int))) &&& t) 0#256 w
                          rw [decide_eq_true h5, zero_set] at eqa
                          have HUT := Lib.hid (show P.upT g (I &&& P.full (n : Int)) t j = t &&& ~~~P.bit (j : Int) from by unfold P.upT; rw [HMS.out, if_pos ⟨h3, h4, h5⟩])
                          clear h3 h4 h5
                          go_upto_region 26 with (fail)
                          clear eqa
                          have hbb := BQv.out
                          have vc0 : wx.cell? ⟨qv, 0, none⟩ = some (.int .u64 (P.wrd t 0)) := hbb.cell 0 _ rfl
                          have vc1 : wx.cell? ⟨qv, 1, none⟩ = some (.int .u64 (P.wrd t 1)) := hbb.cell 1 _ rfl
                          have vc2 : wx.cell? ⟨qv, 2, none⟩ = some (.int .u64 (P.wrd t 2)) := hbb.cell 2 _ rfl
                          have vc3 : wx.cell? ⟨qv, 3, none⟩ = some (.int .u64 (P.wrd t 3)) := hbb.cell 3 _ rfl
                          clear hbb
                          go_wp2_with fail
                          refine (less_any t (j : Int) _).mono ?_
                          rintro e wu ⟨rfl, hb⟩
                          replace BQg := Lib.hid (BQg.out.keep (grown_of_below hb none))
                          replace BQi := Lib.hid (BQi.out.keep (grown_of_below hb none))
                          replace BQl := Lib.hid (BQl.out.keep (grown_of_below hb none))
                          replace BQs := Lib.hid (BQs.out.keep (grown_of_below hb none))
                          replace BQv := Lib.hid (BQv.out.keep (grown_of_below hb none))
                          replace WB := Lib.hid (WB.out.trans (hb.mono WB.out.size))
                          clear hb vc0 vc1 vc2 vc3
                          have hbb := BQv.out
                          have vc0 : wu.cell? ⟨qv, 0, none⟩ = some (.int .u64 (P.wrd t 0)) := hbb.cell 0 _ rfl
                          have vc1 : wu.cell? ⟨qv, 1, none⟩ = some (.int .u64 (P.wrd t 1)) := hbb.cell 1 _ rfl
                          have vc2 : wu.cell? ⟨qv, 2, none⟩ = some (.int .u64 (P.wrd t 2)) := hbb.cell 2 _ rfl
                          have vc3 : wu.cell? ⟨qv, 3, none⟩ = some (.int .u64 (P.wrd t 3)) := hbb.cell 3 _ rfl
                          have vf0 : wu.frozen? ⟨qv, 0, none⟩ = false := hbb.frozen 0
                          have vf1 : wu.frozen? ⟨qv, 1, none⟩ = false := hbb.frozen 1
                          have vf2 : wu.frozen? ⟨qv, 2, none⟩ = false := hbb.frozen 2
                          have vf3 : wu.frozen? ⟨qv, 3, none⟩ = false := hbb.frozen 3
                          clear hbb
                          go_upto_region 21 with (fail)
                          clear vc0 vc1 vc2 vc3 vf0 vf1 vf2 vf3
                          have BQv := Lib.hid (show Box ((((wu.setCell ⟨qv, 0, none⟩ (.int .u64 (P.wrd (t &&& ~~~P.bit (j : Int)) 0))).setCell ⟨qv, 1, none⟩ (.int .u64 (P.wrd (t &&& ~~~P.bit (j : Int)) 1))).setCell ⟨qv, 2, none⟩ (.int .u64 (P.wrd (t &&& ~~~P.bit (j : Int)) 2))).setCell ⟨qv, 3, none⟩ (.int .u64 (P.wrd (t &&& ~~~P.bit (j : Int)) 3))) qv 28 #[.int .u64 (P.wrd (t &&& ~~~P.bit (j : Int)) 0), .int .u64 (P.wrd (t &&& ~~~P.bit (j : Int)) 1), .int .u64 (P.wrd (t &&& ~~~P.bit (j : Int)) 2), .int .u64 (P.wrd (t &&& ~~~P.bit (j : Int)) 3)] from Blk.store (show Blk wu qv t 28 from BQv.out) (t &&& ~~~P.bit (j : Int)))
                          have BQg := Lib.hid (far4 (.int .u64 (P.wrd (t &&& ~~~P.bit (j : Int)) 0)) (.int .u64 (P.wrd (t &&& ~~~P.bit (j : Int)) 1)) (.int .u64 (P.wrd (t &&& ~~~P.bit (j : Int)) 2)) (.int .u64 (P.wrd (t &&& ~~~P.bit (j : Int)) 3)) BQg.out (show qg ≠ qv from HNE_.out.2.2.2.2.1))
                          have BQi := Lib.hid (far4 (.int .u64 (P.wrd (t &&& ~~~P.bit (j : Int)) 0)) (.int .u64 (P.wrd (t &&& ~~~P.bit (j : Int)) 1)) (.int .u64 (P.wrd (t &&& ~~~P.bit (j : Int)) 2)) (.int .u64 (P.wrd (t &&& ~~~P.bit (j : Int)) 3)) BQi.out (show qi ≠ qv from HNE_.out.2.2.2.2.2.1))
                          have BQl := Lib.hid (far4 (.int .u64 (P.wrd (t &&& ~~~P.bit (j : Int)) 0)) (.int .u64 (P.wrd (t &&& ~~~P.bit (j : Int)) 1)) (.int .u64 (P.wrd (t &&& ~~~P.bit (j : Int)) 2)) (.int .u64 (P.wrd (t &&& ~~~P.bit (j : Int)) 3)) BQl.out (show ql ≠ qv from HNE_.out.2.2.2.2.2.2.1))
                          have BQs := Lib.hid (far4 (.int .u64 (P.wrd (t &&& ~~~P.bit (j : Int)) 0)) (.int .u64 (P.wrd (t &&& ~~~P.bit (j : Int)) 1)) (.int .u64 (P.wrd (t &&& ~~~P.bit (j : Int)) 2)) (.int .u64 (P.wrd (t &&& ~~~P.bit (j : Int)) 3)) BQs.out (show qs ≠ qv from HNE_.out.2.2.2.2.2.2.2))
                          replace WB := Lib.hid (WB.out.trans (below4 (w := wu) (q := qv) (.int .u64 (P.wrd (t &&& ~~~P.bit (j : Int)) 0)) (.int .u64 (P.wrd (t &&& ~~~P.bit (j : Int)) 1)) (.int .u64 (P.wrd (t &&& ~~~P.bit (j : Int)) 2)) (.int .u64 (P.wrd (t &&& ~~~P.bit (j : Int)) 3)) (Nat.le_trans LWB.out HQ_.out.2.1)))
                          generalize ((((wu.setCell ⟨qv, 0, none⟩ (.int .u64 (P.wrd (t &&& ~~~P.bit (j : Int)) 0))).setCell ⟨qv, 1, none⟩ (.int .u64 (P.wrd (t &&& ~~~P.bit (j : Int)) 1))).setCell ⟨qv, 2, none⟩ (.int .u64 (P.wrd (t &&& ~~~P.bit (j : Int)) 2))).setCell ⟨qv, 3, none⟩ (.int .u64 (P.wrd (t &&& ~~~P.bit (j : Int)) 3))) = wt at BQg BQi BQl BQs BQv WB ⊢
                          have HS := Lib.hid (show Box _ qs 28 #[.int .u64 (P.wrd (P.upS g (I &&& P.full (n : Int)) s j) 0), .int .u64 (P.wrd (P.upS g (I &&& P.full (n : Int)) s j) 1), .int .u64 (P.wrd (P.upS g (I &&& P.full (n : Int)) s j) 2), .int .u64 (P.wrd (P.upS g (I &&& P.full (n : Int)) s j) 3)] from by rw [HUS.out]; exact BQs.out)
                          have HT := Lib.hid (show Box _ qv 28 #[.int .u64 (P.wrd (P.upT g (I &&& P.full (n : Int)) t j) 0), .int .u64 (P.wrd (P.upT g (I &&& P.full (n : Int)) t j) 1), .int .u64 (P.wrd (P.upT g (I &&& P.full (n : Int)) t j) 2), .int .u64 (P.wrd (P.upT g (I &&& P.full (n : Int)) t j) 3)] from by rw [HUT.out]; exact BQv.out)
                          go_wp2_with fail
                          go_roundw
                          case rel => exact ⟨j + 1, by omega, by go_num, WB.out, by rw [fold_succ, HSJ.out]; exact HS.out, by rw [fold_succ, HTJ.out]; exact HT.out⟩
                          case measure => simp [intOf]; omega
                        · have eqa := fun w => set_eq ((P.ofL ms &&& (I &&& P.full (n : Int))) &&& t) 0#256 w
                          rw [decide_eq_false h5, zero_set] at eqa
                          have HUT := Lib.hid (show P.upT g (I &&& P.full (n : Int)) t j = t from by unfold P.upT; rw [HMS.out, if_neg (fun h => h5 h.2.2)])
                          clear h3 h4 h5
                          have HS := Lib.hid (show Box _ qs 28 #[.int .u64 (P.wrd (P.upS g (I &&& P.full (n : Int)) s j) 0), .int .u64 (P.wrd (P.upS g (I &&& P.full (n : Int)) s j) 1), .int .u64 (P.wrd (P.upS g (I &&& P.full (n : Int)) s j) 2), .int .u64 (P.wrd (P.upS g (I &&& P.full (n : Int)) s j) 3)] from by rw [HUS.out]; exact BQs.out)
                          have HT := Lib.hid (show Box _ qv 28 #[.int .u64 (P.wrd (P.upT g (I &&& P.full (n : Int)) t j) 0), .int .u64 (P.wrd (P.upT g (I &&& P.full (n : Int)) t j) 1), .int .u64 (P.wrd (P.upT g (I &&& P.full (n : Int)) t j) 2), .int .u64 (P.wrd (P.upT g (I &&& P.full (n : Int)) t j) 3)] from by rw [HUT.out]; exact BQv.out)
                          go_wp2_with fail
                          go_roundw
                          case rel => exact ⟨j + 1, by omega, by go_num, WB.out, by rw [fold_succ, HSJ.out]; exact HS.out, by rw [fold_succ, HTJ.out]; exact HT.out⟩
                          case measure => simp [intOf]; omega
                    · have h3 : t.getLsbD j = false := by simpa using h3
                      rw [h3]
                      have HUT := Lib.hid (show P.upT g (I &&& P.full (n : Int)) t j = t from by unfold P.upT; rw [if_neg (fun h => by rw [h3] at h; cases h.1)])
                      clear h3
                      have HS := Lib.hid (show Box _ qs 28 #[.int .u64 (P.wrd (P.upS g (I &&& P.full (n : Int)) s j) 0), .int .u64 (P.wrd (P.upS g (I &&& P.full (n : Int)) s j) 1), .int .u64 (P.wrd (P.upS g (I &&& P.full (n : Int)) s j) 2), .int .u64 (P.wrd (P.upS g (I &&& P.full (n : Int)) s j) 3)] from by rw [HUS.out]; exact BQs.out)
                      have HT := Lib.hid (show Box _ qv 28 #[.int .u64 (P.wrd (P.upT g (I &&& P.full (n : Int)) t j) 0), .int .u64 (P.wrd (P.upT g (I &&& P.full (n : Int)) t j) 1), .int .u64 (P.wrd (P.upT g (I &&& P.full (n : Int)) t j) 2), .int .u64 (P.wrd (P.upT g (I &&& P.full (n : Int)) t j) 3)] from by rw [HUT.out]; exact BQv.out)
                      go_wp2_with fail
                      go_roundw
                      case rel => exact ⟨j + 1, by omega, by go_num, WB.out, by rw [fold_succ, HSJ.out]; exact HS.out, by rw [fold_succ, HTJ.out]; exact HT.out⟩
                      case measure => simp [intOf]; omega
              · have fj : decide ((j : Int) < (n : Int)) = false := decide_eq_false (by omega)
                have hjn : j = n := by omega
                have HRS := Lib.hid (show Box wr qs 28 #[.int .u64 (P.wrd (P.iter (fun s => (List.range n).foldl (P.upS g (I &&& P.full (n : Int))) s) (r + 1) (To &&& (I &&& P.full (n : Int)))) 0), .int .u64 (P.wrd (P.iter (fun s => (List.range n).foldl (P.upS g (I &&& P.full (n : Int))) s) (r + 1) (To &&& (I &&& P.full (n : Int)))) 1), .int .u64 (P.wrd (P.iter (fun s => (List.range n).foldl (P.upS g (I &&& P.full (n : Int))) s) (r + 1) (To &&& (I &&& P.full (n : Int)))) 2), .int .u64 (P.wrd (P.iter (fun s => (List.range n).foldl (P.upS g (I &&& P.full (n : Int))) s) (r + 1) (To &&& (I &&& P.full (n : Int)))) 3)] from by
                  rw [iter_succ, HS0.out]
                  have h1 := HSJ.out
                  rw [hjn] at h1
                  rw [h1]
                  exact BQs.out)
                have HRV := Lib.hid (show Box wr qv 28 #[.int .u64 (P.wrd (P.iter (fun s => (List.range n).foldl (P.upT g (I &&& P.full (n : Int))) s) (r + 1) ((I &&& P.full (n : Int)) &&& ~~~To)) 0), .int .u64 (P.wrd (P.iter (fun s => (List.range n).foldl (P.upT g (I &&& P.full (n : Int))) s) (r + 1) ((I &&& P.full (n : Int)) &&& ~~~To)) 1), .int .u64 (P.wrd (P.iter (fun s => (List.range n).foldl (P.upT g (I &&& P.full (n : Int))) s) (r + 1) ((I &&& P.full (n : Int)) &&& ~~~To)) 2), .int .u64 (P.wrd (P.iter (fun s => (List.range n).foldl (P.upT g (I &&& P.full (n : Int))) s) (r + 1) ((I &&& P.full (n : Int)) &&& ~~~To)) 3)] from by
                  rw [iter_succ, HT0.out]
                  have h1 := HTJ.out
                  rw [hjn] at h1
                  rw [h1]
                  exact BQv.out)
                clear hjn
                go_wp2_with fail
                go_roundw
                case rel => exact ⟨r + 1, by omega, by go_num, WB.out, HRS.out, HRV.out⟩
                case measure => simp [intOf]; omega
          · have fr : decide ((r : Int) ≤ (n : Int)) = false := decide_eq_false (by omega)
            have hrn : r = n + 1 := by omega
            rw [hrn] at BQs BQv
            obtain ⟨sf, hsf⟩ : ∃ s, (P.iter (fun s => (List.range n).foldl (P.upS g (I &&& P.full (n : Int))) s) (n + 1) (To &&& (I &&& P.full (n : Int)))) = s := ⟨_, rfl⟩
            obtain ⟨tf, htf⟩ : ∃ s, (P.iter (fun s => (List.range n).foldl (P.upT g (I &&& P.full (n : Int))) s) (n + 1) ((I &&& P.full (n : Int)) &&& ~~~To)) = s := ⟨_, rfl⟩
            rw [hsf] at BQs
            rw [htf] at BQv
            have HSF := Lib.hid hsf
            have HTF := Lib.hid htf
            have W := Lib.hid (HWA.out.trans (WB.out.mono HWA.out.size))
            have BQg := Lib.hid (HBQg.out.keep (grown_of_below WB.out none))
            have BQi := Lib.hid (HBQi.out.keep (grown_of_below WB.out none))
            have BQt := Lib.hid (HBQt.out.keep (grown_of_below WB.out none))
            have BQf := Lib.hid (HBQf.out.keep (grown_of_below WB.out none))
            have BQh := Lib.hid (HBQh.out.keep (grown_of_below WB.out none))
            have GF := Lib.hid (HGF.out.on WB.out)
            have GH := Lib.hid (HGH.out.on WB.out)
            clear hsf htf hrn
            go_upto_region 27 with (fail)
            have hbb := BQf.out
            have gc0 : wr.cell? ⟨qf, 0, none⟩ = some (.slice (some ⟨pf, 0, none⟩) n fka) := hbb.cell 0 _ rfl
            have gc1 : wr.cell? ⟨qf, 1, none⟩ = some (.slice fb n fkb) := hbb.cell 1 _ rfl
            have gc2 : wr.cell? ⟨qf, 2, none⟩ = some (.slice fc n fkc) := hbb.cell 2 _ rfl
            clear hbb
            have hbb := BQi.out
            have ic0 : wr.cell? ⟨qi, 0, none⟩ = some (.int .u64 (P.wrd (I &&& P.full (n : Int)) 0)) := hbb.cell 0 _ rfl
            have ic1 : wr.cell? ⟨qi, 1, none⟩ = some (.int .u64 (P.wrd (I &&& P.full (n : Int)) 1)) := hbb.cell 1 _ rfl
            have ic2 : wr.cell? ⟨qi, 2, none⟩ = some (.int .u64 (P.wrd (I &&& P.full (n : Int)) 2)) := hbb.cell 2 _ rfl
            have ic3 : wr.cell? ⟨qi, 3, none⟩ = some (.int .u64 (P.wrd (I &&& P.full (n : Int)) 3)) := hbb.cell 3 _ rfl
            clear hbb
            have hbb := BQt.out
            have tc0 : wr.cell? ⟨qt, 0, none⟩ = some (.int .u64 (P.wrd To 0)) := hbb.cell 0 _ rfl
            have tc1 : wr.cell? ⟨qt, 1, none⟩ = some (.int .u64 (P.wrd To 1)) := hbb.cell 1 _ rfl
            have tc2 : wr.cell? ⟨qt, 2, none⟩ = some (.int .u64 (P.wrd To 2)) := hbb.cell 2 _ rfl
            have tc3 : wr.cell? ⟨qt, 3, none⟩ = some (.int .u64 (P.wrd To 3)) := hbb.cell 3 _ rfl
            clear hbb
            go_wp2_with fail
            refine (attract_any (g.all 1) (I &&& P.full (n : Int)) To 1 _ _ GF.out (T.out.on W.out)).mono ?_
            rintro e u2 ⟨v2, m2, rfl, ho2, hm2, hb⟩
            obtain ⟨vo2, vk2, rfl, -⟩ := own_at ho2
            replace BQg := Lib.hid (BQg.out.keep (grown_of_below hb none))
            replace BQi := Lib.hid (BQi.out.keep (grown_of_below hb none))
            replace BQt := Lib.hid (BQt.out.keep (grown_of_below hb none))
            replace BQf := Lib.hid (BQf.out.keep (grown_of_below hb none))
            replace BQh := Lib.hid (BQh.out.keep (grown_of_below hb none))
            replace GF := Lib.hid (GF.out.on hb)
            replace GH := Lib.hid (GH.out.on hb)
            replace W := Lib.hid (W.out.trans (hb.mono W.out.size))
            replace BQs := Lib.hid (BQs.out.keep (grown_of_below hb none))
            replace BQv := Lib.hid (BQv.out.keep (grown_of_below hb none))
            obtain ⟨s2, hs2⟩ : ∃ s, P.attOf (g.all 1) (I &&& P.full (n : Int)) 1 To = s := ⟨_, rfl⟩
            rw [hs2]
            have HS2 := Lib.hid hs2
            clear hb hs2 gc0 gc1 gc2 ic0 ic1 ic2 ic3 tc0 tc1 tc2 tc3
            clear ho2 hm2
            go_upto_region 28 with (fail)
            have bq : Box (u2.alloc (.cells #[.int .u64 (P.wrd s2 0), .int .u64 (P.wrd s2 1), .int .u64 (P.wrd s2 2), .int .u64 (P.wrd s2 3)] 28)) u2.heap.size 28 #[.int .u64 (P.wrd s2 0), .int .u64 (P.wrd s2 1), .int .u64 (P.wrd s2 2), .int .u64 (P.wrd s2 3)] := Box.new _ _ _
            have hgq := World.grownBy_alloc u2 (.cells #[.int .u64 (P.wrd s2 0), .int .u64 (P.wrd s2 1), .int .u64 (P.wrd s2 2), .int .u64 (P.wrd s2 3)] 28) none
            replace BQg := Lib.hid (BQg.out.keep hgq)
            replace BQi := Lib.hid (BQi.out.keep hgq)
            replace BQt := Lib.hid (BQt.out.keep hgq)
            replace BQf := Lib.hid (BQf.out.keep hgq)
            replace BQh := Lib.hid (BQh.out.keep hgq)
            replace GF := Lib.hid (GF.out.on (below_of_grown hgq))
            replace GH := Lib.hid (GH.out.on (below_of_grown hgq))
            replace W := Lib.hid (W.out.trans ((below_of_grown hgq).mono W.out.size))
            replace BQs := Lib.hid (BQs.out.keep hgq)
            replace BQv := Lib.hid (BQv.out.keep hgq)
            generalize (u2.alloc (.cells #[.int .u64 (P.wrd s2 0), .int .u64 (P.wrd s2 1), .int .u64 (P.wrd s2 2), .int .u64 (P.wrd s2 3)] 28)) = xa at bq BQg BQi BQt BQf BQh GF GH W BQs BQv ⊢
            generalize u2.heap.size = q2 at bq ⊢
            have BQ2 := Lib.hid bq
            clear bq hgq
            have hbb := BQh.out
            have gc0 : xa.cell? ⟨qh, 0, none⟩ = some (.slice (some ⟨ph, 0, none⟩) n hka) := hbb.cell 0 _ rfl
            have gc1 : xa.cell? ⟨qh, 1, none⟩ = some (.slice hb_ n hkb) := hbb.cell 1 _ rfl
            have gc2 : xa.cell? ⟨qh, 2, none⟩ = some (.slice hc n hkc) := hbb.cell 2 _ rfl
            clear hbb
            have hbb := BQi.out
            have ic0 : xa.cell? ⟨qi, 0, none⟩ = some (.int .u64 (P.wrd (I &&& P.full (n : Int)) 0)) := hbb.cell 0 _ rfl
            have ic1 : xa.cell? ⟨qi, 1, none⟩ = some (.int .u64 (P.wrd (I &&& P.full (n : Int)) 1)) := hbb.cell 1 _ rfl
            have ic2 : xa.cell? ⟨qi, 2, none⟩ = some (.int .u64 (P.wrd (I &&& P.full (n : Int)) 2)) := hbb.cell 2 _ rfl
            have ic3 : xa.cell? ⟨qi, 3, none⟩ = some (.int .u64 (P.wrd (I &&& P.full (n : Int)) 3)) := hbb.cell 3 _ rfl
            clear hbb
            have hbb := BQt.out
            have tc0 : xa.cell? ⟨qt, 0, none⟩ = some (.int .u64 (P.wrd To 0)) := hbb.cell 0 _ rfl
            have tc1 : xa.cell? ⟨qt, 1, none⟩ = some (.int .u64 (P.wrd To 1)) := hbb.cell 1 _ rfl
            have tc2 : xa.cell? ⟨qt, 2, none⟩ = some (.int .u64 (P.wrd To 2)) := hbb.cell 2 _ rfl
            have tc3 : xa.cell? ⟨qt, 3, none⟩ = some (.int .u64 (P.wrd To 3)) := hbb.cell 3 _ rfl
            clear hbb
            go_wp2_with fail
            refine (attract_any (g.all 0) (I &&& P.full (n : Int)) To 1 _ _ GH.out (T.out.on W.out)).mono ?_
            rintro e u3 ⟨v3, m3, rfl, ho3, hm3, hb⟩
            obtain ⟨vo3, vk3, rfl, -⟩ := own_at ho3
            replace BQg := Lib.hid (BQg.out.keep (grown_of_below hb none))
            replace BQi := Lib.hid (BQi.out.keep (grown_of_below hb none))
            replace BQt := Lib.hid (BQt.out.keep (grown_of_below hb none))
            replace BQf := Lib.hid (BQf.out.keep (grown_of_below hb none))
            replace BQh := Lib.hid (BQh.out.keep (grown_of_below hb none))
            replace GF := Lib.hid (GF.out.on hb)
            replace GH := Lib.hid (GH.out.on hb)
            replace W := Lib.hid (W.out.trans (hb.mono W.out.size))
            replace BQs := Lib.hid (BQs.out.keep (grown_of_below hb none))
            replace BQv := Lib.hid (BQv.out.keep (grown_of_below hb none))
            replace BQ2 := Lib.hid (BQ2.out.keep (grown_of_below hb none))
            obtain ⟨s3, hs3⟩ : ∃ s, P.attOf (g.all 0) (I &&& P.full (n : Int)) 1 To = s := ⟨_, rfl⟩
            rw [hs3]
            have HS3 := Lib.hid hs3
            clear hb hs3 gc0 gc1 gc2 ic0 ic1 ic2 ic3 tc0 tc1 tc2 tc3
            clear ho3 hm3
            go_upto_region 29 with (fail)
            have bq : Box (u3.alloc (.cells #[.int .u64 (P.wrd s3 0), .int .u64 (P.wrd s3 1), .int .u64 (P.wrd s3 2), .int .u64 (P.wrd s3 3)] 28)) u3.heap.size 28 #[.int .u64 (P.wrd s3 0), .int .u64 (P.wrd s3 1), .int .u64 (P.wrd s3 2), .int .u64 (P.wrd s3 3)] := Box.new _ _ _
            have hgq := World.grownBy_alloc u3 (.cells #[.int .u64 (P.wrd s3 0), .int .u64 (P.wrd s3 1), .int .u64 (P.wrd s3 2), .int .u64 (P.wrd s3 3)] 28) none
            replace BQg := Lib.hid (BQg.out.keep hgq)
            replace BQi := Lib.hid (BQi.out.keep hgq)
            replace BQt := Lib.hid (BQt.out.keep hgq)
            replace BQf := Lib.hid (BQf.out.keep hgq)
            replace BQh := Lib.hid (BQh.out.keep hgq)
            replace GF := Lib.hid (GF.out.on (below_of_grown hgq))
            replace GH := Lib.hid (GH.out.on (below_of_grown hgq))
            replace W := Lib.hid (W.out.trans ((below_of_grown hgq).mono W.out.size))
            replace BQs := Lib.hid (BQs.out.keep hgq)
            replace BQv := Lib.hid (BQv.out.keep hgq)
            replace BQ2 := Lib.hid (BQ2.out.keep hgq)
            generalize (u3.alloc (.cells #[.int .u64 (P.wrd s3 0), .int .u64 (P.wrd s3 1), .int .u64 (P.wrd s3 2), .int .u64 (P.wrd s3 3)] 28)) = xb at bq BQg BQi BQt BQf BQh GF GH W BQs BQv BQ2 ⊢
            generalize u3.heap.size = q3 at bq ⊢
            have BQ3 := Lib.hid bq
            clear bq hgq
            have hI : ∀ x, (I &&& P.full (n : Int)).getLsbD x = true → x < g.owner.length := fun x hx => by
              rw [BitVec.getLsbD_and, Bool.and_eq_true, P.getLsbD_full, decide_eq_true_eq] at hx
              have := HN.out
              omega
            have e1 : s2 = sf := by
              have h := P.ways_some (g := g.all 1) (To := To) (p := 1) (P.G.all_right HR.out (by omega)) (by omega) (fun i hi => P.G.all_own g 1 i (by rwa [P.G.all_len] at hi)) (fun x hx => by rw [P.G.all_len]; exact hI x hx)
              rw [P.G.all_len, HN.out] at h
              rw [← HS2.out, ← HSF.out]
              exact h
            have e2 : s3 = (I &&& P.full (n : Int)) &&& ~~~tf := by
              have h := P.ways_stays (g := g.all 0) (To := To) (p := 1) (P.G.all_right HR.out (by omega)) (by omega) (fun i hi => by rw [P.G.all_own g 0 i (by rwa [P.G.all_len] at hi)]; decide) (fun x hx => by rw [P.G.all_len]; exact hI x hx)
              rw [P.G.all_len, HN.out] at h
              rw [← HS3.out, ← HTF.out]
              exact h
            have eqx := eq_wrd e1
            have eqy := eq_wrd e2
            have c1 := fun d os => rMinus xb (I &&& P.full (n : Int)) tf d os
            clear e1 e2 hI
            have ka0 : ∀ (d : Nat) (os : Array Obj), (grow (redrawn xb d) os).cell? ⟨q2, 0, none⟩ = some (.int .u64 (P.wrd s2 0)) := fun d os => (BQ2.out.keep (grown_of_below (below_regrown xb d os) none)).cell 0 _ rfl
            have ka1 : ∀ (d : Nat) (os : Array Obj), (grow (redrawn xb d) os).cell? ⟨q2, 1, none⟩ = some (.int .u64 (P.wrd s2 1)) := fun d os => (BQ2.out.keep (grown_of_below (below_regrown xb d os) none)).cell 1 _ rfl
            have ka2 : ∀ (d : Nat) (os : Array Obj), (grow (redrawn xb d) os).cell? ⟨q2, 2, none⟩ = some (.int .u64 (P.wrd s2 2)) := fun d os => (BQ2.out.keep (grown_of_below (below_regrown xb d os) none)).cell 2 _ rfl
            have ka3 : ∀ (d : Nat) (os : Array Obj), (grow (redrawn xb d) os).cell? ⟨q2, 3, none⟩ = some (.int .u64 (P.wrd s2 3)) := fun d os => (BQ2.out.keep (grown_of_below (below_regrown xb d os) none)).cell 3 _ rfl
            have kb0 : ∀ (d : Nat) (os : Array Obj), (grow (redrawn xb d) os).cell? ⟨q3, 0, none⟩ = some (.int .u64 (P.wrd s3 0)) := fun d os => (BQ3.out.keep (grown_of_below (below_regrown xb d os) none)).cell 0 _ rfl
            have kb1 : ∀ (d : Nat) (os : Array Obj), (grow (redrawn xb d) os).cell? ⟨q3, 1, none⟩ = some (.int .u64 (P.wrd s3 1)) := fun d os => (BQ3.out.keep (grown_of_below (below_regrown xb d os) none)).cell 1 _ rfl
            have kb2 : ∀ (d : Nat) (os : Array Obj), (grow (redrawn xb d) os).cell? ⟨q3, 2, none⟩ = some (.int .u64 (P.wrd s3 2)) := fun d os => (BQ3.out.keep (grown_of_below (below_regrown xb d os) none)).cell 2 _ rfl
            have kb3 : ∀ (d : Nat) (os : Array Obj), (grow (redrawn xb d) os).cell? ⟨q3, 3, none⟩ = some (.int .u64 (P.wrd s3 3)) := fun d os => (BQ3.out.keep (grown_of_below (below_regrown xb d os) none)).cell 3 _ rfl
            have ki0 : ∀ (d : Nat) (os : Array Obj), (grow (redrawn xb d) os).cell? ⟨qi, 0, none⟩ = some (.int .u64 (P.wrd (I &&& P.full (n : Int)) 0)) := fun d os => (BQi.out.keep (grown_of_below (below_regrown xb d os) none)).cell 0 _ rfl
            have ki1 : ∀ (d : Nat) (os : Array Obj), (grow (redrawn xb d) os).cell? ⟨qi, 1, none⟩ = some (.int .u64 (P.wrd (I &&& P.full (n : Int)) 1)) := fun d os => (BQi.out.keep (grown_of_below (below_regrown xb d os) none)).cell 1 _ rfl
            have ki2 : ∀ (d : Nat) (os : Array Obj), (grow (redrawn xb d) os).cell? ⟨qi, 2, none⟩ = some (.int .u64 (P.wrd (I &&& P.full (n : Int)) 2)) := fun d os => (BQi.out.keep (grown_of_below (below_regrown xb d os) none)).cell 2 _ rfl
            have ki3 : ∀ (d : Nat) (os : Array Obj), (grow (redrawn xb d) os).cell? ⟨qi, 3, none⟩ = some (.int .u64 (P.wrd (I &&& P.full (n : Int)) 3)) := fun d os => (BQi.out.keep (grown_of_below (below_regrown xb d os) none)).cell 3 _ rfl
            have ks0 : ∀ (d : Nat) (os : Array Obj), (grow (redrawn xb d) os).cell? ⟨qs, 0, none⟩ = some (.int .u64 (P.wrd sf 0)) := fun d os => (BQs.out.keep (grown_of_below (below_regrown xb d os) none)).cell 0 _ rfl
            have ks1 : ∀ (d : Nat) (os : Array Obj), (grow (redrawn xb d) os).cell? ⟨qs, 1, none⟩ = some (.int .u64 (P.wrd sf 1)) := fun d os => (BQs.out.keep (grown_of_below (below_regrown xb d os) none)).cell 1 _ rfl
            have ks2 : ∀ (d : Nat) (os : Array Obj), (grow (redrawn xb d) os).cell? ⟨qs, 2, none⟩ = some (.int .u64 (P.wrd sf 2)) := fun d os => (BQs.out.keep (grown_of_below (below_regrown xb d os) none)).cell 2 _ rfl
            have ks3 : ∀ (d : Nat) (os : Array Obj), (grow (redrawn xb d) os).cell? ⟨qs, 3, none⟩ = some (.int .u64 (P.wrd sf 3)) := fun d os => (BQs.out.keep (grown_of_below (below_regrown xb d os) none)).cell 3 _ rfl
            have kv0 : ∀ (d : Nat) (os : Array Obj), (grow (redrawn xb d) os).cell? ⟨qv, 0, none⟩ = some (.int .u64 (P.wrd tf 0)) := fun d os => (BQv.out.keep (grown_of_below (below_regrown xb d os) none)).cell 0 _ rfl
            have kv1 : ∀ (d : Nat) (os : Array Obj), (grow (redrawn xb d) os).cell? ⟨qv, 1, none⟩ = some (.int .u64 (P.wrd tf 1)) := fun d os => (BQv.out.keep (grown_of_below (below_regrown xb d os) none)).cell 1 _ rfl
            have kv2 : ∀ (d : Nat) (os : Array Obj), (grow (redrawn xb d) os).cell? ⟨qv, 2, none⟩ = some (.int .u64 (P.wrd tf 2)) := fun d os => (BQv.out.keep (grown_of_below (below_regrown xb d os) none)).cell 2 _ rfl
            have kv3 : ∀ (d : Nat) (os : Array Obj), (grow (redrawn xb d) os).cell? ⟨qv, 3, none⟩ = some (.int .u64 (P.wrd tf 3)) := fun d os => (BQv.out.keep (grown_of_below (below_regrown xb d os) none)).cell 3 _ rfl
            refine wp_region_quiet_below (by kernel_rfl) (by kernel_rfl) ?_
            repeat (quiet_step (with_reducible exact c1 _ _))
            refine wpQuiet_nil ?_
            intro _ hw'
            obtain ⟨⟨dq, osq⟩, hw''⟩ := hw'
            subst hw''
            clear c1 eqx eqy ka0 ka1 ka2 ka3 kb0 kb1 kb2 kb3 ki0 ki1 ki2 ki3 ks0 ks1 ks2 ks3 kv0 kv1 kv2 kv3
            have hb := below_regrown xb dq osq
            replace W := Lib.hid (W.out.trans (hb.mono W.out.size))
            clear hb
            generalize (grow (redrawn xb dq) osq) = xc at W ⊢
            go_wp2_with fail
            exact bodyPost_ret (v := .bool true) (by simp [results, Tryd.results8, go_sem]) rfl ⟨rfl, W.out⟩

theorem ways_any (g : P.G) (I To : BitVec 256) (p : Int) (v : Value) (w : World) (hv : GameV w v g) (hT : Tab w) : Calls Tryd.prog 8 #[v, .agg #[.int .u64 (P.wrd I 0), .int .u64 (P.wrd I 1), .int .u64 (P.wrd I 2), .int .u64 (P.wrd I 3)], .int .i64 p, .agg #[.int .u64 (P.wrd To 0), .int .u64 (P.wrd To 1), .int .u64 (P.wrd To 2), .int .u64 (P.wrd To 3)]] w fun e w' => e = .returned (.bool true) ∧ Below w.heap.size w w' := by
  by_cases hok : g.ok = true
  · by_cases h0 : p = 0
    · subst h0; exact ways_0 g I To v w hv hT hok
    · by_cases h1 : p = 1
      · subst h1; exact ways_1 g I To v w hv hT hok
      · exact ways_away g I To p v w hv hT hok h0 h1
  · exact ways_wrong g I To p v w hv hT (by simpa using hok)
end W
end Go.Proofs.YtpfponiidppldaaDoor
