/- AttractOwn: the walk. -/
import Derived.Test.YtpfponiidppldaaDoorShown
import Derived.Test.YtpfponiidppldaaDoorLeaf2
import Derived.Test.YtpfponiidppldaaDoorCopy
import Derived.Test.YtpfponiidppldaaDoorOwnL
import Derived.Test.YtpfponiidppldaaDoorPartF
import Derived.Deep.Cut
namespace Go.Proofs.YtpfponiidppldaaDoor
open Go.RowKit
namespace W

set_option maxRecDepth 100000 in
set_option maxHeartbeats 1000000 in
theorem owns_wrong (g : P.G) (I To : BitVec 256) (p : Int) (v : Value) (w : World) (hv : GameV w v g) (hT : Tab w) (hok : g.ok = false) : Calls Tryd.prog 7 #[v, .agg #[.int .u64 (P.wrd I 0), .int .u64 (P.wrd I 1), .int .u64 (P.wrd I 2), .int .u64 (P.wrd I 3)], .int .i64 p, .agg #[.int .u64 (P.wrd To 0), .int .u64 (P.wrd To 1), .int .u64 (P.wrd To 2), .int .u64 (P.wrd To 3)]] w fun e w' => e = .returned (.bool true) ∧ Below w.heap.size w w' := by
  have hq0 : g.right.2 ≠ 0 := by unfold P.G.ok at hok; exact beq_eq_false_iff_ne.1 hok
  have HV := Lib.hid hv
  obtain ⟨a, b, c, rfl, -⟩ := hv
  clear hok
  have T := Lib.hid hT
  clear hT
  go_enter Tryd.func7, Tryd.ntmps7
  go_wp2_with fail
  have bx0 : Box (((w.alloc (.cells #[a, b, c] 25)).alloc (.cells #[.int .u64 (P.wrd I 0), .int .u64 (P.wrd I 1), .int .u64 (P.wrd I 2), .int .u64 (P.wrd I 3)] 28)).alloc (.cells #[.int .u64 (P.wrd To 0), .int .u64 (P.wrd To 1), .int .u64 (P.wrd To 2), .int .u64 (P.wrd To 3)] 28)) (w.heap.size) 25 #[a, b, c] := Box.alloc (Box.alloc (Box.new w 25 #[a, b, c]) (.cells #[.int .u64 (P.wrd I 0), .int .u64 (P.wrd I 1), .int .u64 (P.wrd I 2), .int .u64 (P.wrd I 3)] 28)) (.cells #[.int .u64 (P.wrd To 0), .int .u64 (P.wrd To 1), .int .u64 (P.wrd To 2), .int .u64 (P.wrd To 3)] 28)
  have bx1 : Box (((w.alloc (.cells #[a, b, c] 25)).alloc (.cells #[.int .u64 (P.wrd I 0), .int .u64 (P.wrd I 1), .int .u64 (P.wrd I 2), .int .u64 (P.wrd I 3)] 28)).alloc (.cells #[.int .u64 (P.wrd To 0), .int .u64 (P.wrd To 1), .int .u64 (P.wrd To 2), .int .u64 (P.wrd To 3)] 28)) (w.heap.size + 1) 28 #[.int .u64 (P.wrd I 0), .int .u64 (P.wrd I 1), .int .u64 (P.wrd I 2), .int .u64 (P.wrd I 3)] := by
    have := Box.alloc (Box.new (w.alloc (.cells #[a, b, c] 25)) 28 #[.int .u64 (P.wrd I 0), .int .u64 (P.wrd I 1), .int .u64 (P.wrd I 2), .int .u64 (P.wrd I 3)]) (.cells #[.int .u64 (P.wrd To 0), .int .u64 (P.wrd To 1), .int .u64 (P.wrd To 2), .int .u64 (P.wrd To 3)] 28)
    simpa using this
  have bx2 : Box (((w.alloc (.cells #[a, b, c] 25)).alloc (.cells #[.int .u64 (P.wrd I 0), .int .u64 (P.wrd I 1), .int .u64 (P.wrd I 2), .int .u64 (P.wrd I 3)] 28)).alloc (.cells #[.int .u64 (P.wrd To 0), .int .u64 (P.wrd To 1), .int .u64 (P.wrd To 2), .int .u64 (P.wrd To 3)] 28)) (w.heap.size + 1 + 1) 28 #[.int .u64 (P.wrd To 0), .int .u64 (P.wrd To 1), .int .u64 (P.wrd To 2), .int .u64 (P.wrd To 3)] := by
    have := Box.new ((w.alloc (.cells #[a, b, c] 25)).alloc (.cells #[.int .u64 (P.wrd I 0), .int .u64 (P.wrd I 1), .int .u64 (P.wrd I 2), .int .u64 (P.wrd I 3)] 28)) 28 #[.int .u64 (P.wrd To 0), .int .u64 (P.wrd To 1), .int .u64 (P.wrd To 2), .int .u64 (P.wrd To 3)]
    simpa using this
  have hbq : Below w.heap.size w (((w.alloc (.cells #[a, b, c] 25)).alloc (.cells #[.int .u64 (P.wrd I 0), .int .u64 (P.wrd I 1), .int .u64 (P.wrd I 2), .int .u64 (P.wrd I 3)] 28)).alloc (.cells #[.int .u64 (P.wrd To 0), .int .u64 (P.wrd To 1), .int .u64 (P.wrd To 2), .int .u64 (P.wrd To 3)] 28)) := (((Below.refl _ w).alloc (Nat.le_refl _) _).alloc (by simp) _).alloc (by simp; omega) _
  have lt0 : w.heap.size < w.heap.size + 1 := Nat.lt_succ_self _
  have lt1 : w.heap.size + 1 < w.heap.size + 1 + 1 := Nat.lt_succ_self _
  have hle0 : w.heap.size ≤ w.heap.size := Nat.le_refl _
  generalize (((w.alloc (.cells #[a, b, c] 25)).alloc (.cells #[.int .u64 (P.wrd I 0), .int .u64 (P.wrd I 1), .int .u64 (P.wrd I 2), .int .u64 (P.wrd I 3)] 28)).alloc (.cells #[.int .u64 (P.wrd To 0), .int .u64 (P.wrd To 1), .int .u64 (P.wrd To 2), .int .u64 (P.wrd To 3)] 28)) = w0 at bx0 bx1 bx2 hbq  ⊢
  have BQg := Lib.hid bx0
  have BQi := Lib.hid bx1
  have BQt := Lib.hid bx2
  have W := Lib.hid hbq
  have LTgi := Lib.hid lt0
  have LTit := Lib.hid lt1
  have LEg := Lib.hid hle0
  clear hbq hle0 bx0 bx1 bx2 lt0 lt1
  generalize w.heap.size + 1 + 1 = qt at BQt LTit ⊢
  generalize w.heap.size + 1 = qi at BQi LTit LTgi ⊢
  obtain ⟨qg, hqg⟩ : ∃ qg, w.heap.size = qg := ⟨_, rfl⟩
  rw [hqg] at BQg LTgi ⊢
  have LEg : Hid (w.heap.size ≤ qg) := Lib.hid (by omega)
  clear hqg
  refine (shown_any _ (T.out.on W.out)).mono ?_
  rintro e w1 ⟨rfl, hb⟩
  replace BQg := Lib.hid (BQg.out.keep (grown_of_below hb none))
  replace BQi := Lib.hid (BQi.out.keep (grown_of_below hb none))
  replace BQt := Lib.hid (BQt.out.keep (grown_of_below hb none))
  replace W := Lib.hid (W.out.trans (hb.mono W.out.size))
  clear hb
  have hbb := BQg.out
  have gc0 : w1.cell? ⟨qg, 0, none⟩ = some a := hbb.cell 0 _ rfl
  have gc1 : w1.cell? ⟨qg, 1, none⟩ = some b := hbb.cell 1 _ rfl
  have gc2 : w1.cell? ⟨qg, 2, none⟩ = some c := hbb.cell 2 _ rfl
  clear hbb
  go_wp2_with fail
  refine (right_any g _ _ (HV.out.on W.out)).mono ?_
  rintro e w2 ⟨rfl, hb⟩
  replace BQg := Lib.hid (BQg.out.keep (grown_of_below hb none))
  replace BQi := Lib.hid (BQi.out.keep (grown_of_below hb none))
  replace BQt := Lib.hid (BQt.out.keep (grown_of_below hb none))
  replace W := Lib.hid (W.out.trans (hb.mono W.out.size))
  clear hb gc0 gc1 gc2
  obtain ⟨z, hz⟩ : ∃ z, g.right.2 = z := ⟨_, rfl⟩
  rw [hz] at hq0 ⊢
  have fq : (((z : Nat) : Int) != 0) = true := by rw [bne_iff_ne]; omega
  clear hz hq0
  go_wp2_with fail
  exact bodyPost_ret (v := .bool true) (by simp [results, Tryd.results7, go_sem]) rfl ⟨rfl, W.out⟩

set_option maxRecDepth 100000 in
set_option maxHeartbeats 1000000 in
theorem owns_away (g : P.G) (I To : BitVec 256) (p : Int) (v : Value) (w : World) (hv : GameV w v g) (hT : Tab w) (hok : g.ok = true) (h0 : p ≠ 0) (h1 : p ≠ 1) : Calls Tryd.prog 7 #[v, .agg #[.int .u64 (P.wrd I 0), .int .u64 (P.wrd I 1), .int .u64 (P.wrd I 2), .int .u64 (P.wrd I 3)], .int .i64 p, .agg #[.int .u64 (P.wrd To 0), .int .u64 (P.wrd To 1), .int .u64 (P.wrd To 2), .int .u64 (P.wrd To 3)]] w fun e w' => e = .returned (.bool true) ∧ Below w.heap.size w w' := by
  have hq0 : g.right.2 = 0 := by unfold P.G.ok at hok; exact beq_iff_eq.1 hok
  have f0 : (p != 0) = true := bne_iff_ne.2 h0
  have f1 : (p != 1) = true := bne_iff_ne.2 h1
  have HV := Lib.hid hv
  obtain ⟨a, b, c, rfl, -⟩ := hv
  clear hok h0 h1
  have T := Lib.hid hT
  clear hT
  go_enter Tryd.func7, Tryd.ntmps7
  go_wp2_with fail
  have bx0 : Box (((w.alloc (.cells #[a, b, c] 25)).alloc (.cells #[.int .u64 (P.wrd I 0), .int .u64 (P.wrd I 1), .int .u64 (P.wrd I 2), .int .u64 (P.wrd I 3)] 28)).alloc (.cells #[.int .u64 (P.wrd To 0), .int .u64 (P.wrd To 1), .int .u64 (P.wrd To 2), .int .u64 (P.wrd To 3)] 28)) (w.heap.size) 25 #[a, b, c] := Box.alloc (Box.alloc (Box.new w 25 #[a, b, c]) (.cells #[.int .u64 (P.wrd I 0), .int .u64 (P.wrd I 1), .int .u64 (P.wrd I 2), .int .u64 (P.wrd I 3)] 28)) (.cells #[.int .u64 (P.wrd To 0), .int .u64 (P.wrd To 1), .int .u64 (P.wrd To 2), .int .u64 (P.wrd To 3)] 28)
  have bx1 : Box (((w.alloc (.cells #[a, b, c] 25)).alloc (.cells #[.int .u64 (P.wrd I 0), .int .u64 (P.wrd I 1), .int .u64 (P.wrd I 2), .int .u64 (P.wrd I 3)] 28)).alloc (.cells #[.int .u64 (P.wrd To 0), .int .u64 (P.wrd To 1), .int .u64 (P.wrd To 2), .int .u64 (P.wrd To 3)] 28)) (w.heap.size + 1) 28 #[.int .u64 (P.wrd I 0), .int .u64 (P.wrd I 1), .int .u64 (P.wrd I 2), .int .u64 (P.wrd I 3)] := by
    have := Box.alloc (Box.new (w.alloc (.cells #[a, b, c] 25)) 28 #[.int .u64 (P.wrd I 0), .int .u64 (P.wrd I 1), .int .u64 (P.wrd I 2), .int .u64 (P.wrd I 3)]) (.cells #[.int .u64 (P.wrd To 0), .int .u64 (P.wrd To 1), .int .u64 (P.wrd To 2), .int .u64 (P.wrd To 3)] 28)
    simpa using this
  have bx2 : Box (((w.alloc (.cells #[a, b, c] 25)).alloc (.cells #[.int .u64 (P.wrd I 0), .int .u64 (P.wrd I 1), .int .u64 (P.wrd I 2), .int .u64 (P.wrd I 3)] 28)).alloc (.cells #[.int .u64 (P.wrd To 0), .int .u64 (P.wrd To 1), .int .u64 (P.wrd To 2), .int .u64 (P.wrd To 3)] 28)) (w.heap.size + 1 + 1) 28 #[.int .u64 (P.wrd To 0), .int .u64 (P.wrd To 1), .int .u64 (P.wrd To 2), .int .u64 (P.wrd To 3)] := by
    have := Box.new ((w.alloc (.cells #[a, b, c] 25)).alloc (.cells #[.int .u64 (P.wrd I 0), .int .u64 (P.wrd I 1), .int .u64 (P.wrd I 2), .int .u64 (P.wrd I 3)] 28)) 28 #[.int .u64 (P.wrd To 0), .int .u64 (P.wrd To 1), .int .u64 (P.wrd To 2), .int .u64 (P.wrd To 3)]
    simpa using this
  have hbq : Below w.heap.size w (((w.alloc (.cells #[a, b, c] 25)).alloc (.cells #[.int .u64 (P.wrd I 0), .int .u64 (P.wrd I 1), .int .u64 (P.wrd I 2), .int .u64 (P.wrd I 3)] 28)).alloc (.cells #[.int .u64 (P.wrd To 0), .int .u64 (P.wrd To 1), .int .u64 (P.wrd To 2), .int .u64 (P.wrd To 3)] 28)) := (((Below.refl _ w).alloc (Nat.le_refl _) _).alloc (by simp) _).alloc (by simp; omega) _
  have lt0 : w.heap.size < w.heap.size + 1 := Nat.lt_succ_self _
  have lt1 : w.heap.size + 1 < w.heap.size + 1 + 1 := Nat.lt_succ_self _
  have hle0 : w.heap.size ≤ w.heap.size := Nat.le_refl _
  generalize (((w.alloc (.cells #[a, b, c] 25)).alloc (.cells #[.int .u64 (P.wrd I 0), .int .u64 (P.wrd I 1), .int .u64 (P.wrd I 2), .int .u64 (P.wrd I 3)] 28)).alloc (.cells #[.int .u64 (P.wrd To 0), .int .u64 (P.wrd To 1), .int .u64 (P.wrd To 2), .int .u64 (P.wrd To 3)] 28)) = w0 at bx0 bx1 bx2 hbq  ⊢
  have BQg := Lib.hid bx0
  have BQi := Lib.hid bx1
  have BQt := Lib.hid bx2
  have W := Lib.hid hbq
  have LTgi := Lib.hid lt0
  have LTit := Lib.hid lt1
  have LEg := Lib.hid hle0
  clear hbq hle0 bx0 bx1 bx2 lt0 lt1
  generalize w.heap.size + 1 + 1 = qt at BQt LTit ⊢
  generalize w.heap.size + 1 = qi at BQi LTit LTgi ⊢
  obtain ⟨qg, hqg⟩ : ∃ qg, w.heap.size = qg := ⟨_, rfl⟩
  rw [hqg] at BQg LTgi ⊢
  have LEg : Hid (w.heap.size ≤ qg) := Lib.hid (by omega)
  clear hqg
  refine (shown_any _ (T.out.on W.out)).mono ?_
  rintro e w1 ⟨rfl, hb⟩
  replace BQg := Lib.hid (BQg.out.keep (grown_of_below hb none))
  replace BQi := Lib.hid (BQi.out.keep (grown_of_below hb none))
  replace BQt := Lib.hid (BQt.out.keep (grown_of_below hb none))
  replace W := Lib.hid (W.out.trans (hb.mono W.out.size))
  clear hb
  have hbb := BQg.out
  have gc0 : w1.cell? ⟨qg, 0, none⟩ = some a := hbb.cell 0 _ rfl
  have gc1 : w1.cell? ⟨qg, 1, none⟩ = some b := hbb.cell 1 _ rfl
  have gc2 : w1.cell? ⟨qg, 2, none⟩ = some c := hbb.cell 2 _ rfl
  clear hbb
  go_wp2_with fail
  refine (right_any g _ _ (HV.out.on W.out)).mono ?_
  rintro e w2 ⟨rfl, hb⟩
  replace BQg := Lib.hid (BQg.out.keep (grown_of_below hb none))
  replace BQi := Lib.hid (BQi.out.keep (grown_of_below hb none))
  replace BQt := Lib.hid (BQt.out.keep (grown_of_below hb none))
  replace W := Lib.hid (W.out.trans (hb.mono W.out.size))
  clear hb gc0 gc1 gc2
  obtain ⟨z, hz⟩ : ∃ z, g.right.2 = z := ⟨_, rfl⟩
  rw [hz] at hq0 ⊢
  have fq : (((z : Nat) : Int) != 0) = false := by rw [bne_eq_false_iff_eq]; omega
  clear hz hq0
  go_wp2_with fail
  exact bodyPost_ret (v := .bool true) (by simp [results, Tryd.results7, go_sem]) rfl ⟨rfl, W.out⟩

set_option maxRecDepth 100000 in
set_option maxHeartbeats 4000000 in
theorem owns_0 (g : P.G) (I To : BitVec 256) (v : Value) (w : World) (hv : GameV w v g) (hT : Tab w) (hok : g.ok = true) : Calls Tryd.prog 7 #[v, .agg #[.int .u64 (P.wrd I 0), .int .u64 (P.wrd I 1), .int .u64 (P.wrd I 2), .int .u64 (P.wrd I 3)], .int .i64 0, .agg #[.int .u64 (P.wrd To 0), .int .u64 (P.wrd To 1), .int .u64 (P.wrd To 2), .int .u64 (P.wrd To 3)]] w fun e w' => e = .returned (.bool true) ∧ Below w.heap.size w w' := by
  have hq0 : g.right.2 = 0 := by unfold P.G.ok at hok; exact beq_iff_eq.1 hok
  have hr := (P.G.ok_iff g).1 hok
  have HV := Lib.hid hv
  have HFI := Lib.hid hv.fits
  have hop := hr.prio
  have hmp := hr.moves
  have hmany := hr.many
  have h0 := hr.pos
  obtain ⟨n, hn⟩ : ∃ n, g.owner.length = n := ⟨_, rfl⟩
  rw [hn] at hop hmp hmany h0
  obtain ⟨ba, oa, ka, bb, ob, kb, bc, oc, kc, rfl, hca, -, hcc⟩ := hv.open_ hn hop hmp h0
  have HCA := Lib.hid hca
  have HCC := Lib.hid hcc
  have HR := Lib.hid hr
  have HN := Lib.hid hn
  have HOP := Lib.hid hop
  have HMP := Lib.hid hmp
  clear hca hcc hr hn hop hmp hv
  clear hok
  have T := Lib.hid hT
  clear hT
  go_enter Tryd.func7, Tryd.ntmps7
  go_wp2_with fail
  have bx0 : Box (((w.alloc (.cells #[.slice (some ⟨ba, oa, none⟩) n ka, .slice (some ⟨bb, ob, none⟩) n kb, .slice (some ⟨bc, oc, none⟩) n kc] 25)).alloc (.cells #[.int .u64 (P.wrd I 0), .int .u64 (P.wrd I 1), .int .u64 (P.wrd I 2), .int .u64 (P.wrd I 3)] 28)).alloc (.cells #[.int .u64 (P.wrd To 0), .int .u64 (P.wrd To 1), .int .u64 (P.wrd To 2), .int .u64 (P.wrd To 3)] 28)) (w.heap.size) 25 #[.slice (some ⟨ba, oa, none⟩) n ka, .slice (some ⟨bb, ob, none⟩) n kb, .slice (some ⟨bc, oc, none⟩) n kc] := Box.alloc (Box.alloc (Box.new w 25 #[.slice (some ⟨ba, oa, none⟩) n ka, .slice (some ⟨bb, ob, none⟩) n kb, .slice (some ⟨bc, oc, none⟩) n kc]) (.cells #[.int .u64 (P.wrd I 0), .int .u64 (P.wrd I 1), .int .u64 (P.wrd I 2), .int .u64 (P.wrd I 3)] 28)) (.cells #[.int .u64 (P.wrd To 0), .int .u64 (P.wrd To 1), .int .u64 (P.wrd To 2), .int .u64 (P.wrd To 3)] 28)
  have bx1 : Box (((w.alloc (.cells #[.slice (some ⟨ba, oa, none⟩) n ka, .slice (some ⟨bb, ob, none⟩) n kb, .slice (some ⟨bc, oc, none⟩) n kc] 25)).alloc (.cells #[.int .u64 (P.wrd I 0), .int .u64 (P.wrd I 1), .int .u64 (P.wrd I 2), .int .u64 (P.wrd I 3)] 28)).alloc (.cells #[.int .u64 (P.wrd To 0), .int .u64 (P.wrd To 1), .int .u64 (P.wrd To 2), .int .u64 (P.wrd To 3)] 28)) (w.heap.size + 1) 28 #[.int .u64 (P.wrd I 0), .int .u64 (P.wrd I 1), .int .u64 (P.wrd I 2), .int .u64 (P.wrd I 3)] := by
    have := Box.alloc (Box.new (w.alloc (.cells #[.slice (some ⟨ba, oa, none⟩) n ka, .slice (some ⟨bb, ob, none⟩) n kb, .slice (some ⟨bc, oc, none⟩) n kc] 25)) 28 #[.int .u64 (P.wrd I 0), .int .u64 (P.wrd I 1), .int .u64 (P.wrd I 2), .int .u64 (P.wrd I 3)]) (.cells #[.int .u64 (P.wrd To 0), .int .u64 (P.wrd To 1), .int .u64 (P.wrd To 2), .int .u64 (P.wrd To 3)] 28)
    simpa using this
  have bx2 : Box (((w.alloc (.cells #[.slice (some ⟨ba, oa, none⟩) n ka, .slice (some ⟨bb, ob, none⟩) n kb, .slice (some ⟨bc, oc, none⟩) n kc] 25)).alloc (.cells #[.int .u64 (P.wrd I 0), .int .u64 (P.wrd I 1), .int .u64 (P.wrd I 2), .int .u64 (P.wrd I 3)] 28)).alloc (.cells #[.int .u64 (P.wrd To 0), .int .u64 (P.wrd To 1), .int .u64 (P.wrd To 2), .int .u64 (P.wrd To 3)] 28)) (w.heap.size + 1 + 1) 28 #[.int .u64 (P.wrd To 0), .int .u64 (P.wrd To 1), .int .u64 (P.wrd To 2), .int .u64 (P.wrd To 3)] := by
    have := Box.new ((w.alloc (.cells #[.slice (some ⟨ba, oa, none⟩) n ka, .slice (some ⟨bb, ob, none⟩) n kb, .slice (some ⟨bc, oc, none⟩) n kc] 25)).alloc (.cells #[.int .u64 (P.wrd I 0), .int .u64 (P.wrd I 1), .int .u64 (P.wrd I 2), .int .u64 (P.wrd I 3)] 28)) 28 #[.int .u64 (P.wrd To 0), .int .u64 (P.wrd To 1), .int .u64 (P.wrd To 2), .int .u64 (P.wrd To 3)]
    simpa using this
  have hbq : Below w.heap.size w (((w.alloc (.cells #[.slice (some ⟨ba, oa, none⟩) n ka, .slice (some ⟨bb, ob, none⟩) n kb, .slice (some ⟨bc, oc, none⟩) n kc] 25)).alloc (.cells #[.int .u64 (P.wrd I 0), .int .u64 (P.wrd I 1), .int .u64 (P.wrd I 2), .int .u64 (P.wrd I 3)] 28)).alloc (.cells #[.int .u64 (P.wrd To 0), .int .u64 (P.wrd To 1), .int .u64 (P.wrd To 2), .int .u64 (P.wrd To 3)] 28)) := (((Below.refl _ w).alloc (Nat.le_refl _) _).alloc (by simp) _).alloc (by simp; omega) _
  have lt0 : w.heap.size < w.heap.size + 1 := Nat.lt_succ_self _
  have lt1 : w.heap.size + 1 < w.heap.size + 1 + 1 := Nat.lt_succ_self _
  have hle0 : w.heap.size ≤ w.heap.size := Nat.le_refl _
  generalize (((w.alloc (.cells #[.slice (some ⟨ba, oa, none⟩) n ka, .slice (some ⟨bb, ob, none⟩) n kb, .slice (some ⟨bc, oc, none⟩) n kc] 25)).alloc (.cells #[.int .u64 (P.wrd I 0), .int .u64 (P.wrd I 1), .int .u64 (P.wrd I 2), .int .u64 (P.wrd I 3)] 28)).alloc (.cells #[.int .u64 (P.wrd To 0), .int .u64 (P.wrd To 1), .int .u64 (P.wrd To 2), .int .u64 (P.wrd To 3)] 28)) = w0 at bx0 bx1 bx2 hbq  ⊢
  have BQg := Lib.hid bx0
  have BQi := Lib.hid bx1
  have BQt := Lib.hid bx2
  have W := Lib.hid hbq
  have LTgi := Lib.hid lt0
  have LTit := Lib.hid lt1
  have LEg := Lib.hid hle0
  clear hbq hle0 bx0 bx1 bx2 lt0 lt1
  generalize w.heap.size + 1 + 1 = qt at BQt LTit ⊢
  generalize w.heap.size + 1 = qi at BQi LTit LTgi ⊢
  obtain ⟨qg, hqg⟩ : ∃ qg, w.heap.size = qg := ⟨_, rfl⟩
  rw [hqg] at BQg LTgi ⊢
  have LEg : Hid (w.heap.size ≤ qg) := Lib.hid (by omega)
  clear hqg
  refine (shown_any _ (T.out.on W.out)).mono ?_
  rintro e w1 ⟨rfl, hb⟩
  replace BQg := Lib.hid (BQg.out.keep (grown_of_below hb none))
  replace BQi := Lib.hid (BQi.out.keep (grown_of_below hb none))
  replace BQt := Lib.hid (BQt.out.keep (grown_of_below hb none))
  replace W := Lib.hid (W.out.trans (hb.mono W.out.size))
  clear hb
  have hbb := BQg.out
  have gc0 : w1.cell? ⟨qg, 0, none⟩ = some (.slice (some ⟨ba, oa, none⟩) n ka) := hbb.cell 0 _ rfl
  have gc1 : w1.cell? ⟨qg, 1, none⟩ = some (.slice (some ⟨bb, ob, none⟩) n kb) := hbb.cell 1 _ rfl
  have gc2 : w1.cell? ⟨qg, 2, none⟩ = some (.slice (some ⟨bc, oc, none⟩) n kc) := hbb.cell 2 _ rfl
  clear hbb
  go_wp2_with fail
  refine (right_any g _ _ (HV.out.on W.out)).mono ?_
  rintro e w2 ⟨rfl, hb⟩
  replace BQg := Lib.hid (BQg.out.keep (grown_of_below hb none))
  replace BQi := Lib.hid (BQi.out.keep (grown_of_below hb none))
  replace BQt := Lib.hid (BQt.out.keep (grown_of_below hb none))
  replace W := Lib.hid (W.out.trans (hb.mono W.out.size))
  clear hb gc0 gc1 gc2
  obtain ⟨z, hz⟩ : ∃ z, g.right.2 = z := ⟨_, rfl⟩
  rw [hz] at hq0 ⊢
  have fq : (((z : Nat) : Int) != 0) = false := by rw [bne_eq_false_iff_eq]; omega
  clear hz hq0
  go_upto_region 5 with (fail)
  have hbb := BQg.out
  have gc0 : w2.cell? ⟨qg, 0, none⟩ = some (.slice (some ⟨ba, oa, none⟩) n ka) := hbb.cell 0 _ rfl
  have gc1 : w2.cell? ⟨qg, 1, none⟩ = some (.slice (some ⟨bb, ob, none⟩) n kb) := hbb.cell 1 _ rfl
  have gc2 : w2.cell? ⟨qg, 2, none⟩ = some (.slice (some ⟨bc, oc, none⟩) n kc) := hbb.cell 2 _ rfl
  clear hbb
  have hbb := BQi.out
  have ic0 : w2.cell? ⟨qi, 0, none⟩ = some (.int .u64 (P.wrd I 0)) := hbb.cell 0 _ rfl
  have ic1 : w2.cell? ⟨qi, 1, none⟩ = some (.int .u64 (P.wrd I 1)) := hbb.cell 1 _ rfl
  have ic2 : w2.cell? ⟨qi, 2, none⟩ = some (.int .u64 (P.wrd I 2)) := hbb.cell 2 _ rfl
  have ic3 : w2.cell? ⟨qi, 3, none⟩ = some (.int .u64 (P.wrd I 3)) := hbb.cell 3 _ rfl
  clear hbb
  have hbb := BQt.out
  have tc0 : w2.cell? ⟨qt, 0, none⟩ = some (.int .u64 (P.wrd To 0)) := hbb.cell 0 _ rfl
  have tc1 : w2.cell? ⟨qt, 1, none⟩ = some (.int .u64 (P.wrd To 1)) := hbb.cell 1 _ rfl
  have tc2 : w2.cell? ⟨qt, 2, none⟩ = some (.int .u64 (P.wrd To 2)) := hbb.cell 2 _ rfl
  have tc3 : w2.cell? ⟨qt, 3, none⟩ = some (.int .u64 (P.wrd To 3)) := hbb.cell 3 _ rfl
  clear hbb
  go_wp2_with fail
  refine (attract_any g I To 0 _ _ (HV.out.on W.out) (T.out.on W.out)).mono ?_
  rintro e u1 ⟨v1, m1, rfl, ho1, hm1, hb⟩
  obtain ⟨vo1, vk1, rfl, -⟩ := own_at ho1
  replace BQg := Lib.hid (BQg.out.keep (grown_of_below hb none))
  replace BQi := Lib.hid (BQi.out.keep (grown_of_below hb none))
  replace BQt := Lib.hid (BQt.out.keep (grown_of_below hb none))
  replace W := Lib.hid (W.out.trans (hb.mono W.out.size))
  obtain ⟨s1, hs1⟩ : ∃ s, P.attOf g I 0 To = s := ⟨_, rfl⟩
  rw [hs1]
  have HS1 := Lib.hid hs1
  clear hb hs1 gc0 gc1 gc2 ic0 ic1 ic2 ic3 tc0 tc1 tc2 tc3
  clear ho1 hm1
  go_upto_region 6 with (fail)
  have bq : Box (u1.alloc (.cells #[.int .u64 (P.wrd s1 0), .int .u64 (P.wrd s1 1), .int .u64 (P.wrd s1 2), .int .u64 (P.wrd s1 3)] 28)) u1.heap.size 28 #[.int .u64 (P.wrd s1 0), .int .u64 (P.wrd s1 1), .int .u64 (P.wrd s1 2), .int .u64 (P.wrd s1 3)] := Box.new _ _ _
  have hgq := World.grownBy_alloc u1 (.cells #[.int .u64 (P.wrd s1 0), .int .u64 (P.wrd s1 1), .int .u64 (P.wrd s1 2), .int .u64 (P.wrd s1 3)] 28) none
  replace BQg := Lib.hid (BQg.out.keep hgq)
  replace BQi := Lib.hid (BQi.out.keep hgq)
  replace BQt := Lib.hid (BQt.out.keep hgq)
  replace W := Lib.hid (W.out.trans ((below_of_grown hgq).mono W.out.size))
  generalize (u1.alloc (.cells #[.int .u64 (P.wrd s1 0), .int .u64 (P.wrd s1 1), .int .u64 (P.wrd s1 2), .int .u64 (P.wrd s1 3)] 28)) = x1 at bq BQg BQi BQt W ⊢
  generalize u1.heap.size = q1 at bq ⊢
  have BQ1 := Lib.hid bq
  clear bq hgq
  have HW1 := Lib.hid W.out.size
  have hbb := BQg.out
  have gc0 : x1.cell? ⟨qg, 0, none⟩ = some (.slice (some ⟨ba, oa, none⟩) n ka) := hbb.cell 0 _ rfl
  have gc1 : x1.cell? ⟨qg, 1, none⟩ = some (.slice (some ⟨bb, ob, none⟩) n kb) := hbb.cell 1 _ rfl
  have gc2 : x1.cell? ⟨qg, 2, none⟩ = some (.slice (some ⟨bc, oc, none⟩) n kc) := hbb.cell 2 _ rfl
  clear hbb
  go_wp2_with fail
  have LOf := Lib.hid (Nat.le_refl x1.heap.size)
  refine (copy_any g _ _ (HV.out.on W.out)).mono ?_
  rintro e y1 ⟨fav, fbv, fcv, fL, rfl, ho, hb⟩
  obtain ⟨fa, fka, fb, fkb, fc, fkc, rfl, rfl, rfl⟩ := ho.forms
  rw [HN.out, HOP.out, HMP.out] at ho ⊢
  replace BQg := Lib.hid (BQg.out.keep (grown_of_below hb none))
  replace BQi := Lib.hid (BQi.out.keep (grown_of_below hb none))
  replace BQt := Lib.hid (BQt.out.keep (grown_of_below hb none))
  replace W := Lib.hid (W.out.trans (hb.mono W.out.size))
  replace BQ1 := Lib.hid (BQ1.out.keep (grown_of_below hb none))
  have Of := Lib.hid ho
  have Uf := Lib.hid ho.under
  have SZf := Lib.hid hb.size
  clear hb ho gc0 gc1 gc2
  go_upto_region 7 with (fail)
  have Wfy := Lib.hid (Below.refl y1.heap.size y1)
  have bq : Box (y1.alloc (.cells #[.slice fa n fka, .slice fb n fkb, .slice fc n fkc] 25)) y1.heap.size 25 #[.slice fa n fka, .slice fb n fkb, .slice fc n fkc] := Box.new _ _ _
  have hgq := World.grownBy_alloc y1 (.cells #[.slice fa n fka, .slice fb n fkb, .slice fc n fkc] 25) none
  replace BQg := Lib.hid (BQg.out.keep hgq)
  replace BQi := Lib.hid (BQi.out.keep hgq)
  replace BQt := Lib.hid (BQt.out.keep hgq)
  replace W := Lib.hid (W.out.trans ((below_of_grown hgq).mono W.out.size))
  replace BQ1 := Lib.hid (BQ1.out.keep hgq)
  replace Of := Lib.hid (Of.out.grown hgq)
  replace Wfy := Lib.hid (Wfy.out.trans ((below_of_grown hgq).mono Wfy.out.size))
  generalize (y1.alloc (.cells #[.slice fa n fka, .slice fb n fkb, .slice fc n fkc] 25)) = x2 at bq BQg BQi BQt W BQ1 Of Wfy ⊢
  generalize y1.heap.size = qf at bq ⊢
  have BQf := Lib.hid bq
  clear bq hgq
  have HYf := Lib.hid Wfy.out.size
  clear Wfy
  have hbb := BQg.out
  have gc0 : x2.cell? ⟨qg, 0, none⟩ = some (.slice (some ⟨ba, oa, none⟩) n ka) := hbb.cell 0 _ rfl
  have gc1 : x2.cell? ⟨qg, 1, none⟩ = some (.slice (some ⟨bb, ob, none⟩) n kb) := hbb.cell 1 _ rfl
  have gc2 : x2.cell? ⟨qg, 2, none⟩ = some (.slice (some ⟨bc, oc, none⟩) n kc) := hbb.cell 2 _ rfl
  clear hbb
  go_wp2_with fail
  have LOh := Lib.hid (Nat.le_refl x2.heap.size)
  refine (copy_any g _ _ (HV.out.on W.out)).mono ?_
  rintro e y2 ⟨hav, hbv, hcv, hL, rfl, ho, hb⟩
  obtain ⟨ha, hka, hb_, hkb, hc, hkc, rfl, rfl, rfl⟩ := ho.forms
  rw [HN.out, HOP.out, HMP.out] at ho ⊢
  replace BQg := Lib.hid (BQg.out.keep (grown_of_below hb none))
  replace BQi := Lib.hid (BQi.out.keep (grown_of_below hb none))
  replace BQt := Lib.hid (BQt.out.keep (grown_of_below hb none))
  replace W := Lib.hid (W.out.trans (hb.mono W.out.size))
  replace BQ1 := Lib.hid (BQ1.out.keep (grown_of_below hb none))
  replace BQf := Lib.hid (BQf.out.keep (grown_of_below hb none))
  replace Of := Lib.hid (Of.out.grown (grown_of_below hb none))
  have Oh := Lib.hid ho
  have Uh := Lib.hid ho.under
  have SZh := Lib.hid hb.size
  clear hb ho gc0 gc1 gc2
  go_upto_region 8 with (fail)
  have Why := Lib.hid (Below.refl y2.heap.size y2)
  have bq : Box (y2.alloc (.cells #[.slice ha n hka, .slice hb_ n hkb, .slice hc n hkc] 25)) y2.heap.size 25 #[.slice ha n hka, .slice hb_ n hkb, .slice hc n hkc] := Box.new _ _ _
  have hgq := World.grownBy_alloc y2 (.cells #[.slice ha n hka, .slice hb_ n hkb, .slice hc n hkc] 25) none
  replace BQg := Lib.hid (BQg.out.keep hgq)
  replace BQi := Lib.hid (BQi.out.keep hgq)
  replace BQt := Lib.hid (BQt.out.keep hgq)
  replace W := Lib.hid (W.out.trans ((below_of_grown hgq).mono W.out.size))
  replace BQ1 := Lib.hid (BQ1.out.keep hgq)
  replace BQf := Lib.hid (BQf.out.keep hgq)
  replace Of := Lib.hid (Of.out.grown hgq)
  replace Oh := Lib.hid (Oh.out.grown hgq)
  replace Why := Lib.hid (Why.out.trans ((below_of_grown hgq).mono Why.out.size))
  generalize (y2.alloc (.cells #[.slice ha n hka, .slice hb_ n hkb, .slice hc n hkc] 25)) = x3 at bq BQg BQi BQt W BQ1 BQf Of Oh Why ⊢
  generalize y2.heap.size = qh at bq ⊢
  have BQh := Lib.hid bq
  clear bq hgq
  have HYh := Lib.hid Why.out.size
  clear Why
  have hn0 : 0 < g.owner.length := by have := HN.out; omega
  obtain ⟨pf, kf2, ef, lf1, lf2, -, -⟩ := own_form Of.out.owner hn0
  rw [HN.out] at ef
  obtain ⟨rfl, -, rfl⟩ : fa = some ⟨pf, 0, none⟩ ∧ n = n ∧ fka = kf2 := by injection ef with h1 h2 h3; exact ⟨h1, h2, h3⟩
  obtain ⟨ph, kh2, eh, lh1, lh2, -, -⟩ := own_form Oh.out.owner hn0
  rw [HN.out] at eh
  obtain ⟨rfl, -, rfl⟩ : ha = some ⟨ph, 0, none⟩ ∧ n = n ∧ hka = kh2 := by injection eh with h1 h2 h3; exact ⟨h1, h2, h3⟩
  have hfm : pf < x2.heap.size := Nat.lt_of_lt_of_le (Uf.out 0 _ pf rfl rfl) HYf.out
  have HPF := Lib.hid (show w.heap.size ≤ pf ∧ pf < x2.heap.size ∧ x2.heap.size ≤ ph ∧ ph < x3.heap.size from ⟨by have := HW1.out; omega, hfm, lh1, lh2⟩)
  have HW3 := Lib.hid W.out
  have Lg := Lib.hid BQg.out.lt
  clear ef eh hn0 lf1 lf2 lh1 lh2 hfm
  go_wp2_with fail
  go_loopw [16] (fun i wr => ∃ j : Nat, j ≤ n ∧ i = .int .i64 (j : Int) ∧ Rk.Keeps (KX x3.heap.size [pf, ph]) x3 wr ∧ OwnG wr x1.heap.size (.slice (some ⟨pf, 0, none⟩) n fka) (.slice fb n fkb) (.slice fc n fkc) fL (g.given 0 j) ∧ OwnG wr x2.heap.size (.slice (some ⟨ph, 0, none⟩) n hka) (.slice hb_ n hkb) (.slice hc n hkc) hL (g.given 1 j)) (fun i _ => n - (intOf i).toNat)
  case atStart => exact ⟨0, Nat.zero_le _, rfl, Rk.Keeps.refl _ _, by rw [P.G.given_zero]; exact Of.out, by rw [P.G.given_zero]; exact Oh.out⟩
  case round =>
    obtain ⟨j, hj, rfl, hk, hof, hoh⟩ := hrel
    have HK := Lib.hid hk
    have HOF := Lib.hid hof
    have HOH := Lib.hid hoh
    clear hk hof hoh
    have hj0 : (0 : Int) ≤ (j : Int) := Int.natCast_nonneg _
    have HX : Hid (∀ x ∈ [pf, ph], w.heap.size ≤ x) := Lib.hid (fun x hx => by
      have h1 := HPF.out
      have h2 := HW3.out.size
      simp only [List.mem_cons, List.not_mem_nil, or_false] at hx
      rcases hx with rfl | rfl <;> omega)
    have hbx : ∀ {q : Nat} {t : TypeId} {cs : Array Value}, Box x3 q t cs → t ≠ 3 → Box wr q t cs := fun {q t cs} h ht => kx_box HK.out h h.lt (fun e => by
      simp only [List.mem_cons, List.not_mem_nil, or_false] at e
      rcases e with rfl | rfl
      · exact own_box Of.out.owner h (fun e => ht e.symm) rfl
      · exact own_box Oh.out.owner h (fun e => ht e.symm) rfl)
    have BQg := Lib.hid (hbx BQg.out (by decide))
    have BQi := Lib.hid (hbx BQi.out (by decide))
    have BQt := Lib.hid (hbx BQt.out (by decide))
    have BQ1 := Lib.hid (hbx BQ1.out (by decide))
    have BQf := Lib.hid (hbx BQf.out (by decide))
    have BQh := Lib.hid (hbx BQh.out (by decide))
    have W := Lib.hid (HW3.out.trans (kx_below HK.out HX.out HW3.out.size (Nat.le_refl _)))
    clear hbx
    have hbb := BQg.out
    have gc0 : wr.cell? ⟨qg, 0, none⟩ = some (.slice (some ⟨ba, oa, none⟩) n ka) := hbb.cell 0 _ rfl
    have gc1 : wr.cell? ⟨qg, 1, none⟩ = some (.slice (some ⟨bb, ob, none⟩) n kb) := hbb.cell 1 _ rfl
    have gc2 : wr.cell? ⟨qg, 2, none⟩ = some (.slice (some ⟨bc, oc, none⟩) n kc) := hbb.cell 2 _ rfl
    clear hbb
    by_cases hlt : j < n
    · have fj : decide ((j : Int) < (n : Int)) = true := decide_eq_true (by omega)
      have hji : (j : Int) < (n : Int) := by omega
      have hbb := BQf.out
      have fc0 : wr.cell? ⟨qf, 0, none⟩ = some (.slice (some ⟨pf, 0, none⟩) n fka) := hbb.cell 0 _ rfl
      have fc1 : wr.cell? ⟨qf, 1, none⟩ = some (.slice fb n fkb) := hbb.cell 1 _ rfl
      have fc2 : wr.cell? ⟨qf, 2, none⟩ = some (.slice fc n fkc) := hbb.cell 2 _ rfl
      clear hbb
      obtain ⟨z1, cf, ff⟩ := HOF.out.cellO (j := j) (by rw [P.G.given_len, HN.out]; exact hlt)
      have HOF2 := Lib.hid (HOF.out.give (by rw [HN.out]; exact hlt))
      have HOH1 := Lib.hid (HOH.out.below_ (x := pf) HPF.out.2.1 j (.int .i64 0))
      have HK2 := Lib.hid (HK.out.trans (kx_set wr (x := pf) (.inl (by simp)) j (.int .i64 0)))
      replace BQh := Lib.hid (BQh.out.far (p := ⟨pf, j, none⟩) (fun e => own_box HOF.out.owner BQh.out (by decide) (by show some pf = some qh; rw [e])) (.int .i64 0))
      go_upto_region 12 with (fail)
      clear cf ff fc0 fc1 fc2 gc0 gc1 gc2
      generalize (wr.setCell ⟨pf, j, none⟩ (.int .i64 0)) = wv at HOF2 HOH1 HK2 BQh ⊢
      obtain ⟨z2, cf, ff⟩ := HOH1.out.cellO (j := j) (by rw [P.G.given_len, HN.out]; exact hlt)
      have hbb := BQh.out
      have hc0 : wv.cell? ⟨qh, 0, none⟩ = some (.slice (some ⟨ph, 0, none⟩) n hka) := hbb.cell 0 _ rfl
      have hc1 : wv.cell? ⟨qh, 1, none⟩ = some (.slice hb_ n hkb) := hbb.cell 1 _ rfl
      have hc2 : wv.cell? ⟨qh, 2, none⟩ = some (.slice hc n hkc) := hbb.cell 2 _ rfl
      clear hbb
      have HOH2 := Lib.hid (HOH1.out.give (by rw [HN.out]; exact hlt))
      have HOF3 := Lib.hid (HOF2.out.above (M := x2.heap.size) (fun i u q hu hq => Nat.lt_of_lt_of_le (Uf.out i u q hu hq) HYf.out) HPF.out.2.2.1 j (.int .i64 1))
      have HK3 := Lib.hid (HK2.out.trans (kx_set wv (x := ph) (.inl (by simp)) j (.int .i64 1)))
      go_wp2_with fail
      go_roundw
      case rel => exact ⟨j + 1, by omega, by go_num, HK3.out, HOF3.out, HOH2.out⟩
      case measure => simp [intOf]; omega
    · have fj : decide ((j : Int) < (n : Int)) = false := decide_eq_false (by omega)
      have hjn : j = n := by omega
      have GF := Lib.hid (show GameV wr (.agg #[.slice (some ⟨pf, 0, none⟩) n fka, .slice fb n fkb, .slice fc n fkc]) (g.all 0) from by
        have h := HOF.out
        rw [P.G.given_all g 0 j (by have := HN.out; omega)] at h
        exact h.game (fits_all HFI.out 0))
      have GH := Lib.hid (show GameV wr (.agg #[.slice (some ⟨ph, 0, none⟩) n hka, .slice hb_ n hkb, .slice hc n hkc]) (g.all 1) from by
        have h := HOH.out
        rw [P.G.given_all g 1 j (by have := HN.out; omega)] at h
        exact h.game (fits_all HFI.out 1))
      clear hjn
      go_upto_region 13 with (fail)
      clear gc0 gc1 gc2
      have hbb := BQf.out
      have gc0 : wr.cell? ⟨qf, 0, none⟩ = some (.slice (some ⟨pf, 0, none⟩) n fka) := hbb.cell 0 _ rfl
      have gc1 : wr.cell? ⟨qf, 1, none⟩ = some (.slice fb n fkb) := hbb.cell 1 _ rfl
      have gc2 : wr.cell? ⟨qf, 2, none⟩ = some (.slice fc n fkc) := hbb.cell 2 _ rfl
      clear hbb
      have hbb := BQi.out
      have ic0 : wr.cell? ⟨qi, 0, none⟩ = some (.int .u64 (P.wrd I 0)) := hbb.cell 0 _ rfl
      have ic1 : wr.cell? ⟨qi, 1, none⟩ = some (.int .u64 (P.wrd I 1)) := hbb.cell 1 _ rfl
      have ic2 : wr.cell? ⟨qi, 2, none⟩ = some (.int .u64 (P.wrd I 2)) := hbb.cell 2 _ rfl
      have ic3 : wr.cell? ⟨qi, 3, none⟩ = some (.int .u64 (P.wrd I 3)) := hbb.cell 3 _ rfl
      clear hbb
      have hbb := BQt.out
      have tc0 : wr.cell? ⟨qt, 0, none⟩ = some (.int .u64 (P.wrd To 0)) := hbb.cell 0 _ rfl
      have tc1 : wr.cell? ⟨qt, 1, none⟩ = some (.int .u64 (P.wrd To 1)) := hbb.cell 1 _ rfl
      have tc2 : wr.cell? ⟨qt, 2, none⟩ = some (.int .u64 (P.wrd To 2)) := hbb.cell 2 _ rfl
      have tc3 : wr.cell? ⟨qt, 3, none⟩ = some (.int .u64 (P.wrd To 3)) := hbb.cell 3 _ rfl
      clear hbb
      go_wp2_with fail
      refine (attract_any (g.all 0) I To 0 _ _ GF.out (T.out.on W.out)).mono ?_
      rintro e u2 ⟨v2, m2, rfl, ho2, hm2, hb⟩
      obtain ⟨vo2, vk2, rfl, -⟩ := own_at ho2
      replace BQg := Lib.hid (BQg.out.keep (grown_of_below hb none))
      replace BQi := Lib.hid (BQi.out.keep (grown_of_below hb none))
      replace BQt := Lib.hid (BQt.out.keep (grown_of_below hb none))
      replace BQ1 := Lib.hid (BQ1.out.keep (grown_of_below hb none))
      replace BQf := Lib.hid (BQf.out.keep (grown_of_below hb none))
      replace BQh := Lib.hid (BQh.out.keep (grown_of_below hb none))
      replace GF := Lib.hid (GF.out.on hb)
      replace GH := Lib.hid (GH.out.on hb)
      replace W := Lib.hid (W.out.trans (hb.mono W.out.size))
      obtain ⟨s2, hs2⟩ : ∃ s, P.attOf (g.all 0) I 0 To = s := ⟨_, rfl⟩
      rw [hs2]
      have HS2 := Lib.hid hs2
      clear hb hs2 gc0 gc1 gc2 ic0 ic1 ic2 ic3 tc0 tc1 tc2 tc3
      clear ho2 hm2
      go_upto_region 14 with (fail)
      have bq : Box (u2.alloc (.cells #[.int .u64 (P.wrd s2 0), .int .u64 (P.wrd s2 1), .int .u64 (P.wrd s2 2), .int .u64 (P.wrd s2 3)] 28)) u2.heap.size 28 #[.int .u64 (P.wrd s2 0), .int .u64 (P.wrd s2 1), .int .u64 (P.wrd s2 2), .int .u64 (P.wrd s2 3)] := Box.new _ _ _
      have hgq := World.grownBy_alloc u2 (.cells #[.int .u64 (P.wrd s2 0), .int .u64 (P.wrd s2 1), .int .u64 (P.wrd s2 2), .int .u64 (P.wrd s2 3)] 28) none
      replace BQg := Lib.hid (BQg.out.keep hgq)
      replace BQi := Lib.hid (BQi.out.keep hgq)
      replace BQt := Lib.hid (BQt.out.keep hgq)
      replace BQ1 := Lib.hid (BQ1.out.keep hgq)
      replace BQf := Lib.hid (BQf.out.keep hgq)
      replace BQh := Lib.hid (BQh.out.keep hgq)
      replace GF := Lib.hid (GF.out.on (below_of_grown hgq))
      replace GH := Lib.hid (GH.out.on (below_of_grown hgq))
      replace W := Lib.hid (W.out.trans ((below_of_grown hgq).mono W.out.size))
      generalize (u2.alloc (.cells #[.int .u64 (P.wrd s2 0), .int .u64 (P.wrd s2 1), .int .u64 (P.wrd s2 2), .int .u64 (P.wrd s2 3)] 28)) = xa at bq BQg BQi BQt BQ1 BQf BQh GF GH W ⊢
      generalize u2.heap.size = q2 at bq ⊢
      have BQ2 := Lib.hid bq
      clear bq hgq
      have hbb := BQh.out
      have gc0 : xa.cell? ⟨qh, 0, none⟩ = some (.slice (some ⟨ph, 0, none⟩) n hka) := hbb.cell 0 _ rfl
      have gc1 : xa.cell? ⟨qh, 1, none⟩ = some (.slice hb_ n hkb) := hbb.cell 1 _ rfl
      have gc2 : xa.cell? ⟨qh, 2, none⟩ = some (.slice hc n hkc) := hbb.cell 2 _ rfl
      clear hbb
      have hbb := BQi.out
      have ic0 : xa.cell? ⟨qi, 0, none⟩ = some (.int .u64 (P.wrd I 0)) := hbb.cell 0 _ rfl
      have ic1 : xa.cell? ⟨qi, 1, none⟩ = some (.int .u64 (P.wrd I 1)) := hbb.cell 1 _ rfl
      have ic2 : xa.cell? ⟨qi, 2, none⟩ = some (.int .u64 (P.wrd I 2)) := hbb.cell 2 _ rfl
      have ic3 : xa.cell? ⟨qi, 3, none⟩ = some (.int .u64 (P.wrd I 3)) := hbb.cell 3 _ rfl
      clear hbb
      have hbb := BQt.out
      have tc0 : xa.cell? ⟨qt, 0, none⟩ = some (.int .u64 (P.wrd To 0)) := hbb.cell 0 _ rfl
      have tc1 : xa.cell? ⟨qt, 1, none⟩ = some (.int .u64 (P.wrd To 1)) := hbb.cell 1 _ rfl
      have tc2 : xa.cell? ⟨qt, 2, none⟩ = some (.int .u64 (P.wrd To 2)) := hbb.cell 2 _ rfl
      have tc3 : xa.cell? ⟨qt, 3, none⟩ = some (.int .u64 (P.wrd To 3)) := hbb.cell 3 _ rfl
      clear hbb
      go_wp2_with fail
      refine (attract_any (g.all 1) I To 0 _ _ GH.out (T.out.on W.out)).mono ?_
      rintro e u3 ⟨v3, m3, rfl, ho3, hm3, hb⟩
      obtain ⟨vo3, vk3, rfl, -⟩ := own_at ho3
      replace BQg := Lib.hid (BQg.out.keep (grown_of_below hb none))
      replace BQi := Lib.hid (BQi.out.keep (grown_of_below hb none))
      replace BQt := Lib.hid (BQt.out.keep (grown_of_below hb none))
      replace BQ1 := Lib.hid (BQ1.out.keep (grown_of_below hb none))
      replace BQf := Lib.hid (BQf.out.keep (grown_of_below hb none))
      replace BQh := Lib.hid (BQh.out.keep (grown_of_below hb none))
      replace GF := Lib.hid (GF.out.on hb)
      replace GH := Lib.hid (GH.out.on hb)
      replace W := Lib.hid (W.out.trans (hb.mono W.out.size))
      replace BQ2 := Lib.hid (BQ2.out.keep (grown_of_below hb none))
      obtain ⟨s3, hs3⟩ : ∃ s, P.attOf (g.all 1) I 0 To = s := ⟨_, rfl⟩
      rw [hs3]
      have HS3 := Lib.hid hs3
      clear hb hs3 gc0 gc1 gc2 ic0 ic1 ic2 ic3 tc0 tc1 tc2 tc3
      clear ho3 hm3
      go_upto_region 15 with (fail)
      have bq : Box (u3.alloc (.cells #[.int .u64 (P.wrd s3 0), .int .u64 (P.wrd s3 1), .int .u64 (P.wrd s3 2), .int .u64 (P.wrd s3 3)] 28)) u3.heap.size 28 #[.int .u64 (P.wrd s3 0), .int .u64 (P.wrd s3 1), .int .u64 (P.wrd s3 2), .int .u64 (P.wrd s3 3)] := Box.new _ _ _
      have hgq := World.grownBy_alloc u3 (.cells #[.int .u64 (P.wrd s3 0), .int .u64 (P.wrd s3 1), .int .u64 (P.wrd s3 2), .int .u64 (P.wrd s3 3)] 28) none
      replace BQg := Lib.hid (BQg.out.keep hgq)
      replace BQi := Lib.hid (BQi.out.keep hgq)
      replace BQt := Lib.hid (BQt.out.keep hgq)
      replace BQ1 := Lib.hid (BQ1.out.keep hgq)
      replace BQf := Lib.hid (BQf.out.keep hgq)
      replace BQh := Lib.hid (BQh.out.keep hgq)
      replace GF := Lib.hid (GF.out.on (below_of_grown hgq))
      replace GH := Lib.hid (GH.out.on (below_of_grown hgq))
      replace W := Lib.hid (W.out.trans ((below_of_grown hgq).mono W.out.size))
      replace BQ2 := Lib.hid (BQ2.out.keep hgq)
      generalize (u3.alloc (.cells #[.int .u64 (P.wrd s3 0), .int .u64 (P.wrd s3 1), .int .u64 (P.wrd s3 2), .int .u64 (P.wrd s3 3)] 28)) = xb at bq BQg BQi BQt BQ1 BQf BQh GF GH W BQ2 ⊢
      generalize u3.heap.size = q3 at bq ⊢
      have BQ3 := Lib.hid bq
      clear bq hgq
      have h1 : decide (s3 ||| s1 = s1) = true := decide_eq_true (by
        have h := P.own_less_ HR.out (p := 0) (by omega) I To
        rw [show (1 : Int) - 0 = 1 from rfl, HS3.out, HS1.out] at h
        exact h)
      have h2 : decide (s1 ||| s2 = s2) = true := decide_eq_true (by
        have h := P.own_more_ HR.out (p := 0) (by omega) I To
        rw [HS2.out, HS1.out] at h
        exact h)
      have H1 := Lib.hid h1
      have H2 := Lib.hid h2
      clear h1 h2
      have hbb := BQ1.out
      have yc0 : xb.cell? ⟨q1, 0, none⟩ = some (.int .u64 (P.wrd s1 0)) := hbb.cell 0 _ rfl
      have yc1 : xb.cell? ⟨q1, 1, none⟩ = some (.int .u64 (P.wrd s1 1)) := hbb.cell 1 _ rfl
      have yc2 : xb.cell? ⟨q1, 2, none⟩ = some (.int .u64 (P.wrd s1 2)) := hbb.cell 2 _ rfl
      have yc3 : xb.cell? ⟨q1, 3, none⟩ = some (.int .u64 (P.wrd s1 3)) := hbb.cell 3 _ rfl
      clear hbb
      have hbb := BQ3.out
      have zc0 : xb.cell? ⟨q3, 0, none⟩ = some (.int .u64 (P.wrd s3 0)) := hbb.cell 0 _ rfl
      have zc1 : xb.cell? ⟨q3, 1, none⟩ = some (.int .u64 (P.wrd s3 1)) := hbb.cell 1 _ rfl
      have zc2 : xb.cell? ⟨q3, 2, none⟩ = some (.int .u64 (P.wrd s3 2)) := hbb.cell 2 _ rfl
      have zc3 : xb.cell? ⟨q3, 3, none⟩ = some (.int .u64 (P.wrd s3 3)) := hbb.cell 3 _ rfl
      clear hbb
      go_wp2_with fail
      refine (in_any s3 s1 _).mono ?_
      rintro e u5 ⟨rfl, hb⟩
      rw [H1.out]
      replace BQ1 := Lib.hid (BQ1.out.keep (grown_of_below hb none))
      replace BQ2 := Lib.hid (BQ2.out.keep (grown_of_below hb none))
      replace W := Lib.hid (W.out.trans (hb.mono W.out.size))
      clear hb yc0 yc1 yc2 yc3 zc0 zc1 zc2 zc3
      have hbb := BQ1.out
      have yc0 : u5.cell? ⟨q1, 0, none⟩ = some (.int .u64 (P.wrd s1 0)) := hbb.cell 0 _ rfl
      have yc1 : u5.cell? ⟨q1, 1, none⟩ = some (.int .u64 (P.wrd s1 1)) := hbb.cell 1 _ rfl
      have yc2 : u5.cell? ⟨q1, 2, none⟩ = some (.int .u64 (P.wrd s1 2)) := hbb.cell 2 _ rfl
      have yc3 : u5.cell? ⟨q1, 3, none⟩ = some (.int .u64 (P.wrd s1 3)) := hbb.cell 3 _ rfl
      clear hbb
      have hbb := BQ2.out
      have zc0 : u5.cell? ⟨q2, 0, none⟩ = some (.int .u64 (P.wrd s2 0)) := hbb.cell 0 _ rfl
      have zc1 : u5.cell? ⟨q2, 1, none⟩ = some (.int .u64 (P.wrd s2 1)) := hbb.cell 1 _ rfl
      have zc2 : u5.cell? ⟨q2, 2, none⟩ = some (.int .u64 (P.wrd s2 2)) := hbb.cell 2 _ rfl
      have zc3 : u5.cell? ⟨q2, 3, none⟩ = some (.int .u64 (P.wrd s2 3)) := hbb.cell 3 _ rfl
      clear hbb
      go_wp2_with fail
      refine (in_any s1 s2 _).mono ?_
      rintro e u6 ⟨rfl, hb⟩
      rw [H2.out]
      replace W := Lib.hid (W.out.trans (hb.mono W.out.size))
      clear hb
      go_wp2_with fail
      exact bodyPost_ret (v := .bool true) (by simp [results, Tryd.results7, go_sem]) rfl ⟨rfl, W.out⟩

set_option maxRecDepth 100000 in
set_option maxHeartbeats 4000000 in
theorem owns_1 (g : P.G) (I To : BitVec 256) (v : Value) (w : World) (hv : GameV w v g) (hT : Tab w) (hok : g.ok = true) : Calls Tryd.prog 7 #[v, .agg #[.int .u64 (P.wrd I 0), .int .u64 (P.wrd I 1), .int .u64 (P.wrd I 2), .int .u64 (P.wrd I 3)], .int .i64 1, .agg #[.int .u64 (P.wrd To 0), .int .u64 (P.wrd To 1), .int .u64 (P.wrd To 2), .int .u64 (P.wrd To 3)]] w fun e w' => e = .returned (.bool true) ∧ Below w.heap.size w w' := by
  have hq0 : g.right.2 = 0 := by unfold P.G.ok at hok; exact beq_iff_eq.1 hok
  have hr := (P.G.ok_iff g).1 hok
  have HV := Lib.hid hv
  have HFI := Lib.hid hv.fits
  have hop := hr.prio
  have hmp := hr.moves
  have hmany := hr.many
  have h0 := hr.pos
  obtain ⟨n, hn⟩ : ∃ n, g.owner.length = n := ⟨_, rfl⟩
  rw [hn] at hop hmp hmany h0
  obtain ⟨ba, oa, ka, bb, ob, kb, bc, oc, kc, rfl, hca, -, hcc⟩ := hv.open_ hn hop hmp h0
  have HCA := Lib.hid hca
  have HCC := Lib.hid hcc
  have HR := Lib.hid hr
  have HN := Lib.hid hn
  have HOP := Lib.hid hop
  have HMP := Lib.hid hmp
  clear hca hcc hr hn hop hmp hv
  clear hok
  have T := Lib.hid hT
  clear hT
  go_enter Tryd.func7, Tryd.ntmps7
  go_wp2_with fail
  have bx0 : Box (((w.alloc (.cells #[.slice (some ⟨ba, oa, none⟩) n ka, .slice (some ⟨bb, ob, none⟩) n kb, .slice (some ⟨bc, oc, none⟩) n kc] 25)).alloc (.cells #[.int .u64 (P.wrd I 0), .int .u64 (P.wrd I 1), .int .u64 (P.wrd I 2), .int .u64 (P.wrd I 3)] 28)).alloc (.cells #[.int .u64 (P.wrd To 0), .int .u64 (P.wrd To 1), .int .u64 (P.wrd To 2), .int .u64 (P.wrd To 3)] 28)) (w.heap.size) 25 #[.slice (some ⟨ba, oa, none⟩) n ka, .slice (some ⟨bb, ob, none⟩) n kb, .slice (some ⟨bc, oc, none⟩) n kc] := Box.alloc (Box.alloc (Box.new w 25 #[.slice (some ⟨ba, oa, none⟩) n ka, .slice (some ⟨bb, ob, none⟩) n kb, .slice (some ⟨bc, oc, none⟩) n kc]) (.cells #[.int .u64 (P.wrd I 0), .int .u64 (P.wrd I 1), .int .u64 (P.wrd I 2), .int .u64 (P.wrd I 3)] 28)) (.cells #[.int .u64 (P.wrd To 0), .int .u64 (P.wrd To 1), .int .u64 (P.wrd To 2), .int .u64 (P.wrd To 3)] 28)
  have bx1 : Box (((w.alloc (.cells #[.slice (some ⟨ba, oa, none⟩) n ka, .slice (some ⟨bb, ob, none⟩) n kb, .slice (some ⟨bc, oc, none⟩) n kc] 25)).alloc (.cells #[.int .u64 (P.wrd I 0), .int .u64 (P.wrd I 1), .int .u64 (P.wrd I 2), .int .u64 (P.wrd I 3)] 28)).alloc (.cells #[.int .u64 (P.wrd To 0), .int .u64 (P.wrd To 1), .int .u64 (P.wrd To 2), .int .u64 (P.wrd To 3)] 28)) (w.heap.size + 1) 28 #[.int .u64 (P.wrd I 0), .int .u64 (P.wrd I 1), .int .u64 (P.wrd I 2), .int .u64 (P.wrd I 3)] := by
    have := Box.alloc (Box.new (w.alloc (.cells #[.slice (some ⟨ba, oa, none⟩) n ka, .slice (some ⟨bb, ob, none⟩) n kb, .slice (some ⟨bc, oc, none⟩) n kc] 25)) 28 #[.int .u64 (P.wrd I 0), .int .u64 (P.wrd I 1), .int .u64 (P.wrd I 2), .int .u64 (P.wrd I 3)]) (.cells #[.int .u64 (P.wrd To 0), .int .u64 (P.wrd To 1), .int .u64 (P.wrd To 2), .int .u64 (P.wrd To 3)] 28)
    simpa using this
  have bx2 : Box (((w.alloc (.cells #[.slice (some ⟨ba, oa, none⟩) n ka, .slice (some ⟨bb, ob, none⟩) n kb, .slice (some ⟨bc, oc, none⟩) n kc] 25)).alloc (.cells #[.int .u64 (P.wrd I 0), .int .u64 (P.wrd I 1), .int .u64 (P.wrd I 2), .int .u64 (P.wrd I 3)] 28)).alloc (.cells #[.int .u64 (P.wrd To 0), .int .u64 (P.wrd To 1), .int .u64 (P.wrd To 2), .int .u64 (P.wrd To 3)] 28)) (w.heap.size + 1 + 1) 28 #[.int .u64 (P.wrd To 0), .int .u64 (P.wrd To 1), .int .u64 (P.wrd To 2), .int .u64 (P.wrd To 3)] := by
    have := Box.new ((w.alloc (.cells #[.slice (some ⟨ba, oa, none⟩) n ka, .slice (some ⟨bb, ob, none⟩) n kb, .slice (some ⟨bc, oc, none⟩) n kc] 25)).alloc (.cells #[.int .u64 (P.wrd I 0), .int .u64 (P.wrd I 1), .int .u64 (P.wrd I 2), .int .u64 (P.wrd I 3)] 28)) 28 #[.int .u64 (P.wrd To 0), .int .u64 (P.wrd To 1), .int .u64 (P.wrd To 2), .int .u64 (P.wrd To 3)]
    simpa using this
  have hbq : Below w.heap.size w (((w.alloc (.cells #[.slice (some ⟨ba, oa, none⟩) n ka, .slice (some ⟨bb, ob, none⟩) n kb, .slice (some ⟨bc, oc, none⟩) n kc] 25)).alloc (.cells #[.int .u64 (P.wrd I 0), .int .u64 (P.wrd I 1), .int .u64 (P.wrd I 2), .int .u64 (P.wrd I 3)] 28)).alloc (.cells #[.int .u64 (P.wrd To 0), .int .u64 (P.wrd To 1), .int .u64 (P.wrd To 2), .int .u64 (P.wrd To 3)] 28)) := (((Below.refl _ w).alloc (Nat.le_refl _) _).alloc (by simp) _).alloc (by simp; omega) _
  have lt0 : w.heap.size < w.heap.size + 1 := Nat.lt_succ_self _
  have lt1 : w.heap.size + 1 < w.heap.size + 1 + 1 := Nat.lt_succ_self _
  have hle0 : w.heap.size ≤ w.heap.size := Nat.le_refl _
  generalize (((w.alloc (.cells #[.slice (some ⟨ba, oa, none⟩) n ka, .slice (some ⟨bb, ob, none⟩) n kb, .slice (some ⟨bc, oc, none⟩) n kc] 25)).alloc (.cells #[.int .u64 (P.wrd I 0), .int .u64 (P.wrd I 1), .int .u64 (P.wrd I 2), .int .u64 (P.wrd I 3)] 28)).alloc (.cells #[.int .u64 (P.wrd To 0), .int .u64 (P.wrd To 1), .int .u64 (P.wrd To 2), .int .u64 (P.wrd To 3)] 28)) = w0 at bx0 bx1 bx2 hbq  ⊢
  have BQg := Lib.hid bx0
  have BQi := Lib.hid bx1
  have BQt := Lib.hid bx2
  have W := Lib.hid hbq
  have LTgi := Lib.hid lt0
  have LTit := Lib.hid lt1
  have LEg := Lib.hid hle0
  clear hbq hle0 bx0 bx1 bx2 lt0 lt1
  generalize w.heap.size + 1 + 1 = qt at BQt LTit ⊢
  generalize w.heap.size + 1 = qi at BQi LTit LTgi ⊢
  obtain ⟨qg, hqg⟩ : ∃ qg, w.heap.size = qg := ⟨_, rfl⟩
  rw [hqg] at BQg LTgi ⊢
  have LEg : Hid (w.heap.size ≤ qg) := Lib.hid (by omega)
  clear hqg
  refine (shown_any _ (T.out.on W.out)).mono ?_
  rintro e w1 ⟨rfl, hb⟩
  replace BQg := Lib.hid (BQg.out.keep (grown_of_below hb none))
  replace BQi := Lib.hid (BQi.out.keep (grown_of_below hb none))
  replace BQt := Lib.hid (BQt.out.keep (grown_of_below hb none))
  replace W := Lib.hid (W.out.trans (hb.mono W.out.size))
  clear hb
  have hbb := BQg.out
  have gc0 : w1.cell? ⟨qg, 0, none⟩ = some (.slice (some ⟨ba, oa, none⟩) n ka) := hbb.cell 0 _ rfl
  have gc1 : w1.cell? ⟨qg, 1, none⟩ = some (.slice (some ⟨bb, ob, none⟩) n kb) := hbb.cell 1 _ rfl
  have gc2 : w1.cell? ⟨qg, 2, none⟩ = some (.slice (some ⟨bc, oc, none⟩) n kc) := hbb.cell 2 _ rfl
  clear hbb
  go_wp2_with fail
  refine (right_any g _ _ (HV.out.on W.out)).mono ?_
  rintro e w2 ⟨rfl, hb⟩
  replace BQg := Lib.hid (BQg.out.keep (grown_of_below hb none))
  replace BQi := Lib.hid (BQi.out.keep (grown_of_below hb none))
  replace BQt := Lib.hid (BQt.out.keep (grown_of_below hb none))
  replace W := Lib.hid (W.out.trans (hb.mono W.out.size))
  clear hb gc0 gc1 gc2
  obtain ⟨z, hz⟩ : ∃ z, g.right.2 = z := ⟨_, rfl⟩
  rw [hz] at hq0 ⊢
  have fq : (((z : Nat) : Int) != 0) = false := by rw [bne_eq_false_iff_eq]; omega
  clear hz hq0
  go_upto_region 5 with (fail)
  have hbb := BQg.out
  have gc0 : w2.cell? ⟨qg, 0, none⟩ = some (.slice (some ⟨ba, oa, none⟩) n ka) := hbb.cell 0 _ rfl
  have gc1 : w2.cell? ⟨qg, 1, none⟩ = some (.slice (some ⟨bb, ob, none⟩) n kb) := hbb.cell 1 _ rfl
  have gc2 : w2.cell? ⟨qg, 2, none⟩ = some (.slice (some ⟨bc, oc, none⟩) n kc) := hbb.cell 2 _ rfl
  clear hbb
  have hbb := BQi.out
  have ic0 : w2.cell? ⟨qi, 0, none⟩ = some (.int .u64 (P.wrd I 0)) := hbb.cell 0 _ rfl
  have ic1 : w2.cell? ⟨qi, 1, none⟩ = some (.int .u64 (P.wrd I 1)) := hbb.cell 1 _ rfl
  have ic2 : w2.cell? ⟨qi, 2, none⟩ = some (.int .u64 (P.wrd I 2)) := hbb.cell 2 _ rfl
  have ic3 : w2.cell? ⟨qi, 3, none⟩ = some (.int .u64 (P.wrd I 3)) := hbb.cell 3 _ rfl
  clear hbb
  have hbb := BQt.out
  have tc0 : w2.cell? ⟨qt, 0, none⟩ = some (.int .u64 (P.wrd To 0)) := hbb.cell 0 _ rfl
  have tc1 : w2.cell? ⟨qt, 1, none⟩ = some (.int .u64 (P.wrd To 1)) := hbb.cell 1 _ rfl
  have tc2 : w2.cell? ⟨qt, 2, none⟩ = some (.int .u64 (P.wrd To 2)) := hbb.cell 2 _ rfl
  have tc3 : w2.cell? ⟨qt, 3, none⟩ = some (.int .u64 (P.wrd To 3)) := hbb.cell 3 _ rfl
  clear hbb
  go_wp2_with fail
  refine (attract_any g I To 1 _ _ (HV.out.on W.out) (T.out.on W.out)).mono ?_
  rintro e u1 ⟨v1, m1, rfl, ho1, hm1, hb⟩
  obtain ⟨vo1, vk1, rfl, -⟩ := own_at ho1
  replace BQg := Lib.hid (BQg.out.keep (grown_of_below hb none))
  replace BQi := Lib.hid (BQi.out.keep (grown_of_below hb none))
  replace BQt := Lib.hid (BQt.out.keep (grown_of_below hb none))
  replace W := Lib.hid (W.out.trans (hb.mono W.out.size))
  obtain ⟨s1, hs1⟩ : ∃ s, P.attOf g I 1 To = s := ⟨_, rfl⟩
  rw [hs1]
  have HS1 := Lib.hid hs1
  clear hb hs1 gc0 gc1 gc2 ic0 ic1 ic2 ic3 tc0 tc1 tc2 tc3
  clear ho1 hm1
  go_upto_region 6 with (fail)
  have bq : Box (u1.alloc (.cells #[.int .u64 (P.wrd s1 0), .int .u64 (P.wrd s1 1), .int .u64 (P.wrd s1 2), .int .u64 (P.wrd s1 3)] 28)) u1.heap.size 28 #[.int .u64 (P.wrd s1 0), .int .u64 (P.wrd s1 1), .int .u64 (P.wrd s1 2), .int .u64 (P.wrd s1 3)] := Box.new _ _ _
  have hgq := World.grownBy_alloc u1 (.cells #[.int .u64 (P.wrd s1 0), .int .u64 (P.wrd s1 1), .int .u64 (P.wrd s1 2), .int .u64 (P.wrd s1 3)] 28) none
  replace BQg := Lib.hid (BQg.out.keep hgq)
  replace BQi := Lib.hid (BQi.out.keep hgq)
  replace BQt := Lib.hid (BQt.out.keep hgq)
  replace W := Lib.hid (W.out.trans ((below_of_grown hgq).mono W.out.size))
  generalize (u1.alloc (.cells #[.int .u64 (P.wrd s1 0), .int .u64 (P.wrd s1 1), .int .u64 (P.wrd s1 2), .int .u64 (P.wrd s1 3)] 28)) = x1 at bq BQg BQi BQt W ⊢
  generalize u1.heap.size = q1 at bq ⊢
  have BQ1 := Lib.hid bq
  clear bq hgq
  have HW1 := Lib.hid W.out.size
  have hbb := BQg.out
  have gc0 : x1.cell? ⟨qg, 0, none⟩ = some (.slice (some ⟨ba, oa, none⟩) n ka) := hbb.cell 0 _ rfl
  have gc1 : x1.cell? ⟨qg, 1, none⟩ = some (.slice (some ⟨bb, ob, none⟩) n kb) := hbb.cell 1 _ rfl
  have gc2 : x1.cell? ⟨qg, 2, none⟩ = some (.slice (some ⟨bc, oc, none⟩) n kc) := hbb.cell 2 _ rfl
  clear hbb
  go_wp2_with fail
  have LOf := Lib.hid (Nat.le_refl x1.heap.size)
  refine (copy_any g _ _ (HV.out.on W.out)).mono ?_
  rintro e y1 ⟨fav, fbv, fcv, fL, rfl, ho, hb⟩
  obtain ⟨fa, fka, fb, fkb, fc, fkc, rfl, rfl, rfl⟩ := ho.forms
  rw [HN.out, HOP.out, HMP.out] at ho ⊢
  replace BQg := Lib.hid (BQg.out.keep (grown_of_below hb none))
  replace BQi := Lib.hid (BQi.out.keep (grown_of_below hb none))
  replace BQt := Lib.hid (BQt.out.keep (grown_of_below hb none))
  replace W := Lib.hid (W.out.trans (hb.mono W.out.size))
  replace BQ1 := Lib.hid (BQ1.out.keep (grown_of_below hb none))
  have Of := Lib.hid ho
  have Uf := Lib.hid ho.under
  have SZf := Lib.hid hb.size
  clear hb ho gc0 gc1 gc2
  go_upto_region 7 with (fail)
  have Wfy := Lib.hid (Below.refl y1.heap.size y1)
  have bq : Box (y1.alloc (.cells #[.slice fa n fka, .slice fb n fkb, .slice fc n fkc] 25)) y1.heap.size 25 #[.slice fa n fka, .slice fb n fkb, .slice fc n fkc] := Box.new _ _ _
  have hgq := World.grownBy_alloc y1 (.cells #[.slice fa n fka, .slice fb n fkb, .slice fc n fkc] 25) none
  replace BQg := Lib.hid (BQg.out.keep hgq)
  replace BQi := Lib.hid (BQi.out.keep hgq)
  replace BQt := Lib.hid (BQt.out.keep hgq)
  replace W := Lib.hid (W.out.trans ((below_of_grown hgq).mono W.out.size))
  replace BQ1 := Lib.hid (BQ1.out.keep hgq)
  replace Of := Lib.hid (Of.out.grown hgq)
  replace Wfy := Lib.hid (Wfy.out.trans ((below_of_grown hgq).mono Wfy.out.size))
  generalize (y1.alloc (.cells #[.slice fa n fka, .slice fb n fkb, .slice fc n fkc] 25)) = x2 at bq BQg BQi BQt W BQ1 Of Wfy ⊢
  generalize y1.heap.size = qf at bq ⊢
  have BQf := Lib.hid bq
  clear bq hgq
  have HYf := Lib.hid Wfy.out.size
  clear Wfy
  have hbb := BQg.out
  have gc0 : x2.cell? ⟨qg, 0, none⟩ = some (.slice (some ⟨ba, oa, none⟩) n ka) := hbb.cell 0 _ rfl
  have gc1 : x2.cell? ⟨qg, 1, none⟩ = some (.slice (some ⟨bb, ob, none⟩) n kb) := hbb.cell 1 _ rfl
  have gc2 : x2.cell? ⟨qg, 2, none⟩ = some (.slice (some ⟨bc, oc, none⟩) n kc) := hbb.cell 2 _ rfl
  clear hbb
  go_wp2_with fail
  have LOh := Lib.hid (Nat.le_refl x2.heap.size)
  refine (copy_any g _ _ (HV.out.on W.out)).mono ?_
  rintro e y2 ⟨hav, hbv, hcv, hL, rfl, ho, hb⟩
  obtain ⟨ha, hka, hb_, hkb, hc, hkc, rfl, rfl, rfl⟩ := ho.forms
  rw [HN.out, HOP.out, HMP.out] at ho ⊢
  replace BQg := Lib.hid (BQg.out.keep (grown_of_below hb none))
  replace BQi := Lib.hid (BQi.out.keep (grown_of_below hb none))
  replace BQt := Lib.hid (BQt.out.keep (grown_of_below hb none))
  replace W := Lib.hid (W.out.trans (hb.mono W.out.size))
  replace BQ1 := Lib.hid (BQ1.out.keep (grown_of_below hb none))
  replace BQf := Lib.hid (BQf.out.keep (grown_of_below hb none))
  replace Of := Lib.hid (Of.out.grown (grown_of_below hb none))
  have Oh := Lib.hid ho
  have Uh := Lib.hid ho.under
  have SZh := Lib.hid hb.size
  clear hb ho gc0 gc1 gc2
  go_upto_region 8 with (fail)
  have Why := Lib.hid (Below.refl y2.heap.size y2)
  have bq : Box (y2.alloc (.cells #[.slice ha n hka, .slice hb_ n hkb, .slice hc n hkc] 25)) y2.heap.size 25 #[.slice ha n hka, .slice hb_ n hkb, .slice hc n hkc] := Box.new _ _ _
  have hgq := World.grownBy_alloc y2 (.cells #[.slice ha n hka, .slice hb_ n hkb, .slice hc n hkc] 25) none
  replace BQg := Lib.hid (BQg.out.keep hgq)
  replace BQi := Lib.hid (BQi.out.keep hgq)
  replace BQt := Lib.hid (BQt.out.keep hgq)
  replace W := Lib.hid (W.out.trans ((below_of_grown hgq).mono W.out.size))
  replace BQ1 := Lib.hid (BQ1.out.keep hgq)
  replace BQf := Lib.hid (BQf.out.keep hgq)
  replace Of := Lib.hid (Of.out.grown hgq)
  replace Oh := Lib.hid (Oh.out.grown hgq)
  replace Why := Lib.hid (Why.out.trans ((below_of_grown hgq).mono Why.out.size))
  generalize (y2.alloc (.cells #[.slice ha n hka, .slice hb_ n hkb, .slice hc n hkc] 25)) = x3 at bq BQg BQi BQt W BQ1 BQf Of Oh Why ⊢
  generalize y2.heap.size = qh at bq ⊢
  have BQh := Lib.hid bq
  clear bq hgq
  have HYh := Lib.hid Why.out.size
  clear Why
  have hn0 : 0 < g.owner.length := by have := HN.out; omega
  obtain ⟨pf, kf2, ef, lf1, lf2, -, -⟩ := own_form Of.out.owner hn0
  rw [HN.out] at ef
  obtain ⟨rfl, -, rfl⟩ : fa = some ⟨pf, 0, none⟩ ∧ n = n ∧ fka = kf2 := by injection ef with h1 h2 h3; exact ⟨h1, h2, h3⟩
  obtain ⟨ph, kh2, eh, lh1, lh2, -, -⟩ := own_form Oh.out.owner hn0
  rw [HN.out] at eh
  obtain ⟨rfl, -, rfl⟩ : ha = some ⟨ph, 0, none⟩ ∧ n = n ∧ hka = kh2 := by injection eh with h1 h2 h3; exact ⟨h1, h2, h3⟩
  have hfm : pf < x2.heap.size := Nat.lt_of_lt_of_le (Uf.out 0 _ pf rfl rfl) HYf.out
  have HPF := Lib.hid (show w.heap.size ≤ pf ∧ pf < x2.heap.size ∧ x2.heap.size ≤ ph ∧ ph < x3.heap.size from ⟨by have := HW1.out; omega, hfm, lh1, lh2⟩)
  have HW3 := Lib.hid W.out
  have Lg := Lib.hid BQg.out.lt
  clear ef eh hn0 lf1 lf2 lh1 lh2 hfm
  go_wp2_with fail
  go_loopw [16] (fun i wr => ∃ j : Nat, j ≤ n ∧ i = .int .i64 (j : Int) ∧ Rk.Keeps (KX x3.heap.size [pf, ph]) x3 wr ∧ OwnG wr x1.heap.size (.slice (some ⟨pf, 0, none⟩) n fka) (.slice fb n fkb) (.slice fc n fkc) fL (g.given 1 j) ∧ OwnG wr x2.heap.size (.slice (some ⟨ph, 0, none⟩) n hka) (.slice hb_ n hkb) (.slice hc n hkc) hL (g.given 0 j)) (fun i _ => n - (intOf i).toNat)
  case atStart => exact ⟨0, Nat.zero_le _, rfl, Rk.Keeps.refl _ _, by rw [P.G.given_zero]; exact Of.out, by rw [P.G.given_zero]; exact Oh.out⟩
  case round =>
    obtain ⟨j, hj, rfl, hk, hof, hoh⟩ := hrel
    have HK := Lib.hid hk
    have HOF := Lib.hid hof
    have HOH := Lib.hid hoh
    clear hk hof hoh
    have hj0 : (0 : Int) ≤ (j : Int) := Int.natCast_nonneg _
    have HX : Hid (∀ x ∈ [pf, ph], w.heap.size ≤ x) := Lib.hid (fun x hx => by
      have h1 := HPF.out
      have h2 := HW3.out.size
      simp only [List.mem_cons, List.not_mem_nil, or_false] at hx
      rcases hx with rfl | rfl <;> omega)
    have hbx : ∀ {q : Nat} {t : TypeId} {cs : Array Value}, Box x3 q t cs → t ≠ 3 → Box wr q t cs := fun {q t cs} h ht => kx_box HK.out h h.lt (fun e => by
      simp only [List.mem_cons, List.not_mem_nil, or_false] at e
      rcases e with rfl | rfl
      · exact own_box Of.out.owner h (fun e => ht e.symm) rfl
      · exact own_box Oh.out.owner h (fun e => ht e.symm) rfl)
    have BQg := Lib.hid (hbx BQg.out (by decide))
    have BQi := Lib.hid (hbx BQi.out (by decide))
    have BQt := Lib.hid (hbx BQt.out (by decide))
    have BQ1 := Lib.hid (hbx BQ1.out (by decide))
    have BQf := Lib.hid (hbx BQf.out (by decide))
    have BQh := Lib.hid (hbx BQh.out (by decide))
    have W := Lib.hid (HW3.out.trans (kx_below HK.out HX.out HW3.out.size (Nat.le_refl _)))
    clear hbx
    have hbb := BQg.out
    have gc0 : wr.cell? ⟨qg, 0, none⟩ = some (.slice (some ⟨ba, oa, none⟩) n ka) := hbb.cell 0 _ rfl
    have gc1 : wr.cell? ⟨qg, 1, none⟩ = some (.slice (some ⟨bb, ob, none⟩) n kb) := hbb.cell 1 _ rfl
    have gc2 : wr.cell? ⟨qg, 2, none⟩ = some (.slice (some ⟨bc, oc, none⟩) n kc) := hbb.cell 2 _ rfl
    clear hbb
    by_cases hlt : j < n
    · have fj : decide ((j : Int) < (n : Int)) = true := decide_eq_true (by omega)
      have hji : (j : Int) < (n : Int) := by omega
      have hbb := BQf.out
      have fc0 : wr.cell? ⟨qf, 0, none⟩ = some (.slice (some ⟨pf, 0, none⟩) n fka) := hbb.cell 0 _ rfl
      have fc1 : wr.cell? ⟨qf, 1, none⟩ = some (.slice fb n fkb) := hbb.cell 1 _ rfl
      have fc2 : wr.cell? ⟨qf, 2, none⟩ = some (.slice fc n fkc) := hbb.cell 2 _ rfl
      clear hbb
      obtain ⟨z1, cf, ff⟩ := HOF.out.cellO (j := j) (by rw [P.G.given_len, HN.out]; exact hlt)
      have HOF2 := Lib.hid (HOF.out.give (by rw [HN.out]; exact hlt))
      have HOH1 := Lib.hid (HOH.out.below_ (x := pf) HPF.out.2.1 j (.int .i64 1))
      have HK2 := Lib.hid (HK.out.trans (kx_set wr (x := pf) (.inl (by simp)) j (.int .i64 1)))
      replace BQh := Lib.hid (BQh.out.far (p := ⟨pf, j, none⟩) (fun e => own_box HOF.out.owner BQh.out (by decide) (by show some pf = some qh; rw [e])) (.int .i64 1))
      go_upto_region 12 with (fail)
      clear cf ff fc0 fc1 fc2 gc0 gc1 gc2
      generalize (wr.setCell ⟨pf, j, none⟩ (.int .i64 1)) = wv at HOF2 HOH1 HK2 BQh ⊢
      obtain ⟨z2, cf, ff⟩ := HOH1.out.cellO (j := j) (by rw [P.G.given_len, HN.out]; exact hlt)
      have hbb := BQh.out
      have hc0 : wv.cell? ⟨qh, 0, none⟩ = some (.slice (some ⟨ph, 0, none⟩) n hka) := hbb.cell 0 _ rfl
      have hc1 : wv.cell? ⟨qh, 1, none⟩ = some (.slice hb_ n hkb) := hbb.cell 1 _ rfl
      have hc2 : wv.cell? ⟨qh, 2, none⟩ = some (.slice hc n hkc) := hbb.cell 2 _ rfl
      clear hbb
      have HOH2 := Lib.hid (HOH1.out.give (by rw [HN.out]; exact hlt))
      have HOF3 := Lib.hid (HOF2.out.above (M := x2.heap.size) (fun i u q hu hq => Nat.lt_of_lt_of_le (Uf.out i u q hu hq) HYf.out) HPF.out.2.2.1 j (.int .i64 0))
      have HK3 := Lib.hid (HK2.out.trans (kx_set wv (x := ph) (.inl (by simp)) j (.int .i64 0)))
      go_wp2_with fail
      go_roundw
      case rel => exact ⟨j + 1, by omega, by go_num, HK3.out, HOF3.out, HOH2.out⟩
      case measure => simp [intOf]; omega
    · have fj : decide ((j : Int) < (n : Int)) = false := decide_eq_false (by omega)
      have hjn : j = n := by omega
      have GF := Lib.hid (show GameV wr (.agg #[.slice (some ⟨pf, 0, none⟩) n fka, .slice fb n fkb, .slice fc n fkc]) (g.all 1) from by
        have h := HOF.out
        rw [P.G.given_all g 1 j (by have := HN.out; omega)] at h
        exact h.game (fits_all HFI.out 1))
      have GH := Lib.hid (show GameV wr (.agg #[.slice (some ⟨ph, 0, none⟩) n hka, .slice hb_ n hkb, .slice hc n hkc]) (g.all 0) from by
        have h := HOH.out
        rw [P.G.given_all g 0 j (by have := HN.out; omega)] at h
        exact h.game (fits_all HFI.out 0))
      clear hjn
      go_upto_region 13 with (fail)
      clear gc0 gc1 gc2
      have hbb := BQf.out
      have gc0 : wr.cell? ⟨qf, 0, none⟩ = some (.slice (some ⟨pf, 0, none⟩) n fka) := hbb.cell 0 _ rfl
      have gc1 : wr.cell? ⟨qf, 1, none⟩ = some (.slice fb n fkb) := hbb.cell 1 _ rfl
      have gc2 : wr.cell? ⟨qf, 2, none⟩ = some (.slice fc n fkc) := hbb.cell 2 _ rfl
      clear hbb
      have hbb := BQi.out
      have ic0 : wr.cell? ⟨qi, 0, none⟩ = some (.int .u64 (P.wrd I 0)) := hbb.cell 0 _ rfl
      have ic1 : wr.cell? ⟨qi, 1, none⟩ = some (.int .u64 (P.wrd I 1)) := hbb.cell 1 _ rfl
      have ic2 : wr.cell? ⟨qi, 2, none⟩ = some (.int .u64 (P.wrd I 2)) := hbb.cell 2 _ rfl
      have ic3 : wr.cell? ⟨qi, 3, none⟩ = some (.int .u64 (P.wrd I 3)) := hbb.cell 3 _ rfl
      clear hbb
      have hbb := BQt.out
      have tc0 : wr.cell? ⟨qt, 0, none⟩ = some (.int .u64 (P.wrd To 0)) := hbb.cell 0 _ rfl
      have tc1 : wr.cell? ⟨qt, 1, none⟩ = some (.int .u64 (P.wrd To 1)) := hbb.cell 1 _ rfl
      have tc2 : wr.cell? ⟨qt, 2, none⟩ = some (.int .u64 (P.wrd To 2)) := hbb.cell 2 _ rfl
      have tc3 : wr.cell? ⟨qt, 3, none⟩ = some (.int .u64 (P.wrd To 3)) := hbb.cell 3 _ rfl
      clear hbb
      go_wp2_with fail
      refine (attract_any (g.all 1) I To 1 _ _ GF.out (T.out.on W.out)).mono ?_
      rintro e u2 ⟨v2, m2, rfl, ho2, hm2, hb⟩
      obtain ⟨vo2, vk2, rfl, -⟩ := own_at ho2
      replace BQg := Lib.hid (BQg.out.keep (grown_of_below hb none))
      replace BQi := Lib.hid (BQi.out.keep (grown_of_below hb none))
      replace BQt := Lib.hid (BQt.out.keep (grown_of_below hb none))
      replace BQ1 := Lib.hid (BQ1.out.keep (grown_of_below hb none))
      replace BQf := Lib.hid (BQf.out.keep (grown_of_below hb none))
      replace BQh := Lib.hid (BQh.out.keep (grown_of_below hb none))
      replace GF := Lib.hid (GF.out.on hb)
      replace GH := Lib.hid (GH.out.on hb)
      replace W := Lib.hid (W.out.trans (hb.mono W.out.size))
      obtain ⟨s2, hs2⟩ : ∃ s, P.attOf (g.all 1) I 1 To = s := ⟨_, rfl⟩
      rw [hs2]
      have HS2 := Lib.hid hs2
      clear hb hs2 gc0 gc1 gc2 ic0 ic1 ic2 ic3 tc0 tc1 tc2 tc3
      clear ho2 hm2
      go_upto_region 14 with (fail)
      have bq : Box (u2.alloc (.cells #[.int .u64 (P.wrd s2 0), .int .u64 (P.wrd s2 1), .int .u64 (P.wrd s2 2), .int .u64 (P.wrd s2 3)] 28)) u2.heap.size 28 #[.int .u64 (P.wrd s2 0), .int .u64 (P.wrd s2 1), .int .u64 (P.wrd s2 2), .int .u64 (P.wrd s2 3)] := Box.new _ _ _
      have hgq := World.grownBy_alloc u2 (.cells #[.int .u64 (P.wrd s2 0), .int .u64 (P.wrd s2 1), .int .u64 (P.wrd s2 2), .int .u64 (P.wrd s2 3)] 28) none
      replace BQg := Lib.hid (BQg.out.keep hgq)
      replace BQi := Lib.hid (BQi.out.keep hgq)
      replace BQt := Lib.hid (BQt.out.keep hgq)
      replace BQ1 := Lib.hid (BQ1.out.keep hgq)
      replace BQf := Lib.hid (BQf.out.keep hgq)
      replace BQh := Lib.hid (BQh.out.keep hgq)
      replace GF := Lib.hid (GF.out.on (below_of_grown hgq))
      replace GH := Lib.hid (GH.out.on (below_of_grown hgq))
      replace W := Lib.hid (W.out.trans ((below_of_grown hgq).mono W.out.size))
      generalize (u2.alloc (.cells #[.int .u64 (P.wrd s2 0), .int .u64 (P.wrd s2 1), .int .u64 (P.wrd s2 2), .int .u64 (P.wrd s2 3)] 28)) = xa at bq BQg BQi BQt BQ1 BQf BQh GF GH W ⊢
      generalize u2.heap.size = q2 at bq ⊢
      have BQ2 := Lib.hid bq
      clear bq hgq
      have hbb := BQh.out
      have gc0 : xa.cell? ⟨qh, 0, none⟩ = some (.slice (some ⟨ph, 0, none⟩) n hka) := hbb.cell 0 _ rfl
      have gc1 : xa.cell? ⟨qh, 1, none⟩ = some (.slice hb_ n hkb) := hbb.cell 1 _ rfl
      have gc2 : xa.cell? ⟨qh, 2, none⟩ = some (.slice hc n hkc) := hbb.cell 2 _ rfl
      clear hbb
      have hbb := BQi.out
      have ic0 : xa.cell? ⟨qi, 0, none⟩ = some (.int .u64 (P.wrd I 0)) := hbb.cell 0 _ rfl
      have ic1 : xa.cell? ⟨qi, 1, none⟩ = some (.int .u64 (P.wrd I 1)) := hbb.cell 1 _ rfl
      have ic2 : xa.cell? ⟨qi, 2, none⟩ = some (.int .u64 (P.wrd I 2)) := hbb.cell 2 _ rfl
      have ic3 : xa.cell? ⟨qi, 3, none⟩ = some (.int .u64 (P.wrd I 3)) := hbb.cell 3 _ rfl
      clear hbb
      have hbb := BQt.out
      have tc0 : xa.cell? ⟨qt, 0, none⟩ = some (.int .u64 (P.wrd To 0)) := hbb.cell 0 _ rfl
      have tc1 : xa.cell? ⟨qt, 1, none⟩ = some (.int .u64 (P.wrd To 1)) := hbb.cell 1 _ rfl
      have tc2 : xa.cell? ⟨qt, 2, none⟩ = some (.int .u64 (P.wrd To 2)) := hbb.cell 2 _ rfl
      have tc3 : xa.cell? ⟨qt, 3, none⟩ = some (.int .u64 (P.wrd To 3)) := hbb.cell 3 _ rfl
      clear hbb
      go_wp2_with fail
      refine (attract_any (g.all 0) I To 1 _ _ GH.out (T.out.on W.out)).mono ?_
      rintro e u3 ⟨v3, m3, rfl, ho3, hm3, hb⟩
      obtain ⟨vo3, vk3, rfl, -⟩ := own_at ho3
      replace BQg := Lib.hid (BQg.out.keep (grown_of_below hb none))
      replace BQi := Lib.hid (BQi.out.keep (grown_of_below hb none))
      replace BQt := Lib.hid (BQt.out.keep (grown_of_below hb none))
      replace BQ1 := Lib.hid (BQ1.out.keep (grown_of_below hb none))
      replace BQf := Lib.hid (BQf.out.keep (grown_of_below hb none))
      replace BQh := Lib.hid (BQh.out.keep (grown_of_below hb none))
      replace GF := Lib.hid (GF.out.on hb)
      replace GH := Lib.hid (GH.out.on hb)
      replace W := Lib.hid (W.out.trans (hb.mono W.out.size))
      replace BQ2 := Lib.hid (BQ2.out.keep (grown_of_below hb none))
      obtain ⟨s3, hs3⟩ : ∃ s, P.attOf (g.all 0) I 1 To = s := ⟨_, rfl⟩
      rw [hs3]
      have HS3 := Lib.hid hs3
      clear hb hs3 gc0 gc1 gc2 ic0 ic1 ic2 ic3 tc0 tc1 tc2 tc3
      clear ho3 hm3
      go_upto_region 15 with (fail)
      have bq : Box (u3.alloc (.cells #[.int .u64 (P.wrd s3 0), .int .u64 (P.wrd s3 1), .int .u64 (P.wrd s3 2), .int .u64 (P.wrd s3 3)] 28)) u3.heap.size 28 #[.int .u64 (P.wrd s3 0), .int .u64 (P.wrd s3 1), .int .u64 (P.wrd s3 2), .int .u64 (P.wrd s3 3)] := Box.new _ _ _
      have hgq := World.grownBy_alloc u3 (.cells #[.int .u64 (P.wrd s3 0), .int .u64 (P.wrd s3 1), .int .u64 (P.wrd s3 2), .int .u64 (P.wrd s3 3)] 28) none
      replace BQg := Lib.hid (BQg.out.keep hgq)
      replace BQi := Lib.hid (BQi.out.keep hgq)
      replace BQt := Lib.hid (BQt.out.keep hgq)
      replace BQ1 := Lib.hid (BQ1.out.keep hgq)
      replace BQf := Lib.hid (BQf.out.keep hgq)
      replace BQh := Lib.hid (BQh.out.keep hgq)
      replace GF := Lib.hid (GF.out.on (below_of_grown hgq))
      replace GH := Lib.hid (GH.out.on (below_of_grown hgq))
      replace W := Lib.hid (W.out.trans ((below_of_grown hgq).mono W.out.size))
      replace BQ2 := Lib.hid (BQ2.out.keep hgq)
      generalize (u3.alloc (.cells #[.int .u64 (P.wrd s3 0), .int .u64 (P.wrd s3 1), .int .u64 (P.wrd s3 2), .int .u64 (P.wrd s3 3)] 28)) = xb at bq BQg BQi BQt BQ1 BQf BQh GF GH W BQ2 ⊢
      generalize u3.heap.size = q3 at bq ⊢
      have BQ3 := Lib.hid bq
      clear bq hgq
      have h1 : decide (s3 ||| s1 = s1) = true := decide_eq_true (by
        have h := P.own_less_ HR.out (p := 1) (by omega) I To
        rw [show (1 : Int) - 1 = 0 from rfl, HS3.out, HS1.out] at h
        exact h)
      have h2 : decide (s1 ||| s2 = s2) = true := decide_eq_true (by
        have h := P.own_more_ HR.out (p := 1) (by omega) I To
        rw [HS2.out, HS1.out] at h
        exact h)
      have H1 := Lib.hid h1
      have H2 := Lib.hid h2
      clear h1 h2
      have hbb := BQ1.out
      have yc0 : xb.cell? ⟨q1, 0, none⟩ = some (.int .u64 (P.wrd s1 0)) := hbb.cell 0 _ rfl
      have yc1 : xb.cell? ⟨q1, 1, none⟩ = some (.int .u64 (P.wrd s1 1)) := hbb.cell 1 _ rfl
      have yc2 : xb.cell? ⟨q1, 2, none⟩ = some (.int .u64 (P.wrd s1 2)) := hbb.cell 2 _ rfl
      have yc3 : xb.cell? ⟨q1, 3, none⟩ = some (.int .u64 (P.wrd s1 3)) := hbb.cell 3 _ rfl
      clear hbb
      have hbb := BQ3.out
      have zc0 : xb.cell? ⟨q3, 0, none⟩ = some (.int .u64 (P.wrd s3 0)) := hbb.cell 0 _ rfl
      have zc1 : xb.cell? ⟨q3, 1, none⟩ = some (.int .u64 (P.wrd s3 1)) := hbb.cell 1 _ rfl
      have zc2 : xb.cell? ⟨q3, 2, none⟩ = some (.int .u64 (P.wrd s3 2)) := hbb.cell 2 _ rfl
      have zc3 : xb.cell? ⟨q3, 3, none⟩ = some (.int .u64 (P.wrd s3 3)) := hbb.cell 3 _ rfl
      clear hbb
      go_wp2_with fail
      refine (in_any s3 s1 _).mono ?_
      rintro e u5 ⟨rfl, hb⟩
      rw [H1.out]
      replace BQ1 := Lib.hid (BQ1.out.keep (grown_of_below hb none))
      replace BQ2 := Lib.hid (BQ2.out.keep (grown_of_below hb none))
      replace W := Lib.hid (W.out.trans (hb.mono W.out.size))
      clear hb yc0 yc1 yc2 yc3 zc0 zc1 zc2 zc3
      have hbb := BQ1.out
      have yc0 : u5.cell? ⟨q1, 0, none⟩ = some (.int .u64 (P.wrd s1 0)) := hbb.cell 0 _ rfl
      have yc1 : u5.cell? ⟨q1, 1, none⟩ = some (.int .u64 (P.wrd s1 1)) := hbb.cell 1 _ rfl
      have yc2 : u5.cell? ⟨q1, 2, none⟩ = some (.int .u64 (P.wrd s1 2)) := hbb.cell 2 _ rfl
      have yc3 : u5.cell? ⟨q1, 3, none⟩ = some (.int .u64 (P.wrd s1 3)) := hbb.cell 3 _ rfl
      clear hbb
      have hbb := BQ2.out
      have zc0 : u5.cell? ⟨q2, 0, none⟩ = some (.int .u64 (P.wrd s2 0)) := hbb.cell 0 _ rfl
      have zc1 : u5.cell? ⟨q2, 1, none⟩ = some (.int .u64 (P.wrd s2 1)) := hbb.cell 1 _ rfl
      have zc2 : u5.cell? ⟨q2, 2, none⟩ = some (.int .u64 (P.wrd s2 2)) := hbb.cell 2 _ rfl
      have zc3 : u5.cell? ⟨q2, 3, none⟩ = some (.int .u64 (P.wrd s2 3)) := hbb.cell 3 _ rfl
      clear hbb
      go_wp2_with fail
      refine (in_any s1 s2 _).mono ?_
      rintro e u6 ⟨rfl, hb⟩
      rw [H2.out]
      replace W := Lib.hid (W.out.trans (hb.mono W.out.size))
      clear hb
      go_wp2_with fail
      exact bodyPost_ret (v := .bool true) (by simp [results, Tryd.results7, go_sem]) rfl ⟨rfl, W.out⟩

theorem owns_any (g : P.G) (I To : BitVec 256) (p : Int) (v : Value) (w : World) (hv : GameV w v g) (hT : Tab w) : Calls Tryd.prog 7 #[v, .agg #[.int .u64 (P.wrd I 0), .int .u64 (P.wrd I 1), .int .u64 (P.wrd I 2), .int .u64 (P.wrd I 3)], .int .i64 p, .agg #[.int .u64 (P.wrd To 0), .int .u64 (P.wrd To 1), .int .u64 (P.wrd To 2), .int .u64 (P.wrd To 3)]] w fun e w' => e = .returned (.bool true) ∧ Below w.heap.size w w' := by
  by_cases hok : g.ok = true
  · by_cases h0 : p = 0
    · subst h0; exact owns_0 g I To v w hv hT hok
    · by_cases h1 : p = 1
      · subst h1; exact owns_1 g I To v w hv hT hok
      · exact owns_away g I To p v w hv hT hok h0 h1
  · exact owns_wrong g I To p v w hv hT (by simpa using hok)
end W
end Go.Proofs.YtpfponiidppldaaDoor
