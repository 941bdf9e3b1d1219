/- DecompTwo: the walk. -/
import Derived.Test.YtpjmboonaciplaaDoorShown13
import Derived.Test.YtpjmboonaciplaaDoorGrwM
import Derived.Test.YtpjmboonaciplaaDoorCls
import Derived.Test.YtpjmboonaciplaaDoorKeep
import Derived.Test.YtpjmboonaciplaaDoorSam
import Derived.Deep.Cut
import Derived.Lib.Hide
import Derived.Deep.QuietTactic
import Derived.BigQuiet
import Derived.StillTailTactics
namespace Go.Proofs.YtpjmboonaciplaaDoor
open Go.RowKit
namespace W

set_option maxRecDepth 100000 in
set_option maxHeartbeats 4000000 in
theorem two_wrong0 (g h : P.G) (hok : g.ok = false) (v u : Value) (w : World) (hv : GameV w v g) (hu : GameV w u h) (hT : Tab w) : Calls Tryd.prog 10 #[v, u] w fun e w' => e = .returned (.bool true) ∧ Below w.heap.size w w' := by
  have hq0 : g.right.2 ≠ 0 := by unfold P.G.ok at hok; exact beq_eq_false_iff_ne.1 hok
  have hp0 : True := trivial
  have HV := Lib.hid hv
  have HU := Lib.hid hu
  have T := Lib.hid hT
  obtain ⟨av, b, c, rfl, ⟨a, ac, rfl, -⟩, -⟩ := hv
  obtain ⟨av2, b2, c2, rfl, ⟨a2, bc, rfl, -⟩, -⟩ := hu
  obtain ⟨an, han⟩ : ∃ n, g.owner.length = n := ⟨_, rfl⟩
  obtain ⟨bn, hbn⟩ : ∃ n, h.owner.length = n := ⟨_, rfl⟩
  rw [han] at HV ⊢
  rw [hbn] at HU ⊢
  clear hok hT han hbn
  go_enter Tryd.func10, Tryd.ntmps10
  go_wp2_with fail
  have bx0 : Box ((w.alloc (.cells #[.slice a an ac, b, c] 25)).alloc (.cells #[.slice a2 bn bc, b2, c2] 25)) (w.heap.size) 25 #[.slice a an ac, b, c] := Box.alloc (Box.new w 25 #[.slice a an ac, b, c]) (.cells #[.slice a2 bn bc, b2, c2] 25)
  have bx1 : Box ((w.alloc (.cells #[.slice a an ac, b, c] 25)).alloc (.cells #[.slice a2 bn bc, b2, c2] 25)) (w.heap.size + 1) 25 #[.slice a2 bn bc, b2, c2] := by
    have := Box.new (w.alloc (.cells #[.slice a an ac, b, c] 25)) 25 #[.slice a2 bn bc, b2, c2]
    simpa using this
  have hbq : Below w.heap.size w ((w.alloc (.cells #[.slice a an ac, b, c] 25)).alloc (.cells #[.slice a2 bn bc, b2, c2] 25)) := ((Below.refl _ w).alloc (Nat.le_refl _) _).alloc (by simp) _
  have lt0 : w.heap.size < w.heap.size + 1 := Nat.lt_succ_self _
  have hle0 : w.heap.size ≤ w.heap.size := Nat.le_refl _
  generalize ((w.alloc (.cells #[.slice a an ac, b, c] 25)).alloc (.cells #[.slice a2 bn bc, b2, c2] 25)) = w0 at bx0 bx1 hbq  ⊢
  have BQg := Lib.hid bx0
  have BQe := Lib.hid bx1
  have W := Lib.hid hbq
  have LTge := Lib.hid lt0
  have LEg := Lib.hid hle0
  clear hbq hle0 bx0 bx1 lt0
  generalize w.heap.size + 1 = qe at BQe LTge ⊢
  obtain ⟨qg, hqg⟩ : ∃ qg, w.heap.size = qg := ⟨_, rfl⟩
  rw [hqg] at BQg LTge ⊢
  have LEg : Hid (w.heap.size ≤ qg) := Lib.hid (by omega)
  clear hqg
  refine (shown_any w0 (T.out.on W.out)).mono ?_
  rintro e w1 ⟨rfl, hb⟩
  replace BQg := Lib.hid (BQg.out.keep (grown_of_below hb none))
  replace BQe := Lib.hid (BQe.out.keep (grown_of_below hb none))
  replace W := Lib.hid (W.out.trans (hb.mono W.out.size))
  clear hb
  have hbb := BQg.out
  have gc0 : w1.cell? ⟨qg, 0, none⟩ = some (.slice a an ac) := hbb.cell 0 _ rfl
  have gc1 : w1.cell? ⟨qg, 1, none⟩ = some b := hbb.cell 1 _ rfl
  have gc2 : w1.cell? ⟨qg, 2, none⟩ = some c := hbb.cell 2 _ rfl
  clear hbb
  go_wp2_with fail
  clear gc0 gc1 gc2
  refine (right_any g _ _ (HV.out.on W.out)).mono ?_
  rintro e w2 ⟨rfl, hb⟩
  replace BQg := Lib.hid (BQg.out.keep (grown_of_below hb none))
  replace BQe := Lib.hid (BQe.out.keep (grown_of_below hb none))
  replace W := Lib.hid (W.out.trans (hb.mono W.out.size))
  clear hb
  obtain ⟨z, hz⟩ : ∃ z, g.right.2 = z := ⟨_, rfl⟩
  rw [hz] at hq0 ⊢
  have fq : (((z : Nat) : Int) != 0) = true := by rw [bne_iff_ne]; omega
  clear hz hq0
  have hbb := BQe.out
  have ec0 : w2.cell? ⟨qe, 0, none⟩ = some (.slice a2 bn bc) := hbb.cell 0 _ rfl
  have ec1 : w2.cell? ⟨qe, 1, none⟩ = some b2 := hbb.cell 1 _ rfl
  have ec2 : w2.cell? ⟨qe, 2, none⟩ = some c2 := hbb.cell 2 _ rfl
  clear hbb
  go_wp2_with fail
  clear ec0 ec1 ec2
  refine (right_any h _ _ (HU.out.on W.out)).mono ?_
  rintro e w3 ⟨rfl, hb⟩
  replace BQg := Lib.hid (BQg.out.keep (grown_of_below hb none))
  replace BQe := Lib.hid (BQe.out.keep (grown_of_below hb none))
  replace W := Lib.hid (W.out.trans (hb.mono W.out.size))
  clear hb
  obtain ⟨y, hy⟩ : ∃ y, h.right.2 = y := ⟨_, rfl⟩
  rw [hy]
  clear hy hp0
  have hbb := BQg.out
  have gc0 : w3.cell? ⟨qg, 0, none⟩ = some (.slice a an ac) := hbb.cell 0 _ rfl
  have gc1 : w3.cell? ⟨qg, 1, none⟩ = some b := hbb.cell 1 _ rfl
  have gc2 : w3.cell? ⟨qg, 2, none⟩ = some c := hbb.cell 2 _ rfl
  clear hbb
  have hbb := BQe.out
  have ec0 : w3.cell? ⟨qe, 0, none⟩ = some (.slice a2 bn bc) := hbb.cell 0 _ rfl
  have ec1 : w3.cell? ⟨qe, 1, none⟩ = some b2 := hbb.cell 1 _ rfl
  have ec2 : w3.cell? ⟨qe, 2, none⟩ = some c2 := hbb.cell 2 _ rfl
  clear hbb
  go_wp2_with fail
  exact bodyPost_ret (v := .bool true) (by simp [results, Tryd.results10, go_sem]) rfl ⟨rfl, W.out⟩

set_option maxRecDepth 100000 in
set_option maxHeartbeats 4000000 in
theorem two_wrong1 (g h : P.G) (hok : h.ok = false) (gr : g.Right) (v u : Value) (w : World) (hv : GameV w v g) (hu : GameV w u h) (hT : Tab w) : Calls Tryd.prog 10 #[v, u] w fun e w' => e = .returned (.bool true) ∧ Below w.heap.size w w' := by
  have hq0 : g.right.2 = 0 := by have hok2 := (P.G.ok_iff g).2 gr; unfold P.G.ok at hok2; exact beq_iff_eq.1 hok2
  have hp0 : h.right.2 ≠ 0 := by unfold P.G.ok at hok; exact beq_eq_false_iff_ne.1 hok
  have HV := Lib.hid hv
  have HU := Lib.hid hu
  have T := Lib.hid hT
  obtain ⟨av, b, c, rfl, ⟨a, ac, rfl, -⟩, -⟩ := hv
  obtain ⟨av2, b2, c2, rfl, ⟨a2, bc, rfl, -⟩, -⟩ := hu
  obtain ⟨an, han⟩ : ∃ n, g.owner.length = n := ⟨_, rfl⟩
  obtain ⟨bn, hbn⟩ : ∃ n, h.owner.length = n := ⟨_, rfl⟩
  rw [han] at HV ⊢
  rw [hbn] at HU ⊢
  clear hok hT han hbn
  go_enter Tryd.func10, Tryd.ntmps10
  go_wp2_with fail
  have bx0 : Box ((w.alloc (.cells #[.slice a an ac, b, c] 25)).alloc (.cells #[.slice a2 bn bc, b2, c2] 25)) (w.heap.size) 25 #[.slice a an ac, b, c] := Box.alloc (Box.new w 25 #[.slice a an ac, b, c]) (.cells #[.slice a2 bn bc, b2, c2] 25)
  have bx1 : Box ((w.alloc (.cells #[.slice a an ac, b, c] 25)).alloc (.cells #[.slice a2 bn bc, b2, c2] 25)) (w.heap.size + 1) 25 #[.slice a2 bn bc, b2, c2] := by
    have := Box.new (w.alloc (.cells #[.slice a an ac, b, c] 25)) 25 #[.slice a2 bn bc, b2, c2]
    simpa using this
  have hbq : Below w.heap.size w ((w.alloc (.cells #[.slice a an ac, b, c] 25)).alloc (.cells #[.slice a2 bn bc, b2, c2] 25)) := ((Below.refl _ w).alloc (Nat.le_refl _) _).alloc (by simp) _
  have lt0 : w.heap.size < w.heap.size + 1 := Nat.lt_succ_self _
  have hle0 : w.heap.size ≤ w.heap.size := Nat.le_refl _
  generalize ((w.alloc (.cells #[.slice a an ac, b, c] 25)).alloc (.cells #[.slice a2 bn bc, b2, c2] 25)) = w0 at bx0 bx1 hbq  ⊢
  have BQg := Lib.hid bx0
  have BQe := Lib.hid bx1
  have W := Lib.hid hbq
  have LTge := Lib.hid lt0
  have LEg := Lib.hid hle0
  clear hbq hle0 bx0 bx1 lt0
  generalize w.heap.size + 1 = qe at BQe LTge ⊢
  obtain ⟨qg, hqg⟩ : ∃ qg, w.heap.size = qg := ⟨_, rfl⟩
  rw [hqg] at BQg LTge ⊢
  have LEg : Hid (w.heap.size ≤ qg) := Lib.hid (by omega)
  clear hqg
  refine (shown_any w0 (T.out.on W.out)).mono ?_
  rintro e w1 ⟨rfl, hb⟩
  replace BQg := Lib.hid (BQg.out.keep (grown_of_below hb none))
  replace BQe := Lib.hid (BQe.out.keep (grown_of_below hb none))
  replace W := Lib.hid (W.out.trans (hb.mono W.out.size))
  clear hb
  have hbb := BQg.out
  have gc0 : w1.cell? ⟨qg, 0, none⟩ = some (.slice a an ac) := hbb.cell 0 _ rfl
  have gc1 : w1.cell? ⟨qg, 1, none⟩ = some b := hbb.cell 1 _ rfl
  have gc2 : w1.cell? ⟨qg, 2, none⟩ = some c := hbb.cell 2 _ rfl
  clear hbb
  go_wp2_with fail
  clear gc0 gc1 gc2
  refine (right_any g _ _ (HV.out.on W.out)).mono ?_
  rintro e w2 ⟨rfl, hb⟩
  replace BQg := Lib.hid (BQg.out.keep (grown_of_below hb none))
  replace BQe := Lib.hid (BQe.out.keep (grown_of_below hb none))
  replace W := Lib.hid (W.out.trans (hb.mono W.out.size))
  clear hb
  obtain ⟨z, hz⟩ : ∃ z, g.right.2 = z := ⟨_, rfl⟩
  rw [hz] at hq0 ⊢
  have fq : (((z : Nat) : Int) != 0) = false := by rw [bne_eq_false_iff_eq]; omega
  clear hz hq0
  have hbb := BQe.out
  have ec0 : w2.cell? ⟨qe, 0, none⟩ = some (.slice a2 bn bc) := hbb.cell 0 _ rfl
  have ec1 : w2.cell? ⟨qe, 1, none⟩ = some b2 := hbb.cell 1 _ rfl
  have ec2 : w2.cell? ⟨qe, 2, none⟩ = some c2 := hbb.cell 2 _ rfl
  clear hbb
  go_wp2_with fail
  clear ec0 ec1 ec2
  refine (right_any h _ _ (HU.out.on W.out)).mono ?_
  rintro e w3 ⟨rfl, hb⟩
  replace BQg := Lib.hid (BQg.out.keep (grown_of_below hb none))
  replace BQe := Lib.hid (BQe.out.keep (grown_of_below hb none))
  replace W := Lib.hid (W.out.trans (hb.mono W.out.size))
  clear hb
  obtain ⟨y, hy⟩ : ∃ y, h.right.2 = y := ⟨_, rfl⟩
  rw [hy] at hp0 ⊢
  have fp : (((y : Nat) : Int) != 0) = true := by rw [bne_iff_ne]; omega
  clear hy hp0
  have hbb := BQg.out
  have gc0 : w3.cell? ⟨qg, 0, none⟩ = some (.slice a an ac) := hbb.cell 0 _ rfl
  have gc1 : w3.cell? ⟨qg, 1, none⟩ = some b := hbb.cell 1 _ rfl
  have gc2 : w3.cell? ⟨qg, 2, none⟩ = some c := hbb.cell 2 _ rfl
  clear hbb
  have hbb := BQe.out
  have ec0 : w3.cell? ⟨qe, 0, none⟩ = some (.slice a2 bn bc) := hbb.cell 0 _ rfl
  have ec1 : w3.cell? ⟨qe, 1, none⟩ = some b2 := hbb.cell 1 _ rfl
  have ec2 : w3.cell? ⟨qe, 2, none⟩ = some c2 := hbb.cell 2 _ rfl
  clear hbb
  go_wp2_with fail
  exact bodyPost_ret (v := .bool true) (by simp [results, Tryd.results10, go_sem]) rfl ⟨rfl, W.out⟩

set_option maxRecDepth 100000 in
set_option maxHeartbeats 4000000 in
theorem two_many (g h : P.G) (gr : g.Right) (hr : h.Right) (hsum : ¬ g.owner.length + h.owner.length ≤ 200) (v u : Value) (w : World) (hv : GameV w v g) (hu : GameV w u h) (hT : Tab w) : Calls Tryd.prog 10 #[v, u] w fun e w' => e = .returned (.bool true) ∧ Below w.heap.size w w' := by
  have hq0 : g.right.2 = 0 := by have hok2 := (P.G.ok_iff g).2 gr; unfold P.G.ok at hok2; exact beq_iff_eq.1 hok2
  have hp0 : h.right.2 = 0 := by have hok2 := (P.G.ok_iff h).2 hr; unfold P.G.ok at hok2; exact beq_iff_eq.1 hok2
  have HV := Lib.hid hv
  have HU := Lib.hid hu
  have HFI := Lib.hid hv.fits
  have T := Lib.hid hT
  have HR := Lib.hid gr
  have KR := Lib.hid hr
  obtain ⟨n, hn⟩ : ∃ n, g.owner.length = n := ⟨_, rfl⟩
  obtain ⟨k, hk⟩ : ∃ n, h.owner.length = n := ⟨_, rfl⟩
  have hop := gr.prio
  have hmp := gr.moves
  have hmany := gr.many
  have h0 := gr.pos
  have kop := hr.prio
  have kmp := hr.moves
  have kmany := hr.many
  have k0 := hr.pos
  rw [hn] at hop hmp hmany h0 hsum
  rw [hk] at kop kmp kmany k0 hsum
  obtain ⟨ba, oa, ka, bb, ob, kb, bc_, oc, kc, rfl, -, -, -⟩ := hv.open_ hn hop hmp h0
  obtain ⟨ea, eoa, eka, eb, eob, ekb, ec, eoc, ekc, rfl, hco, hcb, hcr⟩ := hu.open_ hk kop kmp k0
  have HCO := Lib.hid hco
  have HCB := Lib.hid hcb
  have HCR := Lib.hid hcr
  have HN := Lib.hid hn
  have HPN := Lib.hid hop
  have HMN := Lib.hid hmp
  have HK := Lib.hid hk
  clear hco hcb hcr gr hr hn hk hop hmp kop kmp hv hu hT
  go_enter Tryd.func10, Tryd.ntmps10
  go_wp2_with fail
  have bx0 : Box ((w.alloc (.cells #[.slice (some ⟨ba, oa, none⟩) n ka, .slice (some ⟨bb, ob, none⟩) n kb, .slice (some ⟨bc_, oc, none⟩) n kc] 25)).alloc (.cells #[.slice (some ⟨ea, eoa, none⟩) k eka, .slice (some ⟨eb, eob, none⟩) k ekb, .slice (some ⟨ec, eoc, none⟩) k ekc] 25)) (w.heap.size) 25 #[.slice (some ⟨ba, oa, none⟩) n ka, .slice (some ⟨bb, ob, none⟩) n kb, .slice (some ⟨bc_, oc, none⟩) n kc] := Box.alloc (Box.new w 25 #[.slice (some ⟨ba, oa, none⟩) n ka, .slice (some ⟨bb, ob, none⟩) n kb, .slice (some ⟨bc_, oc, none⟩) n kc]) (.cells #[.slice (some ⟨ea, eoa, none⟩) k eka, .slice (some ⟨eb, eob, none⟩) k ekb, .slice (some ⟨ec, eoc, none⟩) k ekc] 25)
  have bx1 : Box ((w.alloc (.cells #[.slice (some ⟨ba, oa, none⟩) n ka, .slice (some ⟨bb, ob, none⟩) n kb, .slice (some ⟨bc_, oc, none⟩) n kc] 25)).alloc (.cells #[.slice (some ⟨ea, eoa, none⟩) k eka, .slice (some ⟨eb, eob, none⟩) k ekb, .slice (some ⟨ec, eoc, none⟩) k ekc] 25)) (w.heap.size + 1) 25 #[.slice (some ⟨ea, eoa, none⟩) k eka, .slice (some ⟨eb, eob, none⟩) k ekb, .slice (some ⟨ec, eoc, none⟩) k ekc] := by
    have := Box.new (w.alloc (.cells #[.slice (some ⟨ba, oa, none⟩) n ka, .slice (some ⟨bb, ob, none⟩) n kb, .slice (some ⟨bc_, oc, none⟩) n kc] 25)) 25 #[.slice (some ⟨ea, eoa, none⟩) k eka, .slice (some ⟨eb, eob, none⟩) k ekb, .slice (some ⟨ec, eoc, none⟩) k ekc]
    simpa using this
  have hbq : Below w.heap.size w ((w.alloc (.cells #[.slice (some ⟨ba, oa, none⟩) n ka, .slice (some ⟨bb, ob, none⟩) n kb, .slice (some ⟨bc_, oc, none⟩) n kc] 25)).alloc (.cells #[.slice (some ⟨ea, eoa, none⟩) k eka, .slice (some ⟨eb, eob, none⟩) k ekb, .slice (some ⟨ec, eoc, none⟩) k ekc] 25)) := ((Below.refl _ w).alloc (Nat.le_refl _) _).alloc (by simp) _
  have lt0 : w.heap.size < w.heap.size + 1 := Nat.lt_succ_self _
  have hle0 : w.heap.size ≤ w.heap.size := Nat.le_refl _
  generalize ((w.alloc (.cells #[.slice (some ⟨ba, oa, none⟩) n ka, .slice (some ⟨bb, ob, none⟩) n kb, .slice (some ⟨bc_, oc, none⟩) n kc] 25)).alloc (.cells #[.slice (some ⟨ea, eoa, none⟩) k eka, .slice (some ⟨eb, eob, none⟩) k ekb, .slice (some ⟨ec, eoc, none⟩) k ekc] 25)) = w0 at bx0 bx1 hbq  ⊢
  have BQg := Lib.hid bx0
  have BQe := Lib.hid bx1
  have W := Lib.hid hbq
  have LTge := Lib.hid lt0
  have LEg := Lib.hid hle0
  clear hbq hle0 bx0 bx1 lt0
  generalize w.heap.size + 1 = qe at BQe LTge ⊢
  obtain ⟨qg, hqg⟩ : ∃ qg, w.heap.size = qg := ⟨_, rfl⟩
  rw [hqg] at BQg LTge ⊢
  have LEg : Hid (w.heap.size ≤ qg) := Lib.hid (by omega)
  clear hqg
  refine (shown_any w0 (T.out.on W.out)).mono ?_
  rintro e w1 ⟨rfl, hb⟩
  replace BQg := Lib.hid (BQg.out.keep (grown_of_below hb none))
  replace BQe := Lib.hid (BQe.out.keep (grown_of_below hb none))
  replace W := Lib.hid (W.out.trans (hb.mono W.out.size))
  clear hb
  have hbb := BQg.out
  have gc0 : w1.cell? ⟨qg, 0, none⟩ = some (.slice (some ⟨ba, oa, none⟩) n ka) := hbb.cell 0 _ rfl
  have gc1 : w1.cell? ⟨qg, 1, none⟩ = some (.slice (some ⟨bb, ob, none⟩) n kb) := hbb.cell 1 _ rfl
  have gc2 : w1.cell? ⟨qg, 2, none⟩ = some (.slice (some ⟨bc_, oc, none⟩) n kc) := hbb.cell 2 _ rfl
  clear hbb
  go_wp2_with fail
  clear gc0 gc1 gc2
  refine (right_any g _ _ (HV.out.on W.out)).mono ?_
  rintro e w2 ⟨rfl, hb⟩
  replace BQg := Lib.hid (BQg.out.keep (grown_of_below hb none))
  replace BQe := Lib.hid (BQe.out.keep (grown_of_below hb none))
  replace W := Lib.hid (W.out.trans (hb.mono W.out.size))
  clear hb
  obtain ⟨z, hz⟩ : ∃ z, g.right.2 = z := ⟨_, rfl⟩
  rw [hz] at hq0 ⊢
  have fq : (((z : Nat) : Int) != 0) = false := by rw [bne_eq_false_iff_eq]; omega
  clear hz hq0
  have hbb := BQe.out
  have ec0 : w2.cell? ⟨qe, 0, none⟩ = some (.slice (some ⟨ea, eoa, none⟩) k eka) := hbb.cell 0 _ rfl
  have ec1 : w2.cell? ⟨qe, 1, none⟩ = some (.slice (some ⟨eb, eob, none⟩) k ekb) := hbb.cell 1 _ rfl
  have ec2 : w2.cell? ⟨qe, 2, none⟩ = some (.slice (some ⟨ec, eoc, none⟩) k ekc) := hbb.cell 2 _ rfl
  clear hbb
  go_wp2_with fail
  clear ec0 ec1 ec2
  refine (right_any h _ _ (HU.out.on W.out)).mono ?_
  rintro e w3 ⟨rfl, hb⟩
  replace BQg := Lib.hid (BQg.out.keep (grown_of_below hb none))
  replace BQe := Lib.hid (BQe.out.keep (grown_of_below hb none))
  replace W := Lib.hid (W.out.trans (hb.mono W.out.size))
  clear hb
  obtain ⟨y, hy⟩ : ∃ y, h.right.2 = y := ⟨_, rfl⟩
  rw [hy] at hp0 ⊢
  have fp : (((y : Nat) : Int) != 0) = false := by rw [bne_eq_false_iff_eq]; omega
  clear hy hp0
  have hbb := BQg.out
  have gc0 : w3.cell? ⟨qg, 0, none⟩ = some (.slice (some ⟨ba, oa, none⟩) n ka) := hbb.cell 0 _ rfl
  have gc1 : w3.cell? ⟨qg, 1, none⟩ = some (.slice (some ⟨bb, ob, none⟩) n kb) := hbb.cell 1 _ rfl
  have gc2 : w3.cell? ⟨qg, 2, none⟩ = some (.slice (some ⟨bc_, oc, none⟩) n kc) := hbb.cell 2 _ rfl
  clear hbb
  have hbb := BQe.out
  have ec0 : w3.cell? ⟨qe, 0, none⟩ = some (.slice (some ⟨ea, eoa, none⟩) k eka) := hbb.cell 0 _ rfl
  have ec1 : w3.cell? ⟨qe, 1, none⟩ = some (.slice (some ⟨eb, eob, none⟩) k ekb) := hbb.cell 1 _ rfl
  have ec2 : w3.cell? ⟨qe, 2, none⟩ = some (.slice (some ⟨ec, eoc, none⟩) k ekc) := hbb.cell 2 _ rfl
  clear hbb
  have fs : decide ((200 : Int) < (n : Int) + (k : Int)) = true := decide_eq_true (by omega)
  go_wp2_with fail
  exact bodyPost_ret (v := .bool true) (by simp [results, Tryd.results10, go_sem]) rfl ⟨rfl, W.out⟩

theorem ROWS.ints {w : World} {lo n : Nat} {g : P.G} {p : Int} {S : BitVec 256} {c : List Int} {r : Value} {b : Nat} (h : ROWS w lo n g p S c r b) : Ints w r (lstI S) := by
  have hl : (lstI S).length = (P.lst S).length := by unfold lstI; rw [List.length_map]
  refine OwnI.ints (lo := lo) ?_ ?_
  · unfold OwnI
    rw [hl]
    exact h.1
  · rw [hl]
    unfold P.lst
    exact Nat.le_trans (List.length_filter_le _ _) (by simp)
theorem lstI_len (S : BitVec 256) : (lstI S).length = (P.lst S).length := by unfold lstI; rw [List.length_map]
theorem lst_short (S : BitVec 256) : (P.lst S).length ≤ 256 := by unfold P.lst; exact Nat.le_trans (List.length_filter_le _ _) (by simp)
theorem lstI_far {n : Nat} {X Y Z : BitVec 256} (h : P.lst Z = P.lst X ++ (P.lst Y).map (· + n)) : lstI Z = lstI X ++ P.farRow n (lstI Y) := by
  unfold lstI P.farRow
  rw [h, List.map_append, List.map_map, List.map_map]
  congr 1
theorem lstI_bound (S : BitVec 256) (z : Int) (hz : z ∈ lstI S) : 0 ≤ z ∧ z < 256 := by
  unfold lstI at hz
  obtain ⟨j, hj, rfl⟩ := List.mem_map.1 hz
  unfold P.lst at hj
  have := List.mem_range.1 (List.mem_filter.1 hj).1
  omega
theorem farRow_take {n r : Nat} {l : List Int} (hr : r < l.length) : P.farRow n (l.take (r + 1)) = P.farRow n (l.take r) ++ [l.getD r 0 + (n : Int)] := by
  unfold P.farRow
  rw [take_snoc_ (d := 0) hr, List.map_append]
  rfl
theorem off2 {hb kb q n m hk kk : Nat} (h1 : (Value.slice (some ⟨hb, 0, none⟩) n hk).ownBlock ≠ some q) (h2 : (Value.slice (some ⟨kb, 0, none⟩) m kk).ownBlock ≠ some q) : q ∉ [hb, kb] := by
  intro h
  rcases List.mem_cons.1 h with rfl | h
  · exact h1 rfl
  · exact h2 (by rw [List.mem_singleton.1 h]; rfl)
theorem getD_mem_ {l : List Int} {i : Nat} (hi : i < l.length) : l.getD i 0 ∈ l := by
  rw [List.getD_eq_getElem?_getD, List.getElem?_eq_getElem hi]
  exact List.getElem_mem hi

set_option maxRecDepth 100000 in
set_option maxHeartbeats 8000000 in
theorem two_right_ (g h : P.G) (gr : g.Right) (hr : h.Right) (hsum : g.owner.length + h.owner.length ≤ 200) (v u : Value) (w : World) (hv : GameV w v g) (hu : GameV w u h) (hT : Tab w) : Calls Tryd.prog 10 #[v, u] w fun e w' => e = .returned (.bool true) ∧ Below w.heap.size w w' := by
  have hq0 : g.right.2 = 0 := by have hok2 := (P.G.ok_iff g).2 gr; unfold P.G.ok at hok2; exact beq_iff_eq.1 hok2
  have hp0 : h.right.2 = 0 := by have hok2 := (P.G.ok_iff h).2 hr; unfold P.G.ok at hok2; exact beq_iff_eq.1 hok2
  have HV := Lib.hid hv
  have HU := Lib.hid hu
  have HFI := Lib.hid hv.fits
  have T := Lib.hid hT
  have HR := Lib.hid gr
  have KR := Lib.hid hr
  obtain ⟨n, hn⟩ : ∃ n, g.owner.length = n := ⟨_, rfl⟩
  obtain ⟨k, hk⟩ : ∃ n, h.owner.length = n := ⟨_, rfl⟩
  have hop := gr.prio
  have hmp := gr.moves
  have hmany := gr.many
  have h0 := gr.pos
  have kop := hr.prio
  have kmp := hr.moves
  have kmany := hr.many
  have k0 := hr.pos
  rw [hn] at hop hmp hmany h0 hsum
  rw [hk] at kop kmp kmany k0 hsum
  obtain ⟨ba, oa, ka, bb, ob, kb, bc_, oc, kc, rfl, -, -, -⟩ := hv.open_ hn hop hmp h0
  obtain ⟨ea, eoa, eka, eb, eob, ekb, ec, eoc, ekc, rfl, hco, hcb, hcr⟩ := hu.open_ hk kop kmp k0
  have HCO := Lib.hid hco
  have HCB := Lib.hid hcb
  have HCR := Lib.hid hcr
  have HN := Lib.hid hn
  have HPN := Lib.hid hop
  have HMN := Lib.hid hmp
  have HK := Lib.hid hk
  clear hco hcb hcr gr hr hn hk hop hmp kop kmp hv hu hT
  go_enter Tryd.func10, Tryd.ntmps10
  go_wp2_with fail
  have bx0 : Box ((w.alloc (.cells #[.slice (some ⟨ba, oa, none⟩) n ka, .slice (some ⟨bb, ob, none⟩) n kb, .slice (some ⟨bc_, oc, none⟩) n kc] 25)).alloc (.cells #[.slice (some ⟨ea, eoa, none⟩) k eka, .slice (some ⟨eb, eob, none⟩) k ekb, .slice (some ⟨ec, eoc, none⟩) k ekc] 25)) (w.heap.size) 25 #[.slice (some ⟨ba, oa, none⟩) n ka, .slice (some ⟨bb, ob, none⟩) n kb, .slice (some ⟨bc_, oc, none⟩) n kc] := Box.alloc (Box.new w 25 #[.slice (some ⟨ba, oa, none⟩) n ka, .slice (some ⟨bb, ob, none⟩) n kb, .slice (some ⟨bc_, oc, none⟩) n kc]) (.cells #[.slice (some ⟨ea, eoa, none⟩) k eka, .slice (some ⟨eb, eob, none⟩) k ekb, .slice (some ⟨ec, eoc, none⟩) k ekc] 25)
  have bx1 : Box ((w.alloc (.cells #[.slice (some ⟨ba, oa, none⟩) n ka, .slice (some ⟨bb, ob, none⟩) n kb, .slice (some ⟨bc_, oc, none⟩) n kc] 25)).alloc (.cells #[.slice (some ⟨ea, eoa, none⟩) k eka, .slice (some ⟨eb, eob, none⟩) k ekb, .slice (some ⟨ec, eoc, none⟩) k ekc] 25)) (w.heap.size + 1) 25 #[.slice (some ⟨ea, eoa, none⟩) k eka, .slice (some ⟨eb, eob, none⟩) k ekb, .slice (some ⟨ec, eoc, none⟩) k ekc] := by
    have := Box.new (w.alloc (.cells #[.slice (some ⟨ba, oa, none⟩) n ka, .slice (some ⟨bb, ob, none⟩) n kb, .slice (some ⟨bc_, oc, none⟩) n kc] 25)) 25 #[.slice (some ⟨ea, eoa, none⟩) k eka, .slice (some ⟨eb, eob, none⟩) k ekb, .slice (some ⟨ec, eoc, none⟩) k ekc]
    simpa using this
  have hbq : Below w.heap.size w ((w.alloc (.cells #[.slice (some ⟨ba, oa, none⟩) n ka, .slice (some ⟨bb, ob, none⟩) n kb, .slice (some ⟨bc_, oc, none⟩) n kc] 25)).alloc (.cells #[.slice (some ⟨ea, eoa, none⟩) k eka, .slice (some ⟨eb, eob, none⟩) k ekb, .slice (some ⟨ec, eoc, none⟩) k ekc] 25)) := ((Below.refl _ w).alloc (Nat.le_refl _) _).alloc (by simp) _
  have lt0 : w.heap.size < w.heap.size + 1 := Nat.lt_succ_self _
  have hle0 : w.heap.size ≤ w.heap.size := Nat.le_refl _
  generalize ((w.alloc (.cells #[.slice (some ⟨ba, oa, none⟩) n ka, .slice (some ⟨bb, ob, none⟩) n kb, .slice (some ⟨bc_, oc, none⟩) n kc] 25)).alloc (.cells #[.slice (some ⟨ea, eoa, none⟩) k eka, .slice (some ⟨eb, eob, none⟩) k ekb, .slice (some ⟨ec, eoc, none⟩) k ekc] 25)) = w0 at bx0 bx1 hbq  ⊢
  have BQg := Lib.hid bx0
  have BQe := Lib.hid bx1
  have W := Lib.hid hbq
  have LTge := Lib.hid lt0
  have LEg := Lib.hid hle0
  clear hbq hle0 bx0 bx1 lt0
  generalize w.heap.size + 1 = qe at BQe LTge ⊢
  obtain ⟨qg, hqg⟩ : ∃ qg, w.heap.size = qg := ⟨_, rfl⟩
  rw [hqg] at BQg LTge ⊢
  have LEg : Hid (w.heap.size ≤ qg) := Lib.hid (by omega)
  clear hqg
  refine (shown_any w0 (T.out.on W.out)).mono ?_
  rintro e w1 ⟨rfl, hb⟩
  replace BQg := Lib.hid (BQg.out.keep (grown_of_below hb none))
  replace BQe := Lib.hid (BQe.out.keep (grown_of_below hb none))
  replace W := Lib.hid (W.out.trans (hb.mono W.out.size))
  clear hb
  have hbb := BQg.out
  have gc0 : w1.cell? ⟨qg, 0, none⟩ = some (.slice (some ⟨ba, oa, none⟩) n ka) := hbb.cell 0 _ rfl
  have gc1 : w1.cell? ⟨qg, 1, none⟩ = some (.slice (some ⟨bb, ob, none⟩) n kb) := hbb.cell 1 _ rfl
  have gc2 : w1.cell? ⟨qg, 2, none⟩ = some (.slice (some ⟨bc_, oc, none⟩) n kc) := hbb.cell 2 _ rfl
  clear hbb
  go_wp2_with fail
  clear gc0 gc1 gc2
  refine (right_any g _ _ (HV.out.on W.out)).mono ?_
  rintro e w2 ⟨rfl, hb⟩
  replace BQg := Lib.hid (BQg.out.keep (grown_of_below hb none))
  replace BQe := Lib.hid (BQe.out.keep (grown_of_below hb none))
  replace W := Lib.hid (W.out.trans (hb.mono W.out.size))
  clear hb
  obtain ⟨z, hz⟩ : ∃ z, g.right.2 = z := ⟨_, rfl⟩
  rw [hz] at hq0 ⊢
  have fq : (((z : Nat) : Int) != 0) = false := by rw [bne_eq_false_iff_eq]; omega
  clear hz hq0
  have hbb := BQe.out
  have ec0 : w2.cell? ⟨qe, 0, none⟩ = some (.slice (some ⟨ea, eoa, none⟩) k eka) := hbb.cell 0 _ rfl
  have ec1 : w2.cell? ⟨qe, 1, none⟩ = some (.slice (some ⟨eb, eob, none⟩) k ekb) := hbb.cell 1 _ rfl
  have ec2 : w2.cell? ⟨qe, 2, none⟩ = some (.slice (some ⟨ec, eoc, none⟩) k ekc) := hbb.cell 2 _ rfl
  clear hbb
  go_wp2_with fail
  clear ec0 ec1 ec2
  refine (right_any h _ _ (HU.out.on W.out)).mono ?_
  rintro e w3 ⟨rfl, hb⟩
  replace BQg := Lib.hid (BQg.out.keep (grown_of_below hb none))
  replace BQe := Lib.hid (BQe.out.keep (grown_of_below hb none))
  replace W := Lib.hid (W.out.trans (hb.mono W.out.size))
  clear hb
  obtain ⟨y, hy⟩ : ∃ y, h.right.2 = y := ⟨_, rfl⟩
  rw [hy] at hp0 ⊢
  have fp : (((y : Nat) : Int) != 0) = false := by rw [bne_eq_false_iff_eq]; omega
  clear hy hp0
  have hbb := BQg.out
  have gc0 : w3.cell? ⟨qg, 0, none⟩ = some (.slice (some ⟨ba, oa, none⟩) n ka) := hbb.cell 0 _ rfl
  have gc1 : w3.cell? ⟨qg, 1, none⟩ = some (.slice (some ⟨bb, ob, none⟩) n kb) := hbb.cell 1 _ rfl
  have gc2 : w3.cell? ⟨qg, 2, none⟩ = some (.slice (some ⟨bc_, oc, none⟩) n kc) := hbb.cell 2 _ rfl
  clear hbb
  have hbb := BQe.out
  have ec0 : w3.cell? ⟨qe, 0, none⟩ = some (.slice (some ⟨ea, eoa, none⟩) k eka) := hbb.cell 0 _ rfl
  have ec1 : w3.cell? ⟨qe, 1, none⟩ = some (.slice (some ⟨eb, eob, none⟩) k ekb) := hbb.cell 1 _ rfl
  have ec2 : w3.cell? ⟨qe, 2, none⟩ = some (.slice (some ⟨ec, eoc, none⟩) k ekc) := hbb.cell 2 _ rfl
  clear hbb
  have fs : decide ((200 : Int) < (n : Int) + (k : Int)) = false := decide_eq_false (by omega)
  go_wp2_with fail
  clear gc0 gc1 gc2 ec0 ec1 ec2
  obtain ⟨wc, hwc⟩ : ∃ wc, wc = w3 := ⟨_, rfl⟩
  rw [← hwc] at BQg BQe W ⊢
  clear hwc
  have BCg := Lib.hid BQg.out
  have BCe := Lib.hid BQe.out
  have WC := Lib.hid W.out
  have Wc := Lib.hid (Below.refl wc.heap.size wc)
  refine (copy_any g _ _ (HV.out.on W.out)).mono ?_
  rintro e w5 ⟨oav, obv, ocv, tL, rfl, ho, hb⟩
  obtain ⟨toa, tka, rfl, -⟩ := own_form ho.owner (by rw [HN.out]; exact h0)
  obtain ⟨tob, tkb, rfl, -⟩ := own_form ho.prio (by rw [HPN.out]; exact h0)
  obtain ⟨toc, tkc, rfl, -⟩ := own_form ho.head (by rw [HMN.out]; exact h0)
  rw [HN.out, HPN.out, HMN.out] at ho ⊢
  simp only []
  replace BQg := Lib.hid (BQg.out.keep (grown_of_below hb none))
  replace BQe := Lib.hid (BQe.out.keep (grown_of_below hb none))
  replace W := Lib.hid (W.out.trans (hb.mono W.out.size))
  replace Wc := Lib.hid (Wc.out.trans (hb.mono Wc.out.size))
  have Ot := Lib.hid ho
  clear hb ho
  go_upto_region 8 with (fail)
  have hql : wc.heap.size ≤ w5.heap.size := Wc.out.size
  have bq : Box (w5.alloc (.cells #[.slice (some ⟨toa, 0, none⟩) n tka, .slice (some ⟨tob, 0, none⟩) n tkb, .slice (some ⟨toc, 0, none⟩) n tkc] 25)) w5.heap.size 25 #[.slice (some ⟨toa, 0, none⟩) n tka, .slice (some ⟨tob, 0, none⟩) n tkb, .slice (some ⟨toc, 0, none⟩) n tkc] := Box.new _ _ _
  have hgq := World.grownBy_alloc w5 (.cells #[.slice (some ⟨toa, 0, none⟩) n tka, .slice (some ⟨tob, 0, none⟩) n tkb, .slice (some ⟨toc, 0, none⟩) n tkc] 25) none
  replace BQg := Lib.hid (BQg.out.keep hgq)
  replace BQe := Lib.hid (BQe.out.keep hgq)
  replace W := Lib.hid (W.out.trans ((below_of_grown hgq).mono W.out.size))
  replace Wc := Lib.hid (Wc.out.trans ((below_of_grown hgq).mono Wc.out.size))
  replace Ot := Lib.hid (Ot.out.grown hgq)
  generalize (w5.alloc (.cells #[.slice (some ⟨toa, 0, none⟩) n tka, .slice (some ⟨tob, 0, none⟩) n tkb, .slice (some ⟨toc, 0, none⟩) n tkc] 25)) = wd at bq BQg BQe W Wc Ot ⊢
  generalize w5.heap.size = qt at bq hql ⊢
  have HQT := Lib.hid hql
  clear hql
  have BQt := Lib.hid bq
  clear bq hgq
  clear W BQg BQe
  have W := WC
  clear WC
  have GR0 := Lib.hid (show Grw wc wd qt (.slice (some ⟨toa, 0, none⟩) n tka) (.slice (some ⟨tob, 0, none⟩) n tkb) (.slice (some ⟨toc, 0, none⟩) n tkc) tL g from ⟨Wc.out, BQt.out, ⟨Ot.out, Ot.out.far_of HR.out⟩, HQT.out⟩)
  go_wp2_with fail
  go_loopw [12] (fun iv wq => ∃ (pp : Nat) (A B C : Value) (L : List Value), iv = .int .i64 (pp : Int) ∧ pp ≤ k ∧ Grw wc wq qt A B C L (besideTo g h n pp)) (fun iv _ => k - (intOf iv).toNat)
  case atStart => exact ⟨0, _, _, _, _, rfl, Nat.zero_le _, by rw [besideTo_zero]; exact GR0.out⟩
  case round =>
    obtain ⟨pp, A, B, C, L, rfl, hpn, hgr_⟩ := hrel
    have GR := Lib.hid hgr_
    clear hgr_
    have BRe := Lib.hid (BCe.out.keep (grown_of_below GR.out.below none))
    have hbb := BRe.out
    have ec0 : wr.cell? ⟨qe, 0, none⟩ = some (.slice (some ⟨ea, eoa, none⟩) k eka) := hbb.cell 0 _ rfl
    have ec1 : wr.cell? ⟨qe, 1, none⟩ = some (.slice (some ⟨eb, eob, none⟩) k ekb) := hbb.cell 1 _ rfl
    have ec2 : wr.cell? ⟨qe, 2, none⟩ = some (.slice (some ⟨ec, eoc, none⟩) k ekc) := hbb.cell 2 _ rfl
    clear hbb
    by_cases hlt : pp < k
    · have hki : (pp : Int) < (k : Int) := by omega
      have hk0 : (0 : Int) ≤ (pp : Int) := by omega
      have fk : decide ((pp : Int) < (k : Int)) = true := decide_eq_true hki
      have WR := Lib.hid (W.out.trans (GR.out.below.mono W.out.size))
      have hca := HCO.out wr WR.out pp hlt
      obtain ⟨zo, hzo⟩ : ∃ zo, h.owner.getD pp 0 = zo := ⟨_, rfl⟩
      obtain ⟨zp, hzp⟩ : ∃ zp, h.prio.getD pp 0 = zp := ⟨_, rfl⟩
      rw [hzo] at hca
      have HCA := Lib.hid hca
      have HZO := Lib.hid hzo
      have HZP := Lib.hid hzp
      have HLN := Lib.hid (besideTo_len HR.out KR.out HN.out HK.out hpn)
      have HBL := Lib.hid (show ea < wc.heap.size from cell_lt (HCO.out wc W.out pp hlt))
      clear hca hzo hzp
      go_upto_region 11 with (fail)
      clear ec0 ec1 ec2
      refine Rg.wp_region_lit (fun idx => match idx with | 0 => (fun v _ _ => v = (.pointer (some ⟨qt, 0, none⟩))) | 1 => (fun v _ _ => v = A) | 2 => (fun v _ _ => v = (.pointer (some ⟨qe, 0, none⟩))) | 3 => (fun v _ _ => v = (.slice (some ⟨ea, eoa, none⟩) k eka)) | 4 => (fun v _ _ => v = (.int .i64 (pp : Int))) | 5 => (fun v _ _ => v = (.pointer (some ⟨ea, eoa + pp, none⟩))) | 6 => (fun v _ _ => v = (.int .i64 zo)) | 7 => (fun v _ w' => ∃ p, v = .slice (some ⟨p, 0, none⟩) 1 1 ∧ wr.heap.size ≤ p ∧ p < w'.heap.size ∧ w'.cell? ⟨p, 0, none⟩ = some (.int .i64 zo)) | 8 => (fun v _ w' => w'.ownsRow wc.heap.size 3 1 v (((besideTo g h n pp)).owner.length + 1) (((besideTo g h n pp)).owner.map (Value.int .i64) ++ [.int .i64 zo]) ∧ (v.ownBlock = (A : Value).ownBlock ∨ ∃ p, v.ownBlock = some p ∧ wr.heap.size ≤ p)) | 9 => (fun v _ _ => v = (.pointer (some ⟨qt, 0, none⟩))) | _ => fun _ _ _ => True) ((A : Value).ownBlock) 8 (by kernel_rfl) (by rfl) (by kernel_rfl) (by rfl) ?_ ?_ ?_
      · refine ⟨?_, ?_, ?_, ?_, ?_, ?_, ?_, ?_, ?_, ?_, trivial⟩
        · intro A' w' K vals h hn hg hK
          have r0 : A'.tmps[11]?.getD undef = .pointer (some ⟨qt, 0, none⟩) := Rg.slot (h.1)
          clear h hn hg
          simp [Oper.wp, execOp, go_sem, r0]
          exact hK _ _ (Rg.grown_refl _ _) rfl
        · intro A' w' K vals h hn hg hK
          have r0 : A'.tmps[66]?.getD undef = vals 0 := Rg.slot h.1
          have r1 : vals 0 = (.pointer (some ⟨qt, 0, none⟩)) := hn.1
          have c : w'.cell? ⟨qt, 0, none⟩ = some A := (GR.out.box.grown hg (GR.out.neO GR.out.box (by decide))).cell _ _ rfl
          clear h hn
          simp [Oper.wp, execOp, go_sem, r0, r1, c]
          exact hK _ _ (Rg.grown_refl _ _) rfl
        · intro A' w' K vals h hn hg hK
          have r0 : A'.tmps[3]?.getD undef = .pointer (some ⟨qe, 0, none⟩) := Rg.slot (h.1)
          clear h hn hg
          simp [Oper.wp, execOp, go_sem, r0]
          exact hK _ _ (Rg.grown_refl _ _) rfl
        · intro A' w' K vals h hn hg hK
          have r0 : A'.tmps[68]?.getD undef = vals 2 := Rg.slot h.1
          have r1 : vals 2 = (.pointer (some ⟨qe, 0, none⟩)) := hn.1
          have c : w'.cell? ⟨qe, 0, none⟩ = some (.slice (some ⟨ea, eoa, none⟩) k eka) := (BRe.out.grown hg (GR.out.neO BRe.out (by decide))).cell _ _ rfl
          clear h hn
          simp [Oper.wp, execOp, go_sem, r0, r1, c]
          exact hK _ _ (Rg.grown_refl _ _) rfl
        · intro A' w' K vals h hn hg hK
          have r0 : A'.tmps[12]?.getD undef = (.int .i64 (pp : Int)) := Rg.slot (h.1)
          clear h hn hg
          simp [Oper.wp, execOp, go_sem, r0]
          exact hK _ _ (Rg.grown_refl _ _) rfl
        · intro A' w' K vals h hn hg hK
          have r0 : A'.tmps[69]?.getD undef = vals 3 := Rg.slot h.1
          have r1 : A'.tmps[70]?.getD undef = vals 4 := Rg.slot h.2.1
          have r2 : vals 3 = (.slice (some ⟨ea, eoa, none⟩) k eka) := hn.1
          have r3 : vals 4 = (.int .i64 (pp : Int)) := hn.2.1
          clear h hn hg
          simp [Oper.wp, execOp, go_sem, r0, r1, r2, r3, hki, hk0]
          exact hK _ _ (Rg.grown_refl _ _) rfl
        · intro A' w' K vals h hn hg hK
          have r0 : A'.tmps[71]?.getD undef = vals 5 := Rg.slot h.1
          have r1 : vals 5 = (.pointer (some ⟨ea, eoa + pp, none⟩)) := hn.1
          have c : w'.cell? ⟨ea, eoa + pp, none⟩ = some (.int .i64 zo) := hg.cell HCA.out (fun e => by have h1 : wc.heap.size ≤ ea := (own_lt GR.out.built.own.owner _ e.symm).1; have h2 := HBL.out; omega)
          clear h hn
          simp [Oper.wp, execOp, go_sem, r0, r1, c]
          exact hK _ _ (Rg.grown_refl _ _) rfl
        · intro A' w' K vals h hn hg hK
          have r0 : A'.tmps[72]?.getD undef = vals 6 := Rg.slot h.1
          have s0 : vals 6 = .int .i64 zo := hn.1
          clear h hn
          simp [Oper.wp, execOp, go_sem, r0, s0]
          exact hK _ _ (Rg.grown_weak (World.grownBy_alloc _ _ _)) ⟨w'.heap.size, rfl, hg.size, by simp, by simp⟩
        · intro A' w' K vals h hn hg hK
          have r0 : A'.tmps[67]?.getD undef = vals 1 := Rg.slot h.1
          have r1 : A'.tmps[73]?.getD undef = vals 7 := Rg.slot h.2.1
          have r2 : vals 1 = A := hn.1
          obtain ⟨p, e9, hp, hlt9, c9⟩ : ∃ p, vals 7 = .slice (some ⟨p, 0, none⟩) 1 1 ∧ wr.heap.size ≤ p ∧ p < w'.heap.size ∧ w'.cell? ⟨p, 0, none⟩ = some (.int .i64 zo) := hn.2.1
          clear h hn
          have hg : wr.grownBy w' none := hg
          have own : w'.ownsRow wc.heap.size 3 1 A ((besideTo g h n pp)).owner.length (((besideTo g h n pp)).owner.map (Value.int .i64)) := own_grown GR.out.built.own.owner hg
          have hlen : ((besideTo g h n pp)).owner.length = (n + pp) := HLN.out.1
          have hrow9 : Row w' (.slice (some ⟨p, 0, none⟩) 1 1) [.int .i64 zo] := ⟨_, _, rfl, .inr ⟨p, 0, rfl, hlt9, fun j u hu => by
            match j, hu with
            | 0, hu => simp at hu; subst hu; exact c9⟩⟩
          obtain ⟨v', w'', hrun, hown, hgr, hat⟩ := run_append elInt 22 own hrow9 (by intro u hu; simp at hu; subst hu; rfl) (by simp; omega) (by simp; omega) (Nat.le_trans GR.out.size hg.size)
          refine op_append rfl (by simp [Act.eval, r0, r2]) (by simp [Act.eval, r1, e9]) hrun (hK _ _ hgr ⟨hown, ?_⟩)
          rcases hat with hat | hat
          · exact .inl hat
          · exact .inr ⟨_, hat, hg.size⟩
        · intro A' w' K vals h hn hg hK
          have r0 : A'.tmps[11]?.getD undef = .pointer (some ⟨qt, 0, none⟩) := Rg.slot (h.1)
          clear h hn hg
          simp [Oper.wp, execOp, go_sem, r0]
          exact hK _ _ (Rg.grown_refl _ _) rfl
      · refine ⟨?_, ?_, ?_, ?_, ?_, ?_, ?_, ?_, ?_, ?_, trivial⟩
        · exact fun _ _ _ _ _ _ h => h
        · exact fun _ _ _ _ _ _ h => h
        · exact fun _ _ _ _ _ _ h => h
        · exact fun _ _ _ _ _ _ h => h
        · exact fun _ _ _ _ _ _ h => h
        · exact fun _ _ _ _ _ _ h => h
        · exact fun _ _ _ _ _ _ h => h
        · exact fun _ _ _ _ _ h ⟨p, hv, hp, hl, hc⟩ => ⟨p, hv, hp, Nat.lt_of_lt_of_le hl h.size, h.cell hc (fun e => by have := (own_lt GR.out.built.own.owner p e.symm).2; omega)⟩
        · exact fun _ _ _ _ _ h ho => ⟨own_grown ho.1 h, ho.2⟩
        · exact fun _ _ _ _ _ _ h => h
      · intro vals w2 G hg hS hG
        have s8 : w2.ownsRow wc.heap.size 3 1 (vals 8) (((besideTo g h n pp)).owner.length + 1) (((besideTo g h n pp)).owner.map (Value.int .i64) ++ [.int .i64 zo]) ∧ ((vals 8).ownBlock = (A : Value).ownBlock ∨ ∃ p, (vals 8).ownBlock = some p ∧ wr.heap.size ≤ p) := hS.2.2.2.2.2.2.2.2.1
        have s9 : vals 9 = .pointer (some ⟨qt, 0, none⟩) := hS.2.2.2.2.2.2.2.2.2.1
        clear hS
        obtain ⟨V, hV⟩ : ∃ V, vals 8 = V := ⟨_, rfl⟩
        rw [hV] at s8
        have hgw := GR.out.owner s8.1 hg s8.2
        have hbx := GR.out.box.grown hg (GR.out.neO GR.out.box (by decide))
        have qc : w2.cell? ⟨qt, 0, none⟩ = some A := hbx.cell 0 _ rfl
        have qf : w2.frozen? ⟨qt, 0, none⟩ = false := hbx.frozen 0
        have HGW := Lib.hid hgw
        obtain ⟨vo, vk, rfl, -⟩ := own_at s8.1
        clear hgw hbx s8 hg
        refine hG ?_
        clear hG
        simp [List.dropLast, Rg.putAll, Oper.wp, execOp, go_sem, s9, hV, qc, qf]
        clear qc qf s9 hV
        generalize hwg : (w2.setCell ⟨qt, 0, none⟩ (.slice vo (((besideTo g h n pp)).owner.length + 1) vk)) = w9 at HGW ⊢
        clear hwg
        obtain ⟨A2, hvn⟩ : ∃ x, Value.slice vo (((besideTo g h n pp)).owner.length + 1) vk = x := ⟨_, rfl⟩
        obtain ⟨G1, hgn⟩ : ∃ x : P.G, ({ (besideTo g h n pp) with owner := (besideTo g h n pp).owner ++ [zo] } : P.G) = x := ⟨_, rfl⟩
        rw [hvn, hgn] at HGW
        rw [hvn]
        have GRB := Lib.hid HGW.out
        have HG1 := Lib.hid hgn
        clear HGW hvn hgn
        have BRB := Lib.hid (BCe.out.keep (grown_of_below GRB.out.below none))
        have WB := Lib.hid (W.out.trans (GRB.out.below.mono W.out.size))
        have hcb := HCB.out w9 WB.out pp hlt
        rw [HZP.out] at hcb
        have HCB9 := Lib.hid hcb
        have HLN2 := Lib.hid (show G1.prio.length = n + pp by rw [← HG1.out]; exact HLN.out.2.1)
        replace HBL := Lib.hid (show eb < wc.heap.size from cell_lt (HCB.out wc W.out pp hlt))
        clear hcb
        go_upto_region 12 with (fail)
        refine Rg.wp_region_lit (fun idx => match idx with | 0 => (fun v _ _ => v = (.pointer (some ⟨qt, 1, none⟩))) | 1 => (fun v _ _ => v = B) | 2 => (fun v _ _ => v = (.pointer (some ⟨qe, 1, none⟩))) | 3 => (fun v _ _ => v = (.slice (some ⟨eb, eob, none⟩) k ekb)) | 4 => (fun v _ _ => v = (.int .i64 (pp : Int))) | 5 => (fun v _ _ => v = (.pointer (some ⟨eb, eob + pp, none⟩))) | 6 => (fun v _ _ => v = (.int .i64 zp)) | 7 => (fun v _ w' => ∃ p, v = .slice (some ⟨p, 0, none⟩) 1 1 ∧ w9.heap.size ≤ p ∧ p < w'.heap.size ∧ w'.cell? ⟨p, 0, none⟩ = some (.int .i64 zp)) | 8 => (fun v _ w' => w'.ownsRow wc.heap.size 3 1 v ((G1).prio.length + 1) ((G1).prio.map (Value.int .i64) ++ [.int .i64 zp]) ∧ (v.ownBlock = (B : Value).ownBlock ∨ ∃ p, v.ownBlock = some p ∧ w9.heap.size ≤ p)) | 9 => (fun v _ _ => v = (.pointer (some ⟨qt, 1, none⟩))) | _ => fun _ _ _ => True) ((B : Value).ownBlock) 8 (by kernel_rfl) (by rfl) (by kernel_rfl) (by rfl) ?_ ?_ ?_
        · refine ⟨?_, ?_, ?_, ?_, ?_, ?_, ?_, ?_, ?_, ?_, trivial⟩
          · intro A' w' K vals h hn hg hK
            have r0 : A'.tmps[11]?.getD undef = .pointer (some ⟨qt, 0, none⟩) := Rg.slot (h.1)
            clear h hn hg
            simp [Oper.wp, execOp, go_sem, r0]
            exact hK _ _ (Rg.grown_refl _ _) rfl
          · intro A' w' K vals h hn hg hK
            have r0 : A'.tmps[76]?.getD undef = vals 0 := Rg.slot h.1
            have r1 : vals 0 = (.pointer (some ⟨qt, 1, none⟩)) := hn.1
            have c : w'.cell? ⟨qt, 1, none⟩ = some B := (GRB.out.box.grown hg (GRB.out.neP GRB.out.box (by decide))).cell _ _ rfl
            clear h hn
            simp [Oper.wp, execOp, go_sem, r0, r1, c]
            exact hK _ _ (Rg.grown_refl _ _) rfl
          · intro A' w' K vals h hn hg hK
            have r0 : A'.tmps[3]?.getD undef = .pointer (some ⟨qe, 0, none⟩) := Rg.slot (h.1)
            clear h hn hg
            simp [Oper.wp, execOp, go_sem, r0]
            exact hK _ _ (Rg.grown_refl _ _) rfl
          · intro A' w' K vals h hn hg hK
            have r0 : A'.tmps[78]?.getD undef = vals 2 := Rg.slot h.1
            have r1 : vals 2 = (.pointer (some ⟨qe, 1, none⟩)) := hn.1
            have c : w'.cell? ⟨qe, 1, none⟩ = some (.slice (some ⟨eb, eob, none⟩) k ekb) := (BRB.out.grown hg (GRB.out.neP BRB.out (by decide))).cell _ _ rfl
            clear h hn
            simp [Oper.wp, execOp, go_sem, r0, r1, c]
            exact hK _ _ (Rg.grown_refl _ _) rfl
          · intro A' w' K vals h hn hg hK
            have r0 : A'.tmps[12]?.getD undef = (.int .i64 (pp : Int)) := Rg.slot (h.1)
            clear h hn hg
            simp [Oper.wp, execOp, go_sem, r0]
            exact hK _ _ (Rg.grown_refl _ _) rfl
          · intro A' w' K vals h hn hg hK
            have r0 : A'.tmps[79]?.getD undef = vals 3 := Rg.slot h.1
            have r1 : A'.tmps[80]?.getD undef = vals 4 := Rg.slot h.2.1
            have r2 : vals 3 = (.slice (some ⟨eb, eob, none⟩) k ekb) := hn.1
            have r3 : vals 4 = (.int .i64 (pp : Int)) := hn.2.1
            clear h hn hg
            simp [Oper.wp, execOp, go_sem, r0, r1, r2, r3, hki, hk0]
            exact hK _ _ (Rg.grown_refl _ _) rfl
          · intro A' w' K vals h hn hg hK
            have r0 : A'.tmps[81]?.getD undef = vals 5 := Rg.slot h.1
            have r1 : vals 5 = (.pointer (some ⟨eb, eob + pp, none⟩)) := hn.1
            have c : w'.cell? ⟨eb, eob + pp, none⟩ = some (.int .i64 zp) := hg.cell HCB9.out (fun e => by have h1 : wc.heap.size ≤ eb := (own_lt GRB.out.built.own.prio _ e.symm).1; have h2 := HBL.out; omega)
            clear h hn
            simp [Oper.wp, execOp, go_sem, r0, r1, c]
            exact hK _ _ (Rg.grown_refl _ _) rfl
          · intro A' w' K vals h hn hg hK
            have r0 : A'.tmps[82]?.getD undef = vals 6 := Rg.slot h.1
            have s0 : vals 6 = .int .i64 zp := hn.1
            clear h hn
            simp [Oper.wp, execOp, go_sem, r0, s0]
            exact hK _ _ (Rg.grown_weak (World.grownBy_alloc _ _ _)) ⟨w'.heap.size, rfl, hg.size, by simp, by simp⟩
          · intro A' w' K vals h hn hg hK
            have r0 : A'.tmps[77]?.getD undef = vals 1 := Rg.slot h.1
            have r1 : A'.tmps[83]?.getD undef = vals 7 := Rg.slot h.2.1
            have r2 : vals 1 = B := hn.1
            obtain ⟨p, e9, hp, hlt9, c9⟩ : ∃ p, vals 7 = .slice (some ⟨p, 0, none⟩) 1 1 ∧ w9.heap.size ≤ p ∧ p < w'.heap.size ∧ w'.cell? ⟨p, 0, none⟩ = some (.int .i64 zp) := hn.2.1
            clear h hn
            have hg : w9.grownBy w' none := hg
            have own : w'.ownsRow wc.heap.size 3 1 B (G1).prio.length ((G1).prio.map (Value.int .i64)) := own_grown GRB.out.built.own.prio hg
            have hlen : (G1).prio.length = (n + pp) := HLN2.out
            have hrow9 : Row w' (.slice (some ⟨p, 0, none⟩) 1 1) [.int .i64 zp] := ⟨_, _, rfl, .inr ⟨p, 0, rfl, hlt9, fun j u hu => by
              match j, hu with
              | 0, hu => simp at hu; subst hu; exact c9⟩⟩
            obtain ⟨v', w'', hrun, hown, hgr, hat⟩ := run_append elInt 22 own hrow9 (by intro u hu; simp at hu; subst hu; rfl) (by simp; omega) (by simp; omega) (Nat.le_trans GRB.out.size hg.size)
            refine op_append rfl (by simp [Act.eval, r0, r2]) (by simp [Act.eval, r1, e9]) hrun (hK _ _ hgr ⟨hown, ?_⟩)
            rcases hat with hat | hat
            · exact .inl hat
            · exact .inr ⟨_, hat, hg.size⟩
          · intro A' w' K vals h hn hg hK
            have r0 : A'.tmps[11]?.getD undef = .pointer (some ⟨qt, 0, none⟩) := Rg.slot (h.1)
            clear h hn hg
            simp [Oper.wp, execOp, go_sem, r0]
            exact hK _ _ (Rg.grown_refl _ _) rfl
        · refine ⟨?_, ?_, ?_, ?_, ?_, ?_, ?_, ?_, ?_, ?_, trivial⟩
          · exact fun _ _ _ _ _ _ h => h
          · exact fun _ _ _ _ _ _ h => h
          · exact fun _ _ _ _ _ _ h => h
          · exact fun _ _ _ _ _ _ h => h
          · exact fun _ _ _ _ _ _ h => h
          · exact fun _ _ _ _ _ _ h => h
          · exact fun _ _ _ _ _ _ h => h
          · exact fun _ _ _ _ _ h ⟨p, hv, hp, hl, hc⟩ => ⟨p, hv, hp, Nat.lt_of_lt_of_le hl h.size, h.cell hc (fun e => by have := (own_lt GRB.out.built.own.prio p e.symm).2; omega)⟩
          · exact fun _ _ _ _ _ h ho => ⟨own_grown ho.1 h, ho.2⟩
          · exact fun _ _ _ _ _ _ h => h
        · intro vals w2 G hg hS hG
          have s8 : w2.ownsRow wc.heap.size 3 1 (vals 8) ((G1).prio.length + 1) ((G1).prio.map (Value.int .i64) ++ [.int .i64 zp]) ∧ ((vals 8).ownBlock = (B : Value).ownBlock ∨ ∃ p, (vals 8).ownBlock = some p ∧ w9.heap.size ≤ p) := hS.2.2.2.2.2.2.2.2.1
          have s9 : vals 9 = .pointer (some ⟨qt, 1, none⟩) := hS.2.2.2.2.2.2.2.2.2.1
          clear hS
          obtain ⟨V, hV⟩ : ∃ V, vals 8 = V := ⟨_, rfl⟩
          rw [hV] at s8
          have hgw := GRB.out.prio s8.1 hg s8.2
          have hbx := GRB.out.box.grown hg (GRB.out.neP GRB.out.box (by decide))
          have qc : w2.cell? ⟨qt, 1, none⟩ = some B := hbx.cell 1 _ rfl
          have qf : w2.frozen? ⟨qt, 1, none⟩ = false := hbx.frozen 1
          have HGW := Lib.hid hgw
          obtain ⟨vo, vk, rfl, -⟩ := own_at s8.1
          clear hgw hbx s8 hg
          refine hG ?_
          clear hG
          simp [List.dropLast, Rg.putAll, Oper.wp, execOp, go_sem, s9, hV, qc, qf]
          clear qc qf s9 hV
          generalize hwg : (w2.setCell ⟨qt, 1, none⟩ (.slice vo ((G1).prio.length + 1) vk)) = w10 at HGW ⊢
          clear hwg
          obtain ⟨B2, hvn⟩ : ∃ x, Value.slice vo ((G1).prio.length + 1) vk = x := ⟨_, rfl⟩
          obtain ⟨G2, hgn⟩ : ∃ x : P.G, ({ G1 with prio := G1.prio ++ [zp] }) = x := ⟨_, rfl⟩
          rw [hvn, hgn] at HGW
          rw [hvn]
          have GRC := Lib.hid HGW.out
          have HG2 := Lib.hid hgn
          clear HGW hvn hgn
          have WG := Lib.hid (W.out.trans (GRC.out.below.mono W.out.size))
          have BRC := Lib.hid (BCe.out.keep (grown_of_below GRC.out.below none))
          have HG2L := Lib.hid (show G2.moves.length = n + pp by rw [← HG2.out, ← HG1.out]; exact HLN.out.2.2)
          obtain ⟨x, hcx, hix⟩ := HCR.out w10 WG.out pp hlt
          obtain ⟨row, hrow⟩ : ∃ row, h.moves.getD pp [] = row := ⟨_, rfl⟩
          have hat4 := KR.out.at pp (by rw [HK.out]; exact hlt)
          rw [hrow] at hix hat4
          have HROW := Lib.hid hrow
          obtain ⟨ml, hml⟩ : ∃ ml, row.length = ml := ⟨_, rfl⟩
          have hml2 : 0 < ml := by rw [← hml]; exact List.length_pos_iff.2 hat4.2.2.2.1
          have hml200 : ml ≤ 200 := by
            have h1 := hat4.2.2.2.2
            rw [HK.out] at h1
            rw [← hml]
            exact P.rise_len h1 kmany
          have HRB := Lib.hid (show ∀ z ∈ row, 0 ≤ z ∧ z < (k : Int) by
            intro z hz
            have h1 := hat4.2.2.2.2
            rw [HK.out] at h1
            have := P.rise_bounds h1 z hz
            omega)
          obtain ⟨bm, om, km, rfl, hcm⟩ := hix.open_ hml hml2
          have HRX := Lib.hid hcx
          have HCM := Lib.hid hcm
          have HML := Lib.hid hml
          clear hcx hcm hml hat4 hrow
          go_upto_region 15 with (fail)
          go_loopw [13, 14] (fun lv kv wq => ∃ r : Nat, kv = .int .i64 (r : Int) ∧ r ≤ ml ∧ OwnI wq w10.heap.size lv ((P.farRow n row).take r) ∧ Below w10.heap.size w10 wq) (fun _ kv _ => ml - (intOf kv).toNat)
          case atStart => exact ⟨0, rfl, Nat.zero_le _, OwnI.nil _ _, Below.refl _ _⟩
          case round =>
            obtain ⟨r, rfl, hrm, hown_, hbi⟩ := hrel
            have HOI := Lib.hid hown_
            have HBI := Lib.hid hbi
            clear hown_ hbi
            have BRI := Lib.hid (BRC.out.keep (grown_of_below HBI.out none))
            have hrx := (grown_of_below HBI.out none).cell HRX.out (by simp)
            have hbb := BRI.out
            have ec0 : wr.cell? ⟨qe, 0, none⟩ = some (.slice (some ⟨ea, eoa, none⟩) k eka) := hbb.cell 0 _ rfl
            have ec1 : wr.cell? ⟨qe, 1, none⟩ = some (.slice (some ⟨eb, eob, none⟩) k ekb) := hbb.cell 1 _ rfl
            have ec2 : wr.cell? ⟨qe, 2, none⟩ = some (.slice (some ⟨ec, eoc, none⟩) k ekc) := hbb.cell 2 _ rfl
            clear hbb
            by_cases hrl : r < ml
            · have hji : (r : Int) < (ml : Int) := by omega
              have hj0 : (0 : Int) ≤ (r : Int) := by omega
              have fj : decide ((r : Int) < (ml : Int)) = true := decide_eq_true hji
              have hcm := HCM.out wr HBI.out r hrl
              obtain ⟨mz, hmz⟩ : ∃ mz, row.getD r 0 = mz := ⟨_, rfl⟩
              have hmb := HRB.out mz (by rw [← hmz]; exact getD_mem_ (by rw [HML.out]; exact hrl))
              rw [hmz] at hcm
              obtain ⟨hmb0, hmbn⟩ := hmb
              have HTK := Lib.hid (show ((P.farRow n row).take (r + 1)) = ((P.farRow n row).take r) ++ [mz + (n : Int)] by
                rw [take_snoc_ (d := 0) (by rw [farRow_len, HML.out]; exact hrl), farRow_at (by rw [HML.out]; exact hrl), hmz])
              have HLT := Lib.hid (show ((P.farRow n row).take r).length = r by rw [List.length_take, farRow_len, HML.out]; omega)
              clear hmz
              go_upto_region 17 with (fail)
              go_wp2_with (at_builtin; refine wpl_append elInt rfl (.tmp 96) (.tmp 107) rfl rfl (own_grown HOI.out (World.grownBy_alloc _ _ none)) rfl (row_one _ _ _) ?_ ?_ ?_ ?_ ?_)
              · intro u hu; simp at hu; subst hu; rfl
              · have h1 := HLT.out; show (((P.farRow n row).take r).length + 1) * 8 ≤ 140737488355328; omega
              · have h1 := HLT.out; show ((P.farRow n row).take r).length + 1 ≤ _; first | omega | (simp; omega)
              · have := HBI.out.size; simp; omega
              intro v' w7 hown hgr hat
              have HREL := Lib.hid (show OwnI w7 w10.heap.size v' ((P.farRow n row).take (r + 1)) ∧ Below w10.heap.size w10 w7 from ⟨by
                rw [HTK.out]
                unfold OwnI
                simpa using hown, HBI.out.trans (((Below.refl w10.heap.size wr).alloc HBI.out.size _).grown hgr (by have := HBI.out.size; simp; omega) (fun b hb => (own_lt HOI.out b hb).1))⟩)
              clear hown hgr hat hrx hcm
              go_wp2_with fail
              go_roundw
              case rel => exact ⟨r + 1, by go_num, by omega, HREL.out.1, HREL.out.2⟩
              case measure => simp [intOf]; omega
            · obtain rfl : ml = r := by omega
              have fj : decide ((ml : Int) < (ml : Int)) = false := decide_eq_false (by omega)
              have hiown := HOI.out
              rw [List.take_of_length_le (by rw [farRow_len, HML.out]; omega)] at hiown
              have GI := Lib.hid (GRC.out.on (grown_of_below HBI.out none))
              clear hrl hrm
              obtain ⟨vo, vk, rfl, -⟩ := own_at hiown
              have hbx := GI.out.box
              have qc2 : wr.cell? ⟨qt, 2, none⟩ = some C := hbx.cell 2 _ rfl
              clear hbx
              have HIO := Lib.hid hiown
              clear hiown
              go_upto_region 18 with (fail)
              go_wp2_with (at_builtin; refine wpl_append elInts rfl (.tmp 110) (.tmp 112) rfl rfl (own_grown GI.out.built.own.head (World.grownBy_alloc _ _ none)) rfl (row_one _ _ _) ?_ ?_ ?_ ?_ ?_)
              · intro u hu; simp at hu; subst hu; rfl
              · have h1 := HG2L.out; show (G2.moves.length + 1) * 24 ≤ 140737488355328; omega
              · have h1 := HG2L.out; show G2.moves.length + 1 ≤ _; first | omega | (simp; omega)
              · have := GI.out.size; simp; omega
              intro v' w13 hown hgr hat
              have hown2 : w13.ownsRow wc.heap.size 22 1 v' (G2.moves.length + 1) (L ++ [.slice vo (P.farRow n row).length vk]) := hown
              have hal := World.grownBy_alloc wr (.cells #[.slice vo (P.farRow n row).length vk] 22) none
              have hgw := GRC.out.row ((grown_of_below HBI.out none).trans hal) (own_grown HIO.out hal) hown2 hgr
              obtain ⟨co3, ck3, rfl, -⟩ := own_at hown2
              have hbx := (GI.out.on hal).box.grown hgr (fun e => own_box (GI.out.on hal).built.own.head (GI.out.on hal).box (by decide) e.symm)
              have qc3 : w13.cell? ⟨qt, 2, none⟩ = some C := hbx.cell 2 _ rfl
              have qf3 : w13.frozen? ⟨qt, 2, none⟩ = false := hbx.frozen 2
              have HREL := Lib.hid (show Grw wc (w13.setCell ⟨qt, 2, none⟩ (.slice co3 (G2.moves.length + 1) ck3)) qt A2 B2 (.slice co3 (G2.moves.length + 1) ck3) (L ++ [.slice vo (P.farRow n row).length vk]) (besideTo g h n (pp + 1)) by
                rw [besideTo_succ KR.out HK.out hlt, HZO.out, HZP.out, HROW.out]
                have e2 : ({ G2 with moves := G2.moves ++ [P.farRow n row] } : P.G) = ⟨(besideTo g h n pp).owner ++ [zo], (besideTo g h n pp).prio ++ [zp], (besideTo g h n pp).moves ++ [P.farRow n row]⟩ := by rw [← HG2.out, ← HG1.out]
                rw [← e2]
                exact hgw)
              clear hown hown2 hal hgw hbx hgr hat qc2
              go_wp2_with fail
              go_roundw
              case rel => exact ⟨pp + 1, _, _, _, _, by go_num, by omega, HREL.out⟩
              case measure => simp [intOf]; omega
    · obtain rfl : k = pp := by omega
      have fk : decide ((k : Int) < (k : Int)) = false := decide_eq_false (by omega)
      clear hlt hpn
      have HBS := Lib.hid (HR.out.beside HN.out KR.out HK.out hsum)
      have Gt := Lib.hid (show GameV wr (.agg #[A, B, C]) (g.beside h) by
        have h1 := GR.out
        rw [besideTo_all KR.out HN.out HK.out] at h1
        exact h1.game HBS.out.1)
      have BQg := Lib.hid (BCg.out.keep (grown_of_below GR.out.below none))
      have BQe := Lib.hid (BCe.out.keep (grown_of_below GR.out.below none))
      have BQt := Lib.hid GR.out.box
      have W2 := Lib.hid (W.out.trans (GR.out.below.mono W.out.size))
      clear W GR
      have W := W2
      clear W2
      have hbb := BQg.out
      have gc0 : wr.cell? ⟨qg, 0, none⟩ = some (.slice (some ⟨ba, oa, none⟩) n ka) := hbb.cell 0 _ rfl
      have gc1 : wr.cell? ⟨qg, 1, none⟩ = some (.slice (some ⟨bb, ob, none⟩) n kb) := hbb.cell 1 _ rfl
      have gc2 : wr.cell? ⟨qg, 2, none⟩ = some (.slice (some ⟨bc_, oc, none⟩) n kc) := hbb.cell 2 _ rfl
      clear hbb
      go_wp2_with fail
      clear gc0 gc1 gc2 ec0 ec1 ec2
      refine (decomp_any g HR.out n HN.out _ wr (HV.out.on W.out) (T.out.on W.out)).mono ?_
      rintro e w7 ⟨Xa, Ya, cha, depa, ra0, ra1, ba0, ba1, rfl, hd, hb⟩
      obtain ⟨xa0, ka0, rfl, -⟩ := own_at hd.zero.1
      obtain ⟨xa1, ka1, rfl, -⟩ := own_at hd.one.1
      have Da := Lib.hid hd
      have Ia0 := Lib.hid hd.zero.ints
      have Ia1 := Lib.hid hd.one.ints
      replace BQe := Lib.hid (BQe.out.keep (grown_of_below hb none))
      replace BQt := Lib.hid (BQt.out.keep (grown_of_below hb none))
      replace Gt := Lib.hid (Gt.out.on hb)
      replace W := Lib.hid (W.out.trans (hb.mono W.out.size))
      clear hb hd
      go_upto_region 20 with (fail)
      have bq : Box (w7.alloc (.cells #[.slice xa0 (P.lst Xa).length ka0, .slice xa1 (P.lst Ya).length ka1, .slice (some ⟨ba0, 0, none⟩) n n, .slice (some ⟨ba1, 0, none⟩) n n] 32)) w7.heap.size 32 #[.slice xa0 (P.lst Xa).length ka0, .slice xa1 (P.lst Ya).length ka1, .slice (some ⟨ba0, 0, none⟩) n n, .slice (some ⟨ba1, 0, none⟩) n n] := Box.new _ _ _
      have hgq := World.grownBy_alloc w7 (.cells #[.slice xa0 (P.lst Xa).length ka0, .slice xa1 (P.lst Ya).length ka1, .slice (some ⟨ba0, 0, none⟩) n n, .slice (some ⟨ba1, 0, none⟩) n n] 32) none
      replace BQe := Lib.hid (BQe.out.keep hgq)
      replace BQt := Lib.hid (BQt.out.keep hgq)
      replace Gt := Lib.hid (Gt.out.on (below_of_grown hgq))
      replace W := Lib.hid (W.out.trans ((below_of_grown hgq).mono W.out.size))
      replace Ia0 := Lib.hid (Ia0.out.on (below_of_grown hgq))
      replace Ia1 := Lib.hid (Ia1.out.on (below_of_grown hgq))
      generalize (w7.alloc (.cells #[.slice xa0 (P.lst Xa).length ka0, .slice xa1 (P.lst Ya).length ka1, .slice (some ⟨ba0, 0, none⟩) n n, .slice (some ⟨ba1, 0, none⟩) n n] 32)) = wf at bq BQe BQt Gt W Ia0 Ia1 ⊢
      generalize w7.heap.size = qa at bq ⊢
      have BQa := Lib.hid bq
      clear bq hgq
      have hbb := BQe.out
      have ec0 : wf.cell? ⟨qe, 0, none⟩ = some (.slice (some ⟨ea, eoa, none⟩) k eka) := hbb.cell 0 _ rfl
      have ec1 : wf.cell? ⟨qe, 1, none⟩ = some (.slice (some ⟨eb, eob, none⟩) k ekb) := hbb.cell 1 _ rfl
      have ec2 : wf.cell? ⟨qe, 2, none⟩ = some (.slice (some ⟨ec, eoc, none⟩) k ekc) := hbb.cell 2 _ rfl
      clear hbb
      go_wp2_with fail
      clear ec0 ec1 ec2
      refine (decomp_any h KR.out k HK.out _ wf (HU.out.on W.out) (T.out.on W.out)).mono ?_
      rintro e w8 ⟨Xb, Yb, chb, depb, rb0, rb1, bb0, bb1, rfl, hd, hb⟩
      obtain ⟨xb0, kb0, rfl, -⟩ := own_at hd.zero.1
      obtain ⟨xb1, kb1, rfl, -⟩ := own_at hd.one.1
      have Db := Lib.hid hd
      have Ib0 := Lib.hid hd.zero.ints
      have Ib1 := Lib.hid hd.one.ints
      replace BQt := Lib.hid (BQt.out.keep (grown_of_below hb none))
      replace BQa := Lib.hid (BQa.out.keep (grown_of_below hb none))
      replace Gt := Lib.hid (Gt.out.on hb)
      replace Ia0 := Lib.hid (Ia0.out.on hb)
      replace Ia1 := Lib.hid (Ia1.out.on hb)
      replace W := Lib.hid (W.out.trans (hb.mono W.out.size))
      clear hb hd
      go_upto_region 21 with (fail)
      have bq : Box (w8.alloc (.cells #[.slice xb0 (P.lst Xb).length kb0, .slice xb1 (P.lst Yb).length kb1, .slice (some ⟨bb0, 0, none⟩) k k, .slice (some ⟨bb1, 0, none⟩) k k] 32)) w8.heap.size 32 #[.slice xb0 (P.lst Xb).length kb0, .slice xb1 (P.lst Yb).length kb1, .slice (some ⟨bb0, 0, none⟩) k k, .slice (some ⟨bb1, 0, none⟩) k k] := Box.new _ _ _
      have hgq := World.grownBy_alloc w8 (.cells #[.slice xb0 (P.lst Xb).length kb0, .slice xb1 (P.lst Yb).length kb1, .slice (some ⟨bb0, 0, none⟩) k k, .slice (some ⟨bb1, 0, none⟩) k k] 32) none
      replace BQt := Lib.hid (BQt.out.keep hgq)
      replace BQa := Lib.hid (BQa.out.keep hgq)
      replace Gt := Lib.hid (Gt.out.on (below_of_grown hgq))
      replace Ia0 := Lib.hid (Ia0.out.on (below_of_grown hgq))
      replace Ia1 := Lib.hid (Ia1.out.on (below_of_grown hgq))
      replace W := Lib.hid (W.out.trans ((below_of_grown hgq).mono W.out.size))
      replace Ib0 := Lib.hid (Ib0.out.on (below_of_grown hgq))
      replace Ib1 := Lib.hid (Ib1.out.on (below_of_grown hgq))
      generalize (w8.alloc (.cells #[.slice xb0 (P.lst Xb).length kb0, .slice xb1 (P.lst Yb).length kb1, .slice (some ⟨bb0, 0, none⟩) k k, .slice (some ⟨bb1, 0, none⟩) k k] 32)) = wh at bq BQt BQa Gt Ia0 Ia1 W Ib0 Ib1 ⊢
      generalize w8.heap.size = qb at bq ⊢
      have BQb := Lib.hid bq
      clear bq hgq
      have hbb := BQt.out
      have tc0 : wh.cell? ⟨qt, 0, none⟩ = some A := hbb.cell 0 _ rfl
      have tc1 : wh.cell? ⟨qt, 1, none⟩ = some B := hbb.cell 1 _ rfl
      have tc2 : wh.cell? ⟨qt, 2, none⟩ = some C := hbb.cell 2 _ rfl
      clear hbb
      go_wp2_with fail
      clear tc0 tc1 tc2
      refine (decomp_any (g.beside h) HBS.out.1 (n + k) HBS.out.2 _ wh Gt.out (T.out.on W.out)).mono ?_
      rintro e w9 ⟨Xd, Yd, chd, depd, rd0, rd1, bd0, bd1, rfl, hd, hb⟩
      obtain ⟨xd0, kd0, rfl, -⟩ := own_at hd.zero.1
      obtain ⟨xd1, kd1, rfl, -⟩ := own_at hd.one.1
      have Dd := Lib.hid hd
      have Id0 := Lib.hid hd.zero.ints
      have Id1 := Lib.hid hd.one.ints
      replace BQa := Lib.hid (BQa.out.keep (grown_of_below hb none))
      replace BQb := Lib.hid (BQb.out.keep (grown_of_below hb none))
      replace Ia0 := Lib.hid (Ia0.out.on hb)
      replace Ia1 := Lib.hid (Ia1.out.on hb)
      replace Ib0 := Lib.hid (Ib0.out.on hb)
      replace Ib1 := Lib.hid (Ib1.out.on hb)
      replace W := Lib.hid (W.out.trans (hb.mono W.out.size))
      clear hb hd
      go_upto_region 22 with (fail)
      have bq : Box (w9.alloc (.cells #[.slice xd0 (P.lst Xd).length kd0, .slice xd1 (P.lst Yd).length kd1, .slice (some ⟨bd0, 0, none⟩) (n + k) (n + k), .slice (some ⟨bd1, 0, none⟩) (n + k) (n + k)] 32)) w9.heap.size 32 #[.slice xd0 (P.lst Xd).length kd0, .slice xd1 (P.lst Yd).length kd1, .slice (some ⟨bd0, 0, none⟩) (n + k) (n + k), .slice (some ⟨bd1, 0, none⟩) (n + k) (n + k)] := Box.new _ _ _
      have hgq := World.grownBy_alloc w9 (.cells #[.slice xd0 (P.lst Xd).length kd0, .slice xd1 (P.lst Yd).length kd1, .slice (some ⟨bd0, 0, none⟩) (n + k) (n + k), .slice (some ⟨bd1, 0, none⟩) (n + k) (n + k)] 32) none
      replace BQa := Lib.hid (BQa.out.keep hgq)
      replace BQb := Lib.hid (BQb.out.keep hgq)
      replace Ia0 := Lib.hid (Ia0.out.on (below_of_grown hgq))
      replace Ia1 := Lib.hid (Ia1.out.on (below_of_grown hgq))
      replace Ib0 := Lib.hid (Ib0.out.on (below_of_grown hgq))
      replace Ib1 := Lib.hid (Ib1.out.on (below_of_grown hgq))
      replace W := Lib.hid (W.out.trans ((below_of_grown hgq).mono W.out.size))
      replace Id0 := Lib.hid (Id0.out.on (below_of_grown hgq))
      replace Id1 := Lib.hid (Id1.out.on (below_of_grown hgq))
      generalize (w9.alloc (.cells #[.slice xd0 (P.lst Xd).length kd0, .slice xd1 (P.lst Yd).length kd1, .slice (some ⟨bd0, 0, none⟩) (n + k) (n + k), .slice (some ⟨bd1, 0, none⟩) (n + k) (n + k)] 32)) = wb at bq BQa BQb Ia0 Ia1 Ib0 Ib1 W Id0 Id1 ⊢
      generalize w9.heap.size = qd at bq ⊢
      have BQd := Lib.hid bq
      clear bq hgq
      have hsm := P.beside_same HR.out HN.out KR.out HK.out hsum Da.out.ap Db.out.ap Dd.out.ap (fun i => (P.full_bits HR.out HN.out).1 i) (fun i => (P.full_bits KR.out HK.out).1 i) (fun i => (P.full_bits HBS.out.1 HBS.out.2).1 i)
      have HSM := Lib.hid (show lstI Xd = lstI Xa ++ P.farRow n (lstI Xb) ∧ lstI Yd = lstI Ya ++ P.farRow n (lstI Yb) from ⟨lstI_far hsm.1, lstI_far hsm.2⟩)
      clear hsm
      go_wp2_with fail
      go_loopw [21] (fun pv wq => Below wb.heap.size wb wq ∧ (pv = .int .i64 0 ∨ pv = .int .i64 1 ∨ pv = .int .i64 2)) (fun pv _ => 2 - (intOf pv).toNat)
      case atStart => exact ⟨Below.refl _ _, .inl rfl⟩
      case round =>
        obtain ⟨hbb, hst⟩ := hrel
        have HB := Lib.hid hbb
        obtain ⟨wp, hwp⟩ : ∃ wp : World, wp = wr := ⟨_, rfl⟩
        rw [← hwp] at HB ⊢
        clear hbb hwp
        rcases hst with rfl | rfl | rfl
        · obtain ⟨m, hm⟩ : ∃ k, (P.lst Xb).length = k := ⟨_, rfl⟩
          have BQm := Lib.hid (show Box wp qb 32 #[.slice xb0 m kb0, .slice xb1 (P.lst Yb).length kb1, .slice (some ⟨bb0, 0, none⟩) k k, .slice (some ⟨bb1, 0, none⟩) k k] by rw [← hm]; exact BQb.out.keep (grown_of_below HB.out none))
          have IRm := Lib.hid (show Ints wp (.slice xb0 m kb0) (lstI Xb) by rw [← hm]; exact Ib0.out.on HB.out)
          have HML := Lib.hid (show (lstI Xb).length = m by rw [lstI_len]; exact hm)
          have hm256 : m ≤ 256 := by rw [← hm]; exact lst_short _
          have HLA := Lib.hid (show (lstI Xa).length ≤ 256 by rw [lstI_len]; exact lst_short _)
          clear hm
          have BPa := Lib.hid (BQa.out.keep (grown_of_below HB.out none))
          have BPd := Lib.hid (BQd.out.keep (grown_of_below HB.out none))
          have IPd := Lib.hid (Id0.out.on HB.out)
          have HROW := Lib.hid ((Ia0.out.on HB.out).grown (World.grownBy_alloc wp (.cells #[] 3) none)).row
          have hbb := BPa.out
          have pc0 : wp.cell? ⟨qa, 0, none⟩ = some (.slice xa0 (P.lst Xa).length ka0) := hbb.cell 0 _ rfl
          have pc1 : wp.cell? ⟨qa, 1, none⟩ = some (.slice xa1 (P.lst Ya).length ka1) := hbb.cell 1 _ rfl
          have pc2 : wp.cell? ⟨qa, 2, none⟩ = some (.slice (some ⟨ba0, 0, none⟩) n n) := hbb.cell 2 _ rfl
          have pc3 : wp.cell? ⟨qa, 3, none⟩ = some (.slice (some ⟨ba1, 0, none⟩) n n) := hbb.cell 3 _ rfl
          clear hbb
          go_upto_region 25 with (fail)
          have hpa : (wp.alloc (.cells #[] 3)).cell? ⟨qa, 0, none⟩ = some (.slice xa0 (P.lst Xa).length ka0) := (BPa.out.alloc _).cell 0 _ rfl
          go_wp2_with (at_builtin; refine wpl_append_new elInt rfl (.tmp 134) (.tmp 138) rfl rfl (World.ownsRow_made wp #[] 0 (Nat.le_refl _) (by decide) rfl) rfl HROW.out (one_ints (lstI Xa)) ?_ ?_ (by simp) ?_)
          · have h1 := HLA.out; rw [List.length_map]; omega
          · have h1 := HLA.out; rw [List.length_map]; omega
          intro v' w5 hown hgr hat
          have hb5 := below_of_grown ((World.grownBy_alloc wp (.cells #[] 3) none).trans hgr)
          have HO5 := Lib.hid (show OwnI w5 wp.heap.size v' (lstI Xa ++ P.farRow n ((lstI Xb).take 0)) from by
            unfold OwnI
            have h1 := hown
            rw [show P.farRow n ((lstI Xb).take 0) = [] from rfl, List.append_nil]
            exact h1)
          have HB5 := Lib.hid hb5
          clear hown hgr hat hb5 pc0 pc1 pc2 pc3 hpa
          go_wp2_with fail
          go_loopw [22, 23] (fun lv kv wq => ∃ r : Nat, kv = .int .i64 (r : Int) ∧ r ≤ m ∧ OwnI wq wp.heap.size lv (lstI Xa ++ P.farRow n ((lstI Xb).take r)) ∧ Below wp.heap.size wp wq) (fun _ kv _ => m - (intOf kv).toNat)
          case atStart => exact ⟨0, rfl, Nat.zero_le _, HO5.out, HB5.out⟩
          case round =>
            obtain ⟨r, rfl, hrm, hown_, hbi⟩ := hrel
            have HOI := Lib.hid hown_
            have HBI := Lib.hid hbi
            clear hown_ hbi
            have BRm := Lib.hid (BQm.out.keep (grown_of_below HBI.out none))
            have hbb := BRm.out
            have rc0 : wr.cell? ⟨qb, 0, none⟩ = some (.slice xb0 m kb0) := hbb.cell 0 _ rfl
            have rc1 : wr.cell? ⟨qb, 1, none⟩ = some (.slice xb1 (P.lst Yb).length kb1) := hbb.cell 1 _ rfl
            have rc2 : wr.cell? ⟨qb, 2, none⟩ = some (.slice (some ⟨bb0, 0, none⟩) k k) := hbb.cell 2 _ rfl
            have rc3 : wr.cell? ⟨qb, 3, none⟩ = some (.slice (some ⟨bb1, 0, none⟩) k k) := hbb.cell 3 _ rfl
            clear hbb
            by_cases hrl : r < m
            · have hji : (r : Int) < (m : Int) := by omega
              have hj0 : (0 : Int) ≤ (r : Int) := by omega
              have fj : decide ((r : Int) < (m : Int)) = true := decide_eq_true hji
              obtain ⟨bm, om, cm, he, hcm⟩ := IRm.out.open_ HML.out (by omega)
              injection he with he1 _ he3
              subst he1 he3
              have hcm2 := hcm wr HBI.out r hrl
              obtain ⟨mz, hmz⟩ : ∃ mz, (lstI Xb).getD r 0 = mz := ⟨_, rfl⟩
              have hmb := lstI_bound Xb mz (by rw [← hmz]; exact getD_mem_ (by rw [HML.out]; exact hrl))
              rw [hmz] at hcm2
              obtain ⟨hmb0, hmbn⟩ := hmb
              have HTK := Lib.hid (show (lstI Xa ++ P.farRow n ((lstI Xb).take (r + 1))) = (lstI Xa ++ P.farRow n ((lstI Xb).take r)) ++ [mz + (n : Int)] by
                rw [farRow_take (by rw [HML.out]; exact hrl), hmz, List.append_assoc])
              have HLT := Lib.hid (show (lstI Xa ++ P.farRow n ((lstI Xb).take r)).length ≤ 512 by
                have h1 := HLA.out
                rw [List.length_append, farRow_len, List.length_take]
                omega)
              obtain ⟨T0, hT0⟩ : ∃ l, (lstI Xa ++ P.farRow n ((lstI Xb).take r)) = l := ⟨_, rfl⟩
              rw [hT0] at HTK HLT HOI
              clear hmz hcm hT0
              go_upto_region 29 with (fail)
              go_wp2_with (at_builtin; refine wpl_append elInt rfl (.tmp 149) (.tmp 159) rfl rfl (own_grown HOI.out (World.grownBy_alloc _ _ none)) rfl (row_one _ _ _) ?_ ?_ ?_ ?_ ?_)
              · first | rfl | (intro u hu; simp at hu; subst hu; rfl)
              · have h1 := HLT.out; first | omega | (simp; omega)
              · have h1 := HLT.out; first | omega | (simp; omega)
              · have := HBI.out.size; simp; omega
              intro v' w7 hown hgr hat
              have HREL := Lib.hid (show OwnI w7 wp.heap.size v' (lstI Xa ++ P.farRow n ((lstI Xb).take (r + 1))) ∧ Below wp.heap.size wp w7 from ⟨by
                rw [HTK.out]
                unfold OwnI
                simpa using hown, HBI.out.trans (((Below.refl wp.heap.size wr).alloc HBI.out.size _).grown hgr (by have := HBI.out.size; simp; omega) (fun b hb => (own_lt HOI.out b hb).1))⟩)
              clear hown hgr hat hcm2
              go_wp2_with fail
              go_roundw
              case rel => exact ⟨r + 1, by go_num, by omega, HREL.out.1, HREL.out.2⟩
              case measure => simp [intOf]; omega
            · obtain rfl : m = r := by omega
              have fj : decide ((m : Int) < (m : Int)) = false := decide_eq_false (by omega)
              have hiown := HOI.out
              rw [List.take_of_length_le (by rw [HML.out]; omega)] at hiown
              have HI0 := hiown.ints (by have h1 := HLA.out; rw [List.length_append, farRow_len, HML.out]; omega)
              obtain ⟨T1, hT1⟩ : ∃ l, lstI Xa ++ P.farRow n (lstI Xb) = l := ⟨_, rfl⟩
              have HS2 := Lib.hid (HSM.out.1.trans hT1)
              rw [hT1] at hiown HI0
              have HI := Lib.hid HI0
              obtain ⟨vo, vk, rfl, -⟩ := own_at hiown
              clear HI0 hT1
              obtain ⟨t1, ht1⟩ : ∃ l, T1.length = l := ⟨_, rfl⟩
              rw [ht1] at HI ⊢
              clear ht1
              have IWd := Lib.hid (IPd.out.on HBI.out)
              have BWd := Lib.hid (BPd.out.keep (grown_of_below HBI.out none))
              have HBW := Lib.hid (HB.out.trans (HBI.out.mono HB.out.size))
              clear hrl hrm hiown
              have hbb := BWd.out
              have pc0 : wr.cell? ⟨qd, 0, none⟩ = some (.slice xd0 (P.lst Xd).length kd0) := hbb.cell 0 _ rfl
              have pc1 : wr.cell? ⟨qd, 1, none⟩ = some (.slice xd1 (P.lst Yd).length kd1) := hbb.cell 1 _ rfl
              have pc2 : wr.cell? ⟨qd, 2, none⟩ = some (.slice (some ⟨bd0, 0, none⟩) (n + k) (n + k)) := hbb.cell 2 _ rfl
              have pc3 : wr.cell? ⟨qd, 3, none⟩ = some (.slice (some ⟨bd1, 0, none⟩) (n + k) (n + k)) := hbb.cell 3 _ rfl
              clear hbb
              go_wp2_with fail
              refine (sameints_any _ _ _ _ wr IWd.out HI.out).mono ?_
              rintro e w9 ⟨rfl, hb⟩
              rw [decide_eq_true HS2.out]
              replace HBW := Lib.hid (HBW.out.trans (hb.mono HBW.out.size))
              clear hb pc0 pc1 pc2 pc3 rc0 rc1 rc2 rc3
              go_wp2_with fail
              go_roundw
              case rel => exact ⟨HBW.out, .inr (.inl (by first | rfl | go_num))⟩
              case measure => simp [intOf]
        · obtain ⟨m, hm⟩ : ∃ k, (P.lst Yb).length = k := ⟨_, rfl⟩
          have BQm := Lib.hid (show Box wp qb 32 #[.slice xb0 (P.lst Xb).length kb0, .slice xb1 m kb1, .slice (some ⟨bb0, 0, none⟩) k k, .slice (some ⟨bb1, 0, none⟩) k k] by rw [← hm]; exact BQb.out.keep (grown_of_below HB.out none))
          have IRm := Lib.hid (show Ints wp (.slice xb1 m kb1) (lstI Yb) by rw [← hm]; exact Ib1.out.on HB.out)
          have HML := Lib.hid (show (lstI Yb).length = m by rw [lstI_len]; exact hm)
          have hm256 : m ≤ 256 := by rw [← hm]; exact lst_short _
          have HLA := Lib.hid (show (lstI Ya).length ≤ 256 by rw [lstI_len]; exact lst_short _)
          clear hm
          have BPa := Lib.hid (BQa.out.keep (grown_of_below HB.out none))
          have BPd := Lib.hid (BQd.out.keep (grown_of_below HB.out none))
          have IPd := Lib.hid (Id1.out.on HB.out)
          have HROW := Lib.hid ((Ia1.out.on HB.out).grown (World.grownBy_alloc wp (.cells #[] 3) none)).row
          have hbb := BPa.out
          have pc0 : wp.cell? ⟨qa, 0, none⟩ = some (.slice xa0 (P.lst Xa).length ka0) := hbb.cell 0 _ rfl
          have pc1 : wp.cell? ⟨qa, 1, none⟩ = some (.slice xa1 (P.lst Ya).length ka1) := hbb.cell 1 _ rfl
          have pc2 : wp.cell? ⟨qa, 2, none⟩ = some (.slice (some ⟨ba0, 0, none⟩) n n) := hbb.cell 2 _ rfl
          have pc3 : wp.cell? ⟨qa, 3, none⟩ = some (.slice (some ⟨ba1, 0, none⟩) n n) := hbb.cell 3 _ rfl
          clear hbb
          go_upto_region 25 with (fail)
          have hpa : (wp.alloc (.cells #[] 3)).cell? ⟨qa, 1, none⟩ = some (.slice xa1 (P.lst Ya).length ka1) := (BPa.out.alloc _).cell 1 _ rfl
          go_wp2_with (at_builtin; refine wpl_append_new elInt rfl (.tmp 134) (.tmp 138) rfl rfl (World.ownsRow_made wp #[] 0 (Nat.le_refl _) (by decide) rfl) rfl HROW.out (one_ints (lstI Ya)) ?_ ?_ (by simp) ?_)
          · have h1 := HLA.out; rw [List.length_map]; omega
          · have h1 := HLA.out; rw [List.length_map]; omega
          intro v' w5 hown hgr hat
          have hb5 := below_of_grown ((World.grownBy_alloc wp (.cells #[] 3) none).trans hgr)
          have HO5 := Lib.hid (show OwnI w5 wp.heap.size v' (lstI Ya ++ P.farRow n ((lstI Yb).take 0)) from by
            unfold OwnI
            have h1 := hown
            rw [show P.farRow n ((lstI Yb).take 0) = [] from rfl, List.append_nil]
            exact h1)
          have HB5 := Lib.hid hb5
          clear hown hgr hat hb5 pc0 pc1 pc2 pc3 hpa
          go_wp2_with fail
          go_loopw [22, 23] (fun lv kv wq => ∃ r : Nat, kv = .int .i64 (r : Int) ∧ r ≤ m ∧ OwnI wq wp.heap.size lv (lstI Ya ++ P.farRow n ((lstI Yb).take r)) ∧ Below wp.heap.size wp wq) (fun _ kv _ => m - (intOf kv).toNat)
          case atStart => exact ⟨0, rfl, Nat.zero_le _, HO5.out, HB5.out⟩
          case round =>
            obtain ⟨r, rfl, hrm, hown_, hbi⟩ := hrel
            have HOI := Lib.hid hown_
            have HBI := Lib.hid hbi
            clear hown_ hbi
            have BRm := Lib.hid (BQm.out.keep (grown_of_below HBI.out none))
            have hbb := BRm.out
            have rc0 : wr.cell? ⟨qb, 0, none⟩ = some (.slice xb0 (P.lst Xb).length kb0) := hbb.cell 0 _ rfl
            have rc1 : wr.cell? ⟨qb, 1, none⟩ = some (.slice xb1 m kb1) := hbb.cell 1 _ rfl
            have rc2 : wr.cell? ⟨qb, 2, none⟩ = some (.slice (some ⟨bb0, 0, none⟩) k k) := hbb.cell 2 _ rfl
            have rc3 : wr.cell? ⟨qb, 3, none⟩ = some (.slice (some ⟨bb1, 0, none⟩) k k) := hbb.cell 3 _ rfl
            clear hbb
            by_cases hrl : r < m
            · have hji : (r : Int) < (m : Int) := by omega
              have hj0 : (0 : Int) ≤ (r : Int) := by omega
              have fj : decide ((r : Int) < (m : Int)) = true := decide_eq_true hji
              obtain ⟨bm, om, cm, he, hcm⟩ := IRm.out.open_ HML.out (by omega)
              injection he with he1 _ he3
              subst he1 he3
              have hcm2 := hcm wr HBI.out r hrl
              obtain ⟨mz, hmz⟩ : ∃ mz, (lstI Yb).getD r 0 = mz := ⟨_, rfl⟩
              have hmb := lstI_bound Yb mz (by rw [← hmz]; exact getD_mem_ (by rw [HML.out]; exact hrl))
              rw [hmz] at hcm2
              obtain ⟨hmb0, hmbn⟩ := hmb
              have HTK := Lib.hid (show (lstI Ya ++ P.farRow n ((lstI Yb).take (r + 1))) = (lstI Ya ++ P.farRow n ((lstI Yb).take r)) ++ [mz + (n : Int)] by
                rw [farRow_take (by rw [HML.out]; exact hrl), hmz, List.append_assoc])
              have HLT := Lib.hid (show (lstI Ya ++ P.farRow n ((lstI Yb).take r)).length ≤ 512 by
                have h1 := HLA.out
                rw [List.length_append, farRow_len, List.length_take]
                omega)
              obtain ⟨T0, hT0⟩ : ∃ l, (lstI Ya ++ P.farRow n ((lstI Yb).take r)) = l := ⟨_, rfl⟩
              rw [hT0] at HTK HLT HOI
              clear hmz hcm hT0
              go_upto_region 29 with (fail)
              go_wp2_with (at_builtin; refine wpl_append elInt rfl (.tmp 149) (.tmp 159) rfl rfl (own_grown HOI.out (World.grownBy_alloc _ _ none)) rfl (row_one _ _ _) ?_ ?_ ?_ ?_ ?_)
              · first | rfl | (intro u hu; simp at hu; subst hu; rfl)
              · have h1 := HLT.out; first | omega | (simp; omega)
              · have h1 := HLT.out; first | omega | (simp; omega)
              · have := HBI.out.size; simp; omega
              intro v' w7 hown hgr hat
              have HREL := Lib.hid (show OwnI w7 wp.heap.size v' (lstI Ya ++ P.farRow n ((lstI Yb).take (r + 1))) ∧ Below wp.heap.size wp w7 from ⟨by
                rw [HTK.out]
                unfold OwnI
                simpa using hown, HBI.out.trans (((Below.refl wp.heap.size wr).alloc HBI.out.size _).grown hgr (by have := HBI.out.size; simp; omega) (fun b hb => (own_lt HOI.out b hb).1))⟩)
              clear hown hgr hat hcm2
              go_wp2_with fail
              go_roundw
              case rel => exact ⟨r + 1, by go_num, by omega, HREL.out.1, HREL.out.2⟩
              case measure => simp [intOf]; omega
            · obtain rfl : m = r := by omega
              have fj : decide ((m : Int) < (m : Int)) = false := decide_eq_false (by omega)
              have hiown := HOI.out
              rw [List.take_of_length_le (by rw [HML.out]; omega)] at hiown
              have HI0 := hiown.ints (by have h1 := HLA.out; rw [List.length_append, farRow_len, HML.out]; omega)
              obtain ⟨T1, hT1⟩ : ∃ l, lstI Ya ++ P.farRow n (lstI Yb) = l := ⟨_, rfl⟩
              have HS2 := Lib.hid (HSM.out.2.trans hT1)
              rw [hT1] at hiown HI0
              have HI := Lib.hid HI0
              obtain ⟨vo, vk, rfl, -⟩ := own_at hiown
              clear HI0 hT1
              obtain ⟨t1, ht1⟩ : ∃ l, T1.length = l := ⟨_, rfl⟩
              rw [ht1] at HI ⊢
              clear ht1
              have IWd := Lib.hid (IPd.out.on HBI.out)
              have BWd := Lib.hid (BPd.out.keep (grown_of_below HBI.out none))
              have HBW := Lib.hid (HB.out.trans (HBI.out.mono HB.out.size))
              clear hrl hrm hiown
              have hbb := BWd.out
              have pc0 : wr.cell? ⟨qd, 0, none⟩ = some (.slice xd0 (P.lst Xd).length kd0) := hbb.cell 0 _ rfl
              have pc1 : wr.cell? ⟨qd, 1, none⟩ = some (.slice xd1 (P.lst Yd).length kd1) := hbb.cell 1 _ rfl
              have pc2 : wr.cell? ⟨qd, 2, none⟩ = some (.slice (some ⟨bd0, 0, none⟩) (n + k) (n + k)) := hbb.cell 2 _ rfl
              have pc3 : wr.cell? ⟨qd, 3, none⟩ = some (.slice (some ⟨bd1, 0, none⟩) (n + k) (n + k)) := hbb.cell 3 _ rfl
              clear hbb
              go_wp2_with fail
              refine (sameints_any _ _ _ _ wr IWd.out HI.out).mono ?_
              rintro e w9 ⟨rfl, hb⟩
              rw [decide_eq_true HS2.out]
              replace HBW := Lib.hid (HBW.out.trans (hb.mono HBW.out.size))
              clear hb pc0 pc1 pc2 pc3 rc0 rc1 rc2 rc3
              go_wp2_with fail
              go_roundw
              case rel => exact ⟨HBW.out, .inr (.inr (by first | rfl | go_num))⟩
              case measure => simp [intOf]
        · go_wp2_with fail
          have WZ := Lib.hid (W.out.trans (HB.out.mono W.out.size))
          exact bodyPost_ret (v := .bool true) (by simp [results, Tryd.results10, go_sem]) rfl ⟨rfl, WZ.out⟩
theorem two_law (g h : P.G) (v u : Value) (w : World) (hv : GameV w v g) (hu : GameV w u h) (hT : Tab w) : Calls Tryd.prog 10 #[v, u] w fun e w' => e = .returned (.bool true) ∧ Below w.heap.size w w' := by
  cases hok : g.ok
  · exact two_wrong0 g h hok v u w hv hu hT
  · have gr := (P.G.ok_iff g).1 hok
    cases hok2 : h.ok
    · exact two_wrong1 g h hok2 gr v u w hv hu hT
    · have hr := (P.G.ok_iff h).1 hok2
      by_cases hsum : g.owner.length + h.owner.length ≤ 200
      · exact two_right_ g h gr hr hsum v u w hv hu hT
      · exact two_many g h gr hr hsum v u w hv hu hT
end W
end Go.Proofs.YtpjmboonaciplaaDoor
