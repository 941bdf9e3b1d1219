/- DecompAlone: the walk. -/
import Derived.Test.YtpjmboonaciplaaDoorAloA
import Derived.Test.YtpjmboonaciplaaDoorAloB
import Derived.Deep.Cut
import Derived.Lib.Hide
import Derived.Deep.QuietTactic
import Derived.BigQuiet
import Derived.StillTailTactics
namespace Go.Proofs.YtpjmboonaciplaaDoor
open Go.RowKit Go.Sort
namespace W

set_option maxRecDepth 100000 in
set_option maxHeartbeats 4000000 in
theorem alone_wrong_ (g : P.G) (hok : g.ok = false) (v : Value) (p : Int) (w : World) (hv : GameV w v g) (hT : Tab w) : Calls Tryd.prog 9 #[v, .int .i64 p] w fun e w' => e = .returned (.bool true) ∧ Below w.heap.size w w' := by
  have hq0 : g.right.2 ≠ 0 := by unfold P.G.ok at hok; exact beq_eq_false_iff_ne.1 hok
  have HV := Lib.hid hv
  have T := Lib.hid hT
  obtain ⟨a, b, c, rfl, -⟩ := hv
  clear hok hT
  go_enter Tryd.func9, Tryd.ntmps9
  go_wp2_with fail
  have bx0 : Box (w.alloc (.cells #[a, b, c] 25)) (w.heap.size) 25 #[a, b, c] := Box.new w 25 #[a, b, c]
  have hbq : Below w.heap.size w (w.alloc (.cells #[a, b, c] 25)) := (Below.refl _ w).alloc (Nat.le_refl _) _
  have hle0 : w.heap.size ≤ w.heap.size := Nat.le_refl _
  generalize (w.alloc (.cells #[a, b, c] 25)) = w0 at bx0 hbq  ⊢
  have BQg := Lib.hid bx0
  have W := Lib.hid hbq
  have LEg := Lib.hid hle0
  clear hbq hle0 bx0 
  obtain ⟨qg, hqg⟩ : ∃ qg, w.heap.size = qg := ⟨_, rfl⟩
  rw [hqg] at BQg ⊢
  have LEg : Hid (w.heap.size ≤ qg) := Lib.hid (by omega)
  clear hqg
  refine (shown_any w0 (T.out.on W.out)).mono ?_
  rintro e w1 ⟨rfl, hb⟩
  replace BQg := Lib.hid (BQg.out.keep (grown_of_below hb none))
  replace W := Lib.hid (W.out.trans (hb.mono W.out.size))
  clear hb
  have hbb := BQg.out
  have gc0 : w1.cell? ⟨qg, 0, none⟩ = some a := hbb.cell 0 _ rfl
  have gc1 : w1.cell? ⟨qg, 1, none⟩ = some b := hbb.cell 1 _ rfl
  have gc2 : w1.cell? ⟨qg, 2, none⟩ = some c := hbb.cell 2 _ rfl
  clear hbb
  go_wp2_with fail
  clear gc0 gc1 gc2
  refine (right_any g _ _ (HV.out.on W.out)).mono ?_
  rintro e w2 ⟨rfl, hb⟩
  replace BQg := Lib.hid (BQg.out.keep (grown_of_below hb none))
  replace W := Lib.hid (W.out.trans (hb.mono W.out.size))
  clear hb
  obtain ⟨z, hz⟩ : ∃ z, g.right.2 = z := ⟨_, rfl⟩
  rw [hz] at hq0 ⊢
  have fq : (((z : Nat) : Int) != 0) = true := by rw [bne_iff_ne]; omega
  clear hz hq0
  go_wp2_with fail
  exact bodyPost_ret (v := .bool true) (by simp [results, Tryd.results9, go_sem]) rfl ⟨rfl, W.out⟩

set_option maxRecDepth 100000 in
set_option maxHeartbeats 8000000 in
theorem alone_out (g : P.G) (hr : g.Right) (p : Int) (hp0 : p ≠ 0) (hp1 : p ≠ 1) (v : Value) (w : World) (hv : GameV w v g) (hT : Tab w) : Calls Tryd.prog 9 #[v, .int .i64 p] w fun e w' => e = .returned (.bool true) ∧ Below w.heap.size w w' := by
  have fp0 : (p != 0) = true := by rw [bne_iff_ne]; exact hp0
  have fp1 : (p != 1) = true := by rw [bne_iff_ne]; exact hp1
  clear hp0 hp1
  have hq0 : g.right.2 = 0 := by have hok := (P.G.ok_iff g).2 hr; unfold P.G.ok at hok; exact beq_iff_eq.1 hok
  have HV := Lib.hid hv
  have HFI := Lib.hid hv.fits
  have T := Lib.hid hT
  have HR := Lib.hid hr
  obtain ⟨n, hn⟩ : ∃ n, g.owner.length = n := ⟨_, rfl⟩
  have hop := hr.prio
  have hmp := hr.moves
  have hmany := hr.many
  have h0 := hr.pos
  rw [hn] at hop hmp hmany h0
  obtain ⟨ba, oa, ka, bb, ob, kb, bc_, oc, kc, rfl, hco, hcb, hcr⟩ := hv.open_ hn hop hmp h0
  have HCO := Lib.hid hco
  have HCB := Lib.hid hcb
  have HCR := Lib.hid hcr
  clear hco hcb hcr
  have HN := Lib.hid hn
  have HPN := Lib.hid hop
  have HMN := Lib.hid hmp
  clear hr hn hop hmp hv hT 
  go_enter Tryd.func9, Tryd.ntmps9
  go_wp2_with fail
  have bx0 : Box (w.alloc (.cells #[.slice (some ⟨ba, oa, none⟩) n ka, .slice (some ⟨bb, ob, none⟩) n kb, .slice (some ⟨bc_, oc, none⟩) n kc] 25)) (w.heap.size) 25 #[.slice (some ⟨ba, oa, none⟩) n ka, .slice (some ⟨bb, ob, none⟩) n kb, .slice (some ⟨bc_, oc, none⟩) n kc] := Box.new w 25 #[.slice (some ⟨ba, oa, none⟩) n ka, .slice (some ⟨bb, ob, none⟩) n kb, .slice (some ⟨bc_, oc, none⟩) n kc]
  have hbq : Below w.heap.size w (w.alloc (.cells #[.slice (some ⟨ba, oa, none⟩) n ka, .slice (some ⟨bb, ob, none⟩) n kb, .slice (some ⟨bc_, oc, none⟩) n kc] 25)) := (Below.refl _ w).alloc (Nat.le_refl _) _
  have hle0 : w.heap.size ≤ w.heap.size := Nat.le_refl _
  generalize (w.alloc (.cells #[.slice (some ⟨ba, oa, none⟩) n ka, .slice (some ⟨bb, ob, none⟩) n kb, .slice (some ⟨bc_, oc, none⟩) n kc] 25)) = w0 at bx0 hbq  ⊢
  have BQg := Lib.hid bx0
  have W := Lib.hid hbq
  have LEg := Lib.hid hle0
  clear hbq hle0 bx0 
  obtain ⟨qg, hqg⟩ : ∃ qg, w.heap.size = qg := ⟨_, rfl⟩
  rw [hqg] at BQg ⊢
  have LEg : Hid (w.heap.size ≤ qg) := Lib.hid (by omega)
  clear hqg
  refine (shown_any w0 (T.out.on W.out)).mono ?_
  rintro e w1 ⟨rfl, hb⟩
  replace BQg := Lib.hid (BQg.out.keep (grown_of_below hb none))
  replace W := Lib.hid (W.out.trans (hb.mono W.out.size))
  clear hb
  have hbb := BQg.out
  have gc0 : w1.cell? ⟨qg, 0, none⟩ = some (.slice (some ⟨ba, oa, none⟩) n ka) := hbb.cell 0 _ rfl
  have gc1 : w1.cell? ⟨qg, 1, none⟩ = some (.slice (some ⟨bb, ob, none⟩) n kb) := hbb.cell 1 _ rfl
  have gc2 : w1.cell? ⟨qg, 2, none⟩ = some (.slice (some ⟨bc_, oc, none⟩) n kc) := hbb.cell 2 _ rfl
  clear hbb
  go_wp2_with fail
  clear gc0 gc1 gc2
  refine (right_any g _ _ (HV.out.on W.out)).mono ?_
  rintro e w2 ⟨rfl, hb⟩
  replace BQg := Lib.hid (BQg.out.keep (grown_of_below hb none))
  replace W := Lib.hid (W.out.trans (hb.mono W.out.size))
  clear hb
  obtain ⟨z, hz⟩ : ∃ z, g.right.2 = z := ⟨_, rfl⟩
  rw [hz] at hq0 ⊢
  have fq : (((z : Nat) : Int) != 0) = false := by rw [bne_eq_false_iff_eq]; omega
  clear hz hq0
  have hbb := BQg.out
  have gc0 : w2.cell? ⟨qg, 0, none⟩ = some (.slice (some ⟨ba, oa, none⟩) n ka) := hbb.cell 0 _ rfl
  have gc1 : w2.cell? ⟨qg, 1, none⟩ = some (.slice (some ⟨bb, ob, none⟩) n kb) := hbb.cell 1 _ rfl
  have gc2 : w2.cell? ⟨qg, 2, none⟩ = some (.slice (some ⟨bc_, oc, none⟩) n kc) := hbb.cell 2 _ rfl
  clear hbb
  go_wp2_with fail
  clear gc0 gc1 gc2
  exact bodyPost_ret (v := .bool true) (by simp [results, Tryd.results9, go_sem]) rfl ⟨rfl, W.out⟩

set_option maxRecDepth 100000 in
set_option maxHeartbeats 8000000 in
theorem alone_many0 (g : P.G) (hr : g.Right) (h40 : ¬ g.owner.length ≤ 40) (v : Value) (w : World) (hv : GameV w v g) (hT : Tab w) : Calls Tryd.prog 9 #[v, .int .i64 0] w fun e w' => e = .returned (.bool true) ∧ Below w.heap.size w w' := by
  have hq0 : g.right.2 = 0 := by have hok := (P.G.ok_iff g).2 hr; unfold P.G.ok at hok; exact beq_iff_eq.1 hok
  have HV := Lib.hid hv
  have HFI := Lib.hid hv.fits
  have T := Lib.hid hT
  have HR := Lib.hid hr
  obtain ⟨n, hn⟩ : ∃ n, g.owner.length = n := ⟨_, rfl⟩
  have hop := hr.prio
  have hmp := hr.moves
  have hmany := hr.many
  have h0 := hr.pos
  rw [hn] at hop hmp hmany h0
  obtain ⟨ba, oa, ka, bb, ob, kb, bc_, oc, kc, rfl, hco, hcb, hcr⟩ := hv.open_ hn hop hmp h0
  have HCO := Lib.hid hco
  have HCB := Lib.hid hcb
  have HCR := Lib.hid hcr
  clear hco hcb hcr
  rw [hn] at h40
  have f40 : decide ((40 : Int) < (n : Int)) = true := decide_eq_true (by omega)
  have HN := Lib.hid hn
  have HPN := Lib.hid hop
  have HMN := Lib.hid hmp
  clear hr hn hop hmp hv hT 
  go_enter Tryd.func9, Tryd.ntmps9
  go_wp2_with fail
  have bx0 : Box (w.alloc (.cells #[.slice (some ⟨ba, oa, none⟩) n ka, .slice (some ⟨bb, ob, none⟩) n kb, .slice (some ⟨bc_, oc, none⟩) n kc] 25)) (w.heap.size) 25 #[.slice (some ⟨ba, oa, none⟩) n ka, .slice (some ⟨bb, ob, none⟩) n kb, .slice (some ⟨bc_, oc, none⟩) n kc] := Box.new w 25 #[.slice (some ⟨ba, oa, none⟩) n ka, .slice (some ⟨bb, ob, none⟩) n kb, .slice (some ⟨bc_, oc, none⟩) n kc]
  have hbq : Below w.heap.size w (w.alloc (.cells #[.slice (some ⟨ba, oa, none⟩) n ka, .slice (some ⟨bb, ob, none⟩) n kb, .slice (some ⟨bc_, oc, none⟩) n kc] 25)) := (Below.refl _ w).alloc (Nat.le_refl _) _
  have hle0 : w.heap.size ≤ w.heap.size := Nat.le_refl _
  generalize (w.alloc (.cells #[.slice (some ⟨ba, oa, none⟩) n ka, .slice (some ⟨bb, ob, none⟩) n kb, .slice (some ⟨bc_, oc, none⟩) n kc] 25)) = w0 at bx0 hbq  ⊢
  have BQg := Lib.hid bx0
  have W := Lib.hid hbq
  have LEg := Lib.hid hle0
  clear hbq hle0 bx0 
  obtain ⟨qg, hqg⟩ : ∃ qg, w.heap.size = qg := ⟨_, rfl⟩
  rw [hqg] at BQg ⊢
  have LEg : Hid (w.heap.size ≤ qg) := Lib.hid (by omega)
  clear hqg
  refine (shown_any w0 (T.out.on W.out)).mono ?_
  rintro e w1 ⟨rfl, hb⟩
  replace BQg := Lib.hid (BQg.out.keep (grown_of_below hb none))
  replace W := Lib.hid (W.out.trans (hb.mono W.out.size))
  clear hb
  have hbb := BQg.out
  have gc0 : w1.cell? ⟨qg, 0, none⟩ = some (.slice (some ⟨ba, oa, none⟩) n ka) := hbb.cell 0 _ rfl
  have gc1 : w1.cell? ⟨qg, 1, none⟩ = some (.slice (some ⟨bb, ob, none⟩) n kb) := hbb.cell 1 _ rfl
  have gc2 : w1.cell? ⟨qg, 2, none⟩ = some (.slice (some ⟨bc_, oc, none⟩) n kc) := hbb.cell 2 _ rfl
  clear hbb
  go_wp2_with fail
  clear gc0 gc1 gc2
  refine (right_any g _ _ (HV.out.on W.out)).mono ?_
  rintro e w2 ⟨rfl, hb⟩
  replace BQg := Lib.hid (BQg.out.keep (grown_of_below hb none))
  replace W := Lib.hid (W.out.trans (hb.mono W.out.size))
  clear hb
  obtain ⟨z, hz⟩ : ∃ z, g.right.2 = z := ⟨_, rfl⟩
  rw [hz] at hq0 ⊢
  have fq : (((z : Nat) : Int) != 0) = false := by rw [bne_eq_false_iff_eq]; omega
  clear hz hq0
  have hbb := BQg.out
  have gc0 : w2.cell? ⟨qg, 0, none⟩ = some (.slice (some ⟨ba, oa, none⟩) n ka) := hbb.cell 0 _ rfl
  have gc1 : w2.cell? ⟨qg, 1, none⟩ = some (.slice (some ⟨bb, ob, none⟩) n kb) := hbb.cell 1 _ rfl
  have gc2 : w2.cell? ⟨qg, 2, none⟩ = some (.slice (some ⟨bc_, oc, none⟩) n kc) := hbb.cell 2 _ rfl
  clear hbb
  go_wp2_with fail
  clear gc0 gc1 gc2
  exact bodyPost_ret (v := .bool true) (by simp [results, Tryd.results9, go_sem]) rfl ⟨rfl, W.out⟩

set_option maxRecDepth 100000 in
set_option maxHeartbeats 8000000 in
theorem alone_many1 (g : P.G) (hr : g.Right) (h40 : ¬ g.owner.length ≤ 40) (v : Value) (w : World) (hv : GameV w v g) (hT : Tab w) : Calls Tryd.prog 9 #[v, .int .i64 1] w fun e w' => e = .returned (.bool true) ∧ Below w.heap.size w w' := by
  have hq0 : g.right.2 = 0 := by have hok := (P.G.ok_iff g).2 hr; unfold P.G.ok at hok; exact beq_iff_eq.1 hok
  have HV := Lib.hid hv
  have HFI := Lib.hid hv.fits
  have T := Lib.hid hT
  have HR := Lib.hid hr
  obtain ⟨n, hn⟩ : ∃ n, g.owner.length = n := ⟨_, rfl⟩
  have hop := hr.prio
  have hmp := hr.moves
  have hmany := hr.many
  have h0 := hr.pos
  rw [hn] at hop hmp hmany h0
  obtain ⟨ba, oa, ka, bb, ob, kb, bc_, oc, kc, rfl, hco, hcb, hcr⟩ := hv.open_ hn hop hmp h0
  have HCO := Lib.hid hco
  have HCB := Lib.hid hcb
  have HCR := Lib.hid hcr
  clear hco hcb hcr
  rw [hn] at h40
  have f40 : decide ((40 : Int) < (n : Int)) = true := decide_eq_true (by omega)
  have HN := Lib.hid hn
  have HPN := Lib.hid hop
  have HMN := Lib.hid hmp
  clear hr hn hop hmp hv hT 
  go_enter Tryd.func9, Tryd.ntmps9
  go_wp2_with fail
  have bx0 : Box (w.alloc (.cells #[.slice (some ⟨ba, oa, none⟩) n ka, .slice (some ⟨bb, ob, none⟩) n kb, .slice (some ⟨bc_, oc, none⟩) n kc] 25)) (w.heap.size) 25 #[.slice (some ⟨ba, oa, none⟩) n ka, .slice (some ⟨bb, ob, none⟩) n kb, .slice (some ⟨bc_, oc, none⟩) n kc] := Box.new w 25 #[.slice (some ⟨ba, oa, none⟩) n ka, .slice (some ⟨bb, ob, none⟩) n kb, .slice (some ⟨bc_, oc, none⟩) n kc]
  have hbq : Below w.heap.size w (w.alloc (.cells #[.slice (some ⟨ba, oa, none⟩) n ka, .slice (some ⟨bb, ob, none⟩) n kb, .slice (some ⟨bc_, oc, none⟩) n kc] 25)) := (Below.refl _ w).alloc (Nat.le_refl _) _
  have hle0 : w.heap.size ≤ w.heap.size := Nat.le_refl _
  generalize (w.alloc (.cells #[.slice (some ⟨ba, oa, none⟩) n ka, .slice (some ⟨bb, ob, none⟩) n kb, .slice (some ⟨bc_, oc, none⟩) n kc] 25)) = w0 at bx0 hbq  ⊢
  have BQg := Lib.hid bx0
  have W := Lib.hid hbq
  have LEg := Lib.hid hle0
  clear hbq hle0 bx0 
  obtain ⟨qg, hqg⟩ : ∃ qg, w.heap.size = qg := ⟨_, rfl⟩
  rw [hqg] at BQg ⊢
  have LEg : Hid (w.heap.size ≤ qg) := Lib.hid (by omega)
  clear hqg
  refine (shown_any w0 (T.out.on W.out)).mono ?_
  rintro e w1 ⟨rfl, hb⟩
  replace BQg := Lib.hid (BQg.out.keep (grown_of_below hb none))
  replace W := Lib.hid (W.out.trans (hb.mono W.out.size))
  clear hb
  have hbb := BQg.out
  have gc0 : w1.cell? ⟨qg, 0, none⟩ = some (.slice (some ⟨ba, oa, none⟩) n ka) := hbb.cell 0 _ rfl
  have gc1 : w1.cell? ⟨qg, 1, none⟩ = some (.slice (some ⟨bb, ob, none⟩) n kb) := hbb.cell 1 _ rfl
  have gc2 : w1.cell? ⟨qg, 2, none⟩ = some (.slice (some ⟨bc_, oc, none⟩) n kc) := hbb.cell 2 _ rfl
  clear hbb
  go_wp2_with fail
  clear gc0 gc1 gc2
  refine (right_any g _ _ (HV.out.on W.out)).mono ?_
  rintro e w2 ⟨rfl, hb⟩
  replace BQg := Lib.hid (BQg.out.keep (grown_of_below hb none))
  replace W := Lib.hid (W.out.trans (hb.mono W.out.size))
  clear hb
  obtain ⟨z, hz⟩ : ∃ z, g.right.2 = z := ⟨_, rfl⟩
  rw [hz] at hq0 ⊢
  have fq : (((z : Nat) : Int) != 0) = false := by rw [bne_eq_false_iff_eq]; omega
  clear hz hq0
  have hbb := BQg.out
  have gc0 : w2.cell? ⟨qg, 0, none⟩ = some (.slice (some ⟨ba, oa, none⟩) n ka) := hbb.cell 0 _ rfl
  have gc1 : w2.cell? ⟨qg, 1, none⟩ = some (.slice (some ⟨bb, ob, none⟩) n kb) := hbb.cell 1 _ rfl
  have gc2 : w2.cell? ⟨qg, 2, none⟩ = some (.slice (some ⟨bc_, oc, none⟩) n kc) := hbb.cell 2 _ rfl
  clear hbb
  go_wp2_with fail
  clear gc0 gc1 gc2
  exact bodyPost_ret (v := .bool true) (by simp [results, Tryd.results9, go_sem]) rfl ⟨rfl, W.out⟩
theorem alone_law (g : P.G) (p : Int) (v : Value) (w : World) (hv : GameV w v g) (hT : Tab w) : Calls Tryd.prog 9 #[v, .int .i64 p] w fun e w' => e = .returned (.bool true) ∧ Below w.heap.size w w' := by
  cases hok : g.ok
  · exact alone_wrong_ g hok v p w hv hT
  · have hr := (P.G.ok_iff g).1 hok
    by_cases hp0 : p = 0
    · subst hp0
      by_cases h40 : g.owner.length ≤ 40
      · exact alone_0 g hr h40 v w hv hT
      · exact alone_many0 g hr h40 v w hv hT
    · by_cases hp1 : p = 1
      · subst hp1
        by_cases h40 : g.owner.length ≤ 40
        · exact alone_1 g hr h40 v w hv hT
        · exact alone_many1 g hr h40 v w hv hT
      · exact alone_out g hr p hp0 hp1 v w hv hT
end W
end Go.Proofs.YtpjmboonaciplaaDoor
