/- Are two claims' regions the same; and what the document's Solve says of a game that is not right. -/
import Derived.Test.YtpjmboonaciplaaDoorSam
import Derived.Test.YtpjmboonaciplaaDoorHep
import Derived.Test.YtpjmboonaciplaaDoorIs
import Derived.Test.YtpjmboonaciplaaDoorSvA
import Derived.Deep.Cut
import Derived.Lib.Hide
import Derived.Deep.QuietTactic
import Derived.BigQuiet
import Derived.StillTailTactics
namespace Go.Proofs.YtpjmboonaciplaaDoor
open Go.RowKit
namespace W

set_option maxRecDepth 100000 in
set_option maxHeartbeats 4000000 in
theorem alike_any (A0 A1 B0 B1 : List Int) (a0 a1 b0 b1 : Value) (w : World) (ha0 : Ints w a0 A0) (ha1 : Ints w a1 A1) (hb0 : Ints w b0 B0) (hb1 : Ints w b1 B1) : Calls Tryd.prog 16 #[.agg #[a0, a1], .agg #[b0, b1]] w fun e w' => e = .returned (.bool (decide (A0 = B0) && decide (A1 = B1))) ∧ Below w.heap.size w w' := by
  have IA0 := Lib.hid ha0
  have IA1 := Lib.hid ha1
  have IB0 := Lib.hid hb0
  have IB1 := Lib.hid hb1
  clear ha0 ha1 hb0 hb1
  go_enter Tryd.func16, Tryd.ntmps16
  go_wp2_with fail
  have bx0 : Box ((w.alloc (.cells #[a0, a1] 29)).alloc (.cells #[b0, b1] 29)) (w.heap.size) 29 #[a0, a1] := Box.alloc (Box.new w 29 #[a0, a1]) (.cells #[b0, b1] 29)
  have bx1 : Box ((w.alloc (.cells #[a0, a1] 29)).alloc (.cells #[b0, b1] 29)) (w.heap.size + 1) 29 #[b0, b1] := by
    have := Box.new (w.alloc (.cells #[a0, a1] 29)) 29 #[b0, b1]
    simpa using this
  have hbq : Below w.heap.size w ((w.alloc (.cells #[a0, a1] 29)).alloc (.cells #[b0, b1] 29)) := ((Below.refl _ w).alloc (Nat.le_refl _) _).alloc (by simp) _
  have lt0 : w.heap.size < w.heap.size + 1 := Nat.lt_succ_self _
  have hle0 : w.heap.size ≤ w.heap.size := Nat.le_refl _
  generalize ((w.alloc (.cells #[a0, a1] 29)).alloc (.cells #[b0, b1] 29)) = w0 at bx0 bx1 hbq  ⊢
  have BQa := Lib.hid bx0
  have BQb := Lib.hid bx1
  have W := Lib.hid hbq
  have LTab := Lib.hid lt0
  have LEa := Lib.hid hle0
  clear hbq hle0 bx0 bx1 lt0
  generalize w.heap.size + 1 = qb at BQb LTab ⊢
  obtain ⟨qa, hqa⟩ : ∃ qa, w.heap.size = qa := ⟨_, rfl⟩
  rw [hqa] at BQa LTab ⊢
  have LEa : Hid (w.heap.size ≤ qa) := Lib.hid (by omega)
  clear hqa
  replace IA0 := Lib.hid (IA0.out.on W.out)
  replace IA1 := Lib.hid (IA1.out.on W.out)
  replace IB0 := Lib.hid (IB0.out.on W.out)
  replace IB1 := Lib.hid (IB1.out.on W.out)
  have hbb := BQa.out
  have pc0 : w0.cell? ⟨qa, 0, none⟩ = some a0 := hbb.cell 0 _ rfl
  have pc1 : w0.cell? ⟨qa, 1, none⟩ = some a1 := hbb.cell 1 _ rfl
  clear hbb
  have hbb := BQb.out
  have rc0 : w0.cell? ⟨qb, 0, none⟩ = some b0 := hbb.cell 0 _ rfl
  have rc1 : w0.cell? ⟨qb, 1, none⟩ = some b1 := hbb.cell 1 _ rfl
  clear hbb
  go_wp2_with fail
  clear pc0 pc1 rc0 rc1
  refine (sameints_any _ _ _ _ w0 IA0.out IB0.out).mono ?_
  rintro e w1 ⟨rfl, hb⟩
  obtain ⟨t, ht⟩ : ∃ t, decide (A0 = B0) = t := ⟨_, rfl⟩
  rw [ht]
  replace BQa := Lib.hid (BQa.out.keep (grown_of_below hb none))
  replace BQb := Lib.hid (BQb.out.keep (grown_of_below hb none))
  replace IA1 := Lib.hid (IA1.out.on hb)
  replace IB1 := Lib.hid (IB1.out.on hb)
  replace W := Lib.hid (W.out.trans (hb.mono W.out.size))
  clear hb
  have HT := Lib.hid ht
  clear ht
  have hbb := BQa.out
  have pc0 : w1.cell? ⟨qa, 0, none⟩ = some a0 := hbb.cell 0 _ rfl
  have pc1 : w1.cell? ⟨qa, 1, none⟩ = some a1 := hbb.cell 1 _ rfl
  clear hbb
  have hbb := BQb.out
  have rc0 : w1.cell? ⟨qb, 0, none⟩ = some b0 := hbb.cell 0 _ rfl
  have rc1 : w1.cell? ⟨qb, 1, none⟩ = some b1 := hbb.cell 1 _ rfl
  clear hbb
  cases t
  · go_wp2_with fail
    exact bodyPost_ret (v := .bool false) (by simp [results, Tryd.results16, go_sem]) rfl ⟨by rw [HT.out, Bool.false_and], W.out⟩
  · go_wp2_with fail
    refine (sameints_any _ _ _ _ w1 IA1.out IB1.out).mono ?_
    rintro e w2 ⟨rfl, hb⟩
    obtain ⟨t, ht⟩ : ∃ t, decide (A1 = B1) = t := ⟨_, rfl⟩
    rw [ht]
    replace W := Lib.hid (W.out.trans (hb.mono W.out.size))
    have HT2 := Lib.hid ht
    clear hb ht
    go_wp2_with fail
    exact bodyPost_ret (v := .bool t) (by simp [results, Tryd.results16, go_sem]) rfl ⟨by rw [HT.out, HT2.out, Bool.true_and], W.out⟩

set_option maxRecDepth 100000 in
set_option maxHeartbeats 4000000 in
theorem solve13_wrong (g : P.G) (hok : g.ok = false) (v : Value) (w : World) (hv : GameV w v g) : Calls Tryd.prog 14 #[v] w fun e w' => e = .returned (.agg #[.slice none 0 0, .slice none 0 0]) ∧ Below w.heap.size w w' := by
  have HV := Lib.hid hv
  have HOK := Lib.hid hok
  obtain ⟨a, b, c, rfl, -⟩ := hv
  clear hok
  go_enter Tryd.func14, Tryd.ntmps14
  go_wp2_with fail
  have bx0 : Box (((w.alloc (.cells #[a, b, c] 25)).alloc (.cells #[.slice none 0 0, .slice none 0 0] 29)).alloc (.cells #[.slice none 0 0, .slice none 0 0] 29)) (w.heap.size) 25 #[a, b, c] := Box.alloc (Box.alloc (Box.new w 25 #[a, b, c]) (.cells #[.slice none 0 0, .slice none 0 0] 29)) (.cells #[.slice none 0 0, .slice none 0 0] 29)
  have bx1 : Box (((w.alloc (.cells #[a, b, c] 25)).alloc (.cells #[.slice none 0 0, .slice none 0 0] 29)).alloc (.cells #[.slice none 0 0, .slice none 0 0] 29)) (w.heap.size + 1) 29 #[.slice none 0 0, .slice none 0 0] := by
    have := Box.alloc (Box.new (w.alloc (.cells #[a, b, c] 25)) 29 #[.slice none 0 0, .slice none 0 0]) (.cells #[.slice none 0 0, .slice none 0 0] 29)
    simpa using this
  have bx2 : Box (((w.alloc (.cells #[a, b, c] 25)).alloc (.cells #[.slice none 0 0, .slice none 0 0] 29)).alloc (.cells #[.slice none 0 0, .slice none 0 0] 29)) (w.heap.size + 1 + 1) 29 #[.slice none 0 0, .slice none 0 0] := by
    have := Box.new ((w.alloc (.cells #[a, b, c] 25)).alloc (.cells #[.slice none 0 0, .slice none 0 0] 29)) 29 #[.slice none 0 0, .slice none 0 0]
    simpa using this
  have hbq : Below w.heap.size w (((w.alloc (.cells #[a, b, c] 25)).alloc (.cells #[.slice none 0 0, .slice none 0 0] 29)).alloc (.cells #[.slice none 0 0, .slice none 0 0] 29)) := (((Below.refl _ w).alloc (Nat.le_refl _) _).alloc (by simp) _).alloc (by simp; omega) _
  have lt0 : w.heap.size < w.heap.size + 1 := Nat.lt_succ_self _
  have lt1 : w.heap.size + 1 < w.heap.size + 1 + 1 := Nat.lt_succ_self _
  have hle0 : w.heap.size ≤ w.heap.size := Nat.le_refl _
  generalize (((w.alloc (.cells #[a, b, c] 25)).alloc (.cells #[.slice none 0 0, .slice none 0 0] 29)).alloc (.cells #[.slice none 0 0, .slice none 0 0] 29)) = w0 at bx0 bx1 bx2 hbq  ⊢
  have BQg := Lib.hid bx0
  have BQr := Lib.hid bx1
  have BQo := Lib.hid bx2
  have W := Lib.hid hbq
  have LTgr := Lib.hid lt0
  have LTro := Lib.hid lt1
  have LEg := Lib.hid hle0
  clear hbq hle0 bx0 bx1 bx2 lt0 lt1
  generalize w.heap.size + 1 + 1 = qo at BQo LTro ⊢
  generalize w.heap.size + 1 = qr at BQr LTro LTgr ⊢
  obtain ⟨qg, hqg⟩ : ∃ qg, w.heap.size = qg := ⟨_, rfl⟩
  rw [hqg] at BQg LTgr ⊢
  have LEg : Hid (w.heap.size ≤ qg) := Lib.hid (by omega)
  clear hqg
  refine (is_any g _ w0 (HV.out.on W.out)).mono ?_
  rintro e w1 ⟨rfl, hb⟩
  rw [HOK.out]
  replace BQg := Lib.hid (BQg.out.keep (grown_of_below hb none))
  replace BQr := Lib.hid (BQr.out.keep (grown_of_below hb none))
  replace BQo := Lib.hid (BQo.out.keep (grown_of_below hb none))
  replace W := Lib.hid (W.out.trans (hb.mono W.out.size))
  clear hb
  have hbr := BQr.out
  have rc0 : w1.cell? ⟨qr, 0, none⟩ = some (.slice none 0 0) := hbr.cell 0 _ rfl
  have rc1 : w1.cell? ⟨qr, 1, none⟩ = some (.slice none 0 0) := hbr.cell 1 _ rfl
  have rf0 : w1.frozen? ⟨qr, 0, none⟩ = false := hbr.frozen 0
  have rf1 : w1.frozen? ⟨qr, 1, none⟩ = false := hbr.frozen 1
  clear hbr
  have hbb := BQo.out
  have zc0 : w1.cell? ⟨qo, 0, none⟩ = some (.slice none 0 0) := hbb.cell 0 _ rfl
  have zc1 : w1.cell? ⟨qo, 1, none⟩ = some (.slice none 0 0) := hbb.cell 1 _ rfl
  clear hbb
  have HW := Lib.hid ((W.out.setCell (p := ⟨qr, 0, none⟩) (by have h1 := LEg.out; have h2 := LTgr.out; show w.heap.size ≤ qr; omega) (.slice none 0 0)).setCell (p := ⟨qr, 1, none⟩) (by have h1 := LEg.out; have h2 := LTgr.out; show w.heap.size ≤ qr; omega) (.slice none 0 0))
  go_wp2_with fail
  exact bodyPost_ret (v := .agg #[.slice none 0 0, .slice none 0 0]) (by simp [results, Tryd.results14, go_sem, rc0, rc1]) rfl ⟨rfl, HW.out⟩
end W
end Go.Proofs.YtpjmboonaciplaaDoor
