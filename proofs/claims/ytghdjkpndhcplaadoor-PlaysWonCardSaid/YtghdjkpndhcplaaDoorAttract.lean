/- Attract: the walk. -/
import Derived.Test.YtghdjkpndhcplaaDoorCounting
import Derived.Test.YtghdjkpndhcplaaDoorAttA
import Derived.Test.YtghdjkpndhcplaaDoorLeaf4
import Derived.Test.YtghdjkpndhcplaaDoorRight
import Derived.Test.YtghdjkpndhcplaaDoorMemA
import Derived.Test.YtghdjkpndhcplaaDoorAttM
import Derived.Deep.Cut
namespace Go.Proofs.YtghdjkpndhcplaaDoor
open Go.RowKit
namespace W

/-- What Attract hands back. -/
def Attracted (w : World) (g : P.G) (I : BitVec 256) (p : Int) (To : BitVec 256) (e : Ending) (w' : World) : Prop := ∃ v m, e = .returned (.tuple #[.agg #[.int .u64 (P.wrd (P.attOf g I p To) 0), .int .u64 (P.wrd (P.attOf g I p To) 1), .int .u64 (P.wrd (P.attOf g I p To) 2), .int .u64 (P.wrd (P.attOf g I p To) 3)], v]) ∧ OwnI w' w.heap.size v m ∧
  (if g.ok = true ∧ (p = 0 ∨ p = 1) then P.Played g (I &&& P.full (g.owner.length : Int)) p To m else m = []) ∧ Below w.heap.size w w'

set_option maxRecDepth 100000 in
set_option maxHeartbeats 1000000 in
theorem attract_wrong (g : P.G) (I To : BitVec 256) (p : Int) (v : Value) (w : World) (hv : GameV w v g) (hok : g.ok = false) : Calls Tryd.prog 33 #[v, .agg #[.int .u64 (P.wrd I 0), .int .u64 (P.wrd I 1), .int .u64 (P.wrd I 2), .int .u64 (P.wrd I 3)], .int .i64 p, .agg #[.int .u64 (P.wrd To 0), .int .u64 (P.wrd To 1), .int .u64 (P.wrd To 2), .int .u64 (P.wrd To 3)]] w (Attracted w g I p To) := by
  have HNO : Hid (¬ (g.ok = true ∧ (p = 0 ∨ p = 1))) := Lib.hid (by rw [hok]; simp)
  have hq0 : g.right.2 ≠ 0 := by unfold P.G.ok at hok; exact beq_eq_false_iff_ne.1 hok
  clear hok
  have HV := Lib.hid hv
  obtain ⟨a, b, c, rfl, -⟩ := hv
  go_enter Tryd.func33, Tryd.ntmps33
  go_wp2_with fail
  have bx0 : Box ((((w.alloc (.cells #[a, b, c] 25)).alloc (.cells #[.int .u64 (P.wrd I 0), .int .u64 (P.wrd I 1), .int .u64 (P.wrd I 2), .int .u64 (P.wrd I 3)] 37)).alloc (.cells #[.int .u64 (P.wrd To 0), .int .u64 (P.wrd To 1), .int .u64 (P.wrd To 2), .int .u64 (P.wrd To 3)] 37)).alloc (.cells #[.int .u64 0, .int .u64 0, .int .u64 0, .int .u64 0] 37)) (w.heap.size) 25 #[a, b, c] := Box.alloc (Box.alloc (Box.alloc (Box.new w 25 #[a, b, c]) (.cells #[.int .u64 (P.wrd I 0), .int .u64 (P.wrd I 1), .int .u64 (P.wrd I 2), .int .u64 (P.wrd I 3)] 37)) (.cells #[.int .u64 (P.wrd To 0), .int .u64 (P.wrd To 1), .int .u64 (P.wrd To 2), .int .u64 (P.wrd To 3)] 37)) (.cells #[.int .u64 0, .int .u64 0, .int .u64 0, .int .u64 0] 37)
  have bx1 : Box ((((w.alloc (.cells #[a, b, c] 25)).alloc (.cells #[.int .u64 (P.wrd I 0), .int .u64 (P.wrd I 1), .int .u64 (P.wrd I 2), .int .u64 (P.wrd I 3)] 37)).alloc (.cells #[.int .u64 (P.wrd To 0), .int .u64 (P.wrd To 1), .int .u64 (P.wrd To 2), .int .u64 (P.wrd To 3)] 37)).alloc (.cells #[.int .u64 0, .int .u64 0, .int .u64 0, .int .u64 0] 37)) (w.heap.size + 1) 37 #[.int .u64 (P.wrd I 0), .int .u64 (P.wrd I 1), .int .u64 (P.wrd I 2), .int .u64 (P.wrd I 3)] := by
    have := Box.alloc (Box.alloc (Box.new (w.alloc (.cells #[a, b, c] 25)) 37 #[.int .u64 (P.wrd I 0), .int .u64 (P.wrd I 1), .int .u64 (P.wrd I 2), .int .u64 (P.wrd I 3)]) (.cells #[.int .u64 (P.wrd To 0), .int .u64 (P.wrd To 1), .int .u64 (P.wrd To 2), .int .u64 (P.wrd To 3)] 37)) (.cells #[.int .u64 0, .int .u64 0, .int .u64 0, .int .u64 0] 37)
    simpa using this
  have bx2 : Box ((((w.alloc (.cells #[a, b, c] 25)).alloc (.cells #[.int .u64 (P.wrd I 0), .int .u64 (P.wrd I 1), .int .u64 (P.wrd I 2), .int .u64 (P.wrd I 3)] 37)).alloc (.cells #[.int .u64 (P.wrd To 0), .int .u64 (P.wrd To 1), .int .u64 (P.wrd To 2), .int .u64 (P.wrd To 3)] 37)).alloc (.cells #[.int .u64 0, .int .u64 0, .int .u64 0, .int .u64 0] 37)) (w.heap.size + 1 + 1) 37 #[.int .u64 (P.wrd To 0), .int .u64 (P.wrd To 1), .int .u64 (P.wrd To 2), .int .u64 (P.wrd To 3)] := by
    have := Box.alloc (Box.new ((w.alloc (.cells #[a, b, c] 25)).alloc (.cells #[.int .u64 (P.wrd I 0), .int .u64 (P.wrd I 1), .int .u64 (P.wrd I 2), .int .u64 (P.wrd I 3)] 37)) 37 #[.int .u64 (P.wrd To 0), .int .u64 (P.wrd To 1), .int .u64 (P.wrd To 2), .int .u64 (P.wrd To 3)]) (.cells #[.int .u64 0, .int .u64 0, .int .u64 0, .int .u64 0] 37)
    simpa using this
  have bx3 : Box ((((w.alloc (.cells #[a, b, c] 25)).alloc (.cells #[.int .u64 (P.wrd I 0), .int .u64 (P.wrd I 1), .int .u64 (P.wrd I 2), .int .u64 (P.wrd I 3)] 37)).alloc (.cells #[.int .u64 (P.wrd To 0), .int .u64 (P.wrd To 1), .int .u64 (P.wrd To 2), .int .u64 (P.wrd To 3)] 37)).alloc (.cells #[.int .u64 0, .int .u64 0, .int .u64 0, .int .u64 0] 37)) (w.heap.size + 1 + 1 + 1) 37 #[.int .u64 0, .int .u64 0, .int .u64 0, .int .u64 0] := by
    have := Box.new (((w.alloc (.cells #[a, b, c] 25)).alloc (.cells #[.int .u64 (P.wrd I 0), .int .u64 (P.wrd I 1), .int .u64 (P.wrd I 2), .int .u64 (P.wrd I 3)] 37)).alloc (.cells #[.int .u64 (P.wrd To 0), .int .u64 (P.wrd To 1), .int .u64 (P.wrd To 2), .int .u64 (P.wrd To 3)] 37)) 37 #[.int .u64 0, .int .u64 0, .int .u64 0, .int .u64 0]
    simpa using this
  have hbq : Below w.heap.size w ((((w.alloc (.cells #[a, b, c] 25)).alloc (.cells #[.int .u64 (P.wrd I 0), .int .u64 (P.wrd I 1), .int .u64 (P.wrd I 2), .int .u64 (P.wrd I 3)] 37)).alloc (.cells #[.int .u64 (P.wrd To 0), .int .u64 (P.wrd To 1), .int .u64 (P.wrd To 2), .int .u64 (P.wrd To 3)] 37)).alloc (.cells #[.int .u64 0, .int .u64 0, .int .u64 0, .int .u64 0] 37)) := ((((Below.refl _ w).alloc (Nat.le_refl _) _).alloc (by simp) _).alloc (by simp; omega) _).alloc (by simp; omega) _
  have lt0 : w.heap.size < w.heap.size + 1 := Nat.lt_succ_self _
  have lt1 : w.heap.size + 1 < w.heap.size + 1 + 1 := Nat.lt_succ_self _
  have lt2 : w.heap.size + 1 + 1 < w.heap.size + 1 + 1 + 1 := Nat.lt_succ_self _
  have hle0 : w.heap.size ≤ w.heap.size := Nat.le_refl _
  generalize ((((w.alloc (.cells #[a, b, c] 25)).alloc (.cells #[.int .u64 (P.wrd I 0), .int .u64 (P.wrd I 1), .int .u64 (P.wrd I 2), .int .u64 (P.wrd I 3)] 37)).alloc (.cells #[.int .u64 (P.wrd To 0), .int .u64 (P.wrd To 1), .int .u64 (P.wrd To 2), .int .u64 (P.wrd To 3)] 37)).alloc (.cells #[.int .u64 0, .int .u64 0, .int .u64 0, .int .u64 0] 37)) = w0 at bx0 bx1 bx2 bx3 hbq  ⊢
  have BQg := Lib.hid bx0
  have BQi := Lib.hid bx1
  have BQt := Lib.hid bx2
  have BQr := Lib.hid bx3
  have W := Lib.hid hbq
  have LTgi := Lib.hid lt0
  have LTit := Lib.hid lt1
  have LTtr := Lib.hid lt2
  have LEg := Lib.hid hle0
  clear hbq hle0 bx0 bx1 bx2 bx3 lt0 lt1 lt2
  generalize w.heap.size + 1 + 1 + 1 = qr at BQr LTtr ⊢
  generalize w.heap.size + 1 + 1 = qt at BQt LTtr LTit ⊢
  generalize w.heap.size + 1 = qi at BQi LTit LTgi ⊢
  obtain ⟨qg, hqg⟩ : ∃ qg, w.heap.size = qg := ⟨_, rfl⟩
  rw [hqg] at BQg LTgi ⊢
  have LEg : Hid (w.heap.size ≤ qg) := Lib.hid (by omega)
  clear hqg
  refine (right_any g _ _ (HV.out.on W.out)).mono ?_
  rintro e w1 ⟨rfl, hb⟩
  replace BQg := Lib.hid (BQg.out.keep (grown_of_below hb none))
  replace BQi := Lib.hid (BQi.out.keep (grown_of_below hb none))
  replace BQt := Lib.hid (BQt.out.keep (grown_of_below hb none))
  replace BQr := Lib.hid (BQr.out.keep (grown_of_below hb none))
  replace W := Lib.hid (W.out.trans (hb.mono W.out.size))
  clear hb
  obtain ⟨z, hz⟩ : ∃ z, g.right.2 = z := ⟨_, rfl⟩
  rw [hz] at hq0 ⊢
  have fq : (((z : Nat) : Int) != 0) = true := by rw [bne_iff_ne]; omega
  clear hz hq0
  have hbb := BQr.out
  have rc0 : w1.cell? ⟨qr, 0, none⟩ = some (.int .u64 0) := hbb.cell 0 _ rfl
  have rc1 : w1.cell? ⟨qr, 1, none⟩ = some (.int .u64 0) := hbb.cell 1 _ rfl
  have rc2 : w1.cell? ⟨qr, 2, none⟩ = some (.int .u64 0) := hbb.cell 2 _ rfl
  have rc3 : w1.cell? ⟨qr, 3, none⟩ = some (.int .u64 0) := hbb.cell 3 _ rfl
  have rf0 : w1.frozen? ⟨qr, 0, none⟩ = false := hbb.frozen 0
  have rf1 : w1.frozen? ⟨qr, 1, none⟩ = false := hbb.frozen 1
  have rf2 : w1.frozen? ⟨qr, 2, none⟩ = false := hbb.frozen 2
  have rf3 : w1.frozen? ⟨qr, 3, none⟩ = false := hbb.frozen 3
  clear hbb
  have HPO : Hid (Below w.heap.size w ((((w1.setCell ⟨qr, 0, none⟩ (.int .u64 0)).setCell ⟨qr, 1, none⟩ (.int .u64 0)).setCell ⟨qr, 2, none⟩ (.int .u64 0)).setCell ⟨qr, 3, none⟩ (.int .u64 0))) := Lib.hid (W.out.trans (below4 _ _ _ _ (by have h1 := LEg.out; have h2 := LTgi.out; have h3 := LTit.out; have h4 := LTtr.out; omega)))
  go_wp2_with fail
  refine bodyPost_ret (v := .tuple #[.agg #[.int .u64 0, .int .u64 0, .int .u64 0, .int .u64 0], .slice none 0 0]) (by simp [results, Tryd.results33, go_sem, rc0, rc1, rc2, rc3]) rfl ?_
  unfold Attracted P.attOf
  rw [if_neg HNO.out]
  exact ⟨_, _, by have e : ∀ k, P.wrd 0#256 k = 0 := P.wrd_zero; rw [e, e, e, e], OwnI.nil _ _, by rw [if_neg HNO.out], HPO.out⟩

set_option maxRecDepth 100000 in
set_option maxHeartbeats 1000000 in
theorem attract_none (g : P.G) (I To : BitVec 256) (p : Int) (v : Value) (w : World) (hv : GameV w v g) (hok : g.ok = true) (h0 : p ≠ 0) (h1 : p ≠ 1) : Calls Tryd.prog 33 #[v, .agg #[.int .u64 (P.wrd I 0), .int .u64 (P.wrd I 1), .int .u64 (P.wrd I 2), .int .u64 (P.wrd I 3)], .int .i64 p, .agg #[.int .u64 (P.wrd To 0), .int .u64 (P.wrd To 1), .int .u64 (P.wrd To 2), .int .u64 (P.wrd To 3)]] w (Attracted w g I p To) := by
  have HNO : Hid (¬ (g.ok = true ∧ (p = 0 ∨ p = 1))) := Lib.hid (by rintro ⟨-, h | h⟩; exact h0 h; exact h1 h)
  have hq0 : g.right.2 = 0 := by unfold P.G.ok at hok; exact beq_iff_eq.1 hok
  have f0 : (p != 0) = true := bne_iff_ne.2 h0
  have f1 : (p != 1) = true := bne_iff_ne.2 h1
  clear hok h0 h1
  have HV := Lib.hid hv
  obtain ⟨a, b, c, rfl, -⟩ := hv
  go_enter Tryd.func33, Tryd.ntmps33
  go_wp2_with fail
  have bx0 : Box ((((w.alloc (.cells #[a, b, c] 25)).alloc (.cells #[.int .u64 (P.wrd I 0), .int .u64 (P.wrd I 1), .int .u64 (P.wrd I 2), .int .u64 (P.wrd I 3)] 37)).alloc (.cells #[.int .u64 (P.wrd To 0), .int .u64 (P.wrd To 1), .int .u64 (P.wrd To 2), .int .u64 (P.wrd To 3)] 37)).alloc (.cells #[.int .u64 0, .int .u64 0, .int .u64 0, .int .u64 0] 37)) (w.heap.size) 25 #[a, b, c] := Box.alloc (Box.alloc (Box.alloc (Box.new w 25 #[a, b, c]) (.cells #[.int .u64 (P.wrd I 0), .int .u64 (P.wrd I 1), .int .u64 (P.wrd I 2), .int .u64 (P.wrd I 3)] 37)) (.cells #[.int .u64 (P.wrd To 0), .int .u64 (P.wrd To 1), .int .u64 (P.wrd To 2), .int .u64 (P.wrd To 3)] 37)) (.cells #[.int .u64 0, .int .u64 0, .int .u64 0, .int .u64 0] 37)
  have bx1 : Box ((((w.alloc (.cells #[a, b, c] 25)).alloc (.cells #[.int .u64 (P.wrd I 0), .int .u64 (P.wrd I 1), .int .u64 (P.wrd I 2), .int .u64 (P.wrd I 3)] 37)).alloc (.cells #[.int .u64 (P.wrd To 0), .int .u64 (P.wrd To 1), .int .u64 (P.wrd To 2), .int .u64 (P.wrd To 3)] 37)).alloc (.cells #[.int .u64 0, .int .u64 0, .int .u64 0, .int .u64 0] 37)) (w.heap.size + 1) 37 #[.int .u64 (P.wrd I 0), .int .u64 (P.wrd I 1), .int .u64 (P.wrd I 2), .int .u64 (P.wrd I 3)] := by
    have := Box.alloc (Box.alloc (Box.new (w.alloc (.cells #[a, b, c] 25)) 37 #[.int .u64 (P.wrd I 0), .int .u64 (P.wrd I 1), .int .u64 (P.wrd I 2), .int .u64 (P.wrd I 3)]) (.cells #[.int .u64 (P.wrd To 0), .int .u64 (P.wrd To 1), .int .u64 (P.wrd To 2), .int .u64 (P.wrd To 3)] 37)) (.cells #[.int .u64 0, .int .u64 0, .int .u64 0, .int .u64 0] 37)
    simpa using this
  have bx2 : Box ((((w.alloc (.cells #[a, b, c] 25)).alloc (.cells #[.int .u64 (P.wrd I 0), .int .u64 (P.wrd I 1), .int .u64 (P.wrd I 2), .int .u64 (P.wrd I 3)] 37)).alloc (.cells #[.int .u64 (P.wrd To 0), .int .u64 (P.wrd To 1), .int .u64 (P.wrd To 2), .int .u64 (P.wrd To 3)] 37)).alloc (.cells #[.int .u64 0, .int .u64 0, .int .u64 0, .int .u64 0] 37)) (w.heap.size + 1 + 1) 37 #[.int .u64 (P.wrd To 0), .int .u64 (P.wrd To 1), .int .u64 (P.wrd To 2), .int .u64 (P.wrd To 3)] := by
    have := Box.alloc (Box.new ((w.alloc (.cells #[a, b, c] 25)).alloc (.cells #[.int .u64 (P.wrd I 0), .int .u64 (P.wrd I 1), .int .u64 (P.wrd I 2), .int .u64 (P.wrd I 3)] 37)) 37 #[.int .u64 (P.wrd To 0), .int .u64 (P.wrd To 1), .int .u64 (P.wrd To 2), .int .u64 (P.wrd To 3)]) (.cells #[.int .u64 0, .int .u64 0, .int .u64 0, .int .u64 0] 37)
    simpa using this
  have bx3 : Box ((((w.alloc (.cells #[a, b, c] 25)).alloc (.cells #[.int .u64 (P.wrd I 0), .int .u64 (P.wrd I 1), .int .u64 (P.wrd I 2), .int .u64 (P.wrd I 3)] 37)).alloc (.cells #[.int .u64 (P.wrd To 0), .int .u64 (P.wrd To 1), .int .u64 (P.wrd To 2), .int .u64 (P.wrd To 3)] 37)).alloc (.cells #[.int .u64 0, .int .u64 0, .int .u64 0, .int .u64 0] 37)) (w.heap.size + 1 + 1 + 1) 37 #[.int .u64 0, .int .u64 0, .int .u64 0, .int .u64 0] := by
    have := Box.new (((w.alloc (.cells #[a, b, c] 25)).alloc (.cells #[.int .u64 (P.wrd I 0), .int .u64 (P.wrd I 1), .int .u64 (P.wrd I 2), .int .u64 (P.wrd I 3)] 37)).alloc (.cells #[.int .u64 (P.wrd To 0), .int .u64 (P.wrd To 1), .int .u64 (P.wrd To 2), .int .u64 (P.wrd To 3)] 37)) 37 #[.int .u64 0, .int .u64 0, .int .u64 0, .int .u64 0]
    simpa using this
  have hbq : Below w.heap.size w ((((w.alloc (.cells #[a, b, c] 25)).alloc (.cells #[.int .u64 (P.wrd I 0), .int .u64 (P.wrd I 1), .int .u64 (P.wrd I 2), .int .u64 (P.wrd I 3)] 37)).alloc (.cells #[.int .u64 (P.wrd To 0), .int .u64 (P.wrd To 1), .int .u64 (P.wrd To 2), .int .u64 (P.wrd To 3)] 37)).alloc (.cells #[.int .u64 0, .int .u64 0, .int .u64 0, .int .u64 0] 37)) := ((((Below.refl _ w).alloc (Nat.le_refl _) _).alloc (by simp) _).alloc (by simp; omega) _).alloc (by simp; omega) _
  have lt0 : w.heap.size < w.heap.size + 1 := Nat.lt_succ_self _
  have lt1 : w.heap.size + 1 < w.heap.size + 1 + 1 := Nat.lt_succ_self _
  have lt2 : w.heap.size + 1 + 1 < w.heap.size + 1 + 1 + 1 := Nat.lt_succ_self _
  have hle0 : w.heap.size ≤ w.heap.size := Nat.le_refl _
  generalize ((((w.alloc (.cells #[a, b, c] 25)).alloc (.cells #[.int .u64 (P.wrd I 0), .int .u64 (P.wrd I 1), .int .u64 (P.wrd I 2), .int .u64 (P.wrd I 3)] 37)).alloc (.cells #[.int .u64 (P.wrd To 0), .int .u64 (P.wrd To 1), .int .u64 (P.wrd To 2), .int .u64 (P.wrd To 3)] 37)).alloc (.cells #[.int .u64 0, .int .u64 0, .int .u64 0, .int .u64 0] 37)) = w0 at bx0 bx1 bx2 bx3 hbq  ⊢
  have BQg := Lib.hid bx0
  have BQi := Lib.hid bx1
  have BQt := Lib.hid bx2
  have BQr := Lib.hid bx3
  have W := Lib.hid hbq
  have LTgi := Lib.hid lt0
  have LTit := Lib.hid lt1
  have LTtr := Lib.hid lt2
  have LEg := Lib.hid hle0
  clear hbq hle0 bx0 bx1 bx2 bx3 lt0 lt1 lt2
  generalize w.heap.size + 1 + 1 + 1 = qr at BQr LTtr ⊢
  generalize w.heap.size + 1 + 1 = qt at BQt LTtr LTit ⊢
  generalize w.heap.size + 1 = qi at BQi LTit LTgi ⊢
  obtain ⟨qg, hqg⟩ : ∃ qg, w.heap.size = qg := ⟨_, rfl⟩
  rw [hqg] at BQg LTgi ⊢
  have LEg : Hid (w.heap.size ≤ qg) := Lib.hid (by omega)
  clear hqg
  refine (right_any g _ _ (HV.out.on W.out)).mono ?_
  rintro e w1 ⟨rfl, hb⟩
  replace BQg := Lib.hid (BQg.out.keep (grown_of_below hb none))
  replace BQi := Lib.hid (BQi.out.keep (grown_of_below hb none))
  replace BQt := Lib.hid (BQt.out.keep (grown_of_below hb none))
  replace BQr := Lib.hid (BQr.out.keep (grown_of_below hb none))
  replace W := Lib.hid (W.out.trans (hb.mono W.out.size))
  clear hb
  obtain ⟨z, hz⟩ : ∃ z, g.right.2 = z := ⟨_, rfl⟩
  rw [hz] at hq0 ⊢
  have fq : (((z : Nat) : Int) != 0) = false := by rw [bne_eq_false_iff_eq]; omega
  clear hz hq0
  have hbb := BQr.out
  have rc0 : w1.cell? ⟨qr, 0, none⟩ = some (.int .u64 0) := hbb.cell 0 _ rfl
  have rc1 : w1.cell? ⟨qr, 1, none⟩ = some (.int .u64 0) := hbb.cell 1 _ rfl
  have rc2 : w1.cell? ⟨qr, 2, none⟩ = some (.int .u64 0) := hbb.cell 2 _ rfl
  have rc3 : w1.cell? ⟨qr, 3, none⟩ = some (.int .u64 0) := hbb.cell 3 _ rfl
  have rf0 : w1.frozen? ⟨qr, 0, none⟩ = false := hbb.frozen 0
  have rf1 : w1.frozen? ⟨qr, 1, none⟩ = false := hbb.frozen 1
  have rf2 : w1.frozen? ⟨qr, 2, none⟩ = false := hbb.frozen 2
  have rf3 : w1.frozen? ⟨qr, 3, none⟩ = false := hbb.frozen 3
  clear hbb
  have HPO : Hid (Below w.heap.size w ((((w1.setCell ⟨qr, 0, none⟩ (.int .u64 0)).setCell ⟨qr, 1, none⟩ (.int .u64 0)).setCell ⟨qr, 2, none⟩ (.int .u64 0)).setCell ⟨qr, 3, none⟩ (.int .u64 0))) := Lib.hid (W.out.trans (below4 _ _ _ _ (by have h1 := LEg.out; have h2 := LTgi.out; have h3 := LTit.out; have h4 := LTtr.out; omega)))
  go_wp2_with fail
  refine bodyPost_ret (v := .tuple #[.agg #[.int .u64 0, .int .u64 0, .int .u64 0, .int .u64 0], .slice none 0 0]) (by simp [results, Tryd.results33, go_sem, rc0, rc1, rc2, rc3]) rfl ?_
  unfold Attracted P.attOf
  rw [if_neg HNO.out]
  exact ⟨_, _, by have e : ∀ k, P.wrd 0#256 k = 0 := P.wrd_zero; rw [e, e, e, e], OwnI.nil _ _, by rw [if_neg HNO.out], HPO.out⟩

set_option maxRecDepth 100000 in
set_option maxHeartbeats 1000000 in
theorem attract_0 (g : P.G) (I To : BitVec 256) (v : Value) (w : World) (hv : GameV w v g) (hT : Tab w) (hok : g.ok = true) : Calls Tryd.prog 33 #[v, .agg #[.int .u64 (P.wrd I 0), .int .u64 (P.wrd I 1), .int .u64 (P.wrd I 2), .int .u64 (P.wrd I 3)], .int .i64 0, .agg #[.int .u64 (P.wrd To 0), .int .u64 (P.wrd To 1), .int .u64 (P.wrd To 2), .int .u64 (P.wrd To 3)]] w (Attracted w g I 0 To) := by
  have hr := (P.G.ok_iff g).1 hok
  have hq0 : g.right.2 = 0 := by unfold P.G.ok at hok; exact beq_iff_eq.1 hok
  have HOK := Lib.hid hok
  have HV := Lib.hid hv
  have hop := hr.prio
  have hmp := hr.moves
  have hmany := hr.many
  have h0 := hr.pos
  obtain ⟨n, hn⟩ : ∃ n, g.owner.length = n := ⟨_, rfl⟩
  rw [hn] at hop hmp hmany h0
  obtain ⟨ba, oa, ka, bb, ob, kb, bc, oc, kc, rfl, hca, -, -⟩ := hv.open_ hn hop hmp h0
  have HCA := Lib.hid hca
  have HR := Lib.hid hr
  have T := Lib.hid hT
  have HN := Lib.hid hn
  clear hca hr hT hn hop hmp hv hok
  go_enter Tryd.func33, Tryd.ntmps33
  go_wp2_with fail
  have bx0 : Box ((((w.alloc (.cells #[.slice (some ⟨ba, oa, none⟩) n ka, .slice (some ⟨bb, ob, none⟩) n kb, .slice (some ⟨bc, oc, none⟩) n kc] 25)).alloc (.cells #[.int .u64 (P.wrd I 0), .int .u64 (P.wrd I 1), .int .u64 (P.wrd I 2), .int .u64 (P.wrd I 3)] 37)).alloc (.cells #[.int .u64 (P.wrd To 0), .int .u64 (P.wrd To 1), .int .u64 (P.wrd To 2), .int .u64 (P.wrd To 3)] 37)).alloc (.cells #[.int .u64 0, .int .u64 0, .int .u64 0, .int .u64 0] 37)) (w.heap.size) 25 #[.slice (some ⟨ba, oa, none⟩) n ka, .slice (some ⟨bb, ob, none⟩) n kb, .slice (some ⟨bc, oc, none⟩) n kc] := Box.alloc (Box.alloc (Box.alloc (Box.new w 25 #[.slice (some ⟨ba, oa, none⟩) n ka, .slice (some ⟨bb, ob, none⟩) n kb, .slice (some ⟨bc, oc, none⟩) n kc]) (.cells #[.int .u64 (P.wrd I 0), .int .u64 (P.wrd I 1), .int .u64 (P.wrd I 2), .int .u64 (P.wrd I 3)] 37)) (.cells #[.int .u64 (P.wrd To 0), .int .u64 (P.wrd To 1), .int .u64 (P.wrd To 2), .int .u64 (P.wrd To 3)] 37)) (.cells #[.int .u64 0, .int .u64 0, .int .u64 0, .int .u64 0] 37)
  have bx1 : Box ((((w.alloc (.cells #[.slice (some ⟨ba, oa, none⟩) n ka, .slice (some ⟨bb, ob, none⟩) n kb, .slice (some ⟨bc, oc, none⟩) n kc] 25)).alloc (.cells #[.int .u64 (P.wrd I 0), .int .u64 (P.wrd I 1), .int .u64 (P.wrd I 2), .int .u64 (P.wrd I 3)] 37)).alloc (.cells #[.int .u64 (P.wrd To 0), .int .u64 (P.wrd To 1), .int .u64 (P.wrd To 2), .int .u64 (P.wrd To 3)] 37)).alloc (.cells #[.int .u64 0, .int .u64 0, .int .u64 0, .int .u64 0] 37)) (w.heap.size + 1) 37 #[.int .u64 (P.wrd I 0), .int .u64 (P.wrd I 1), .int .u64 (P.wrd I 2), .int .u64 (P.wrd I 3)] := by
    have := Box.alloc (Box.alloc (Box.new (w.alloc (.cells #[.slice (some ⟨ba, oa, none⟩) n ka, .slice (some ⟨bb, ob, none⟩) n kb, .slice (some ⟨bc, oc, none⟩) n kc] 25)) 37 #[.int .u64 (P.wrd I 0), .int .u64 (P.wrd I 1), .int .u64 (P.wrd I 2), .int .u64 (P.wrd I 3)]) (.cells #[.int .u64 (P.wrd To 0), .int .u64 (P.wrd To 1), .int .u64 (P.wrd To 2), .int .u64 (P.wrd To 3)] 37)) (.cells #[.int .u64 0, .int .u64 0, .int .u64 0, .int .u64 0] 37)
    simpa using this
  have bx2 : Box ((((w.alloc (.cells #[.slice (some ⟨ba, oa, none⟩) n ka, .slice (some ⟨bb, ob, none⟩) n kb, .slice (some ⟨bc, oc, none⟩) n kc] 25)).alloc (.cells #[.int .u64 (P.wrd I 0), .int .u64 (P.wrd I 1), .int .u64 (P.wrd I 2), .int .u64 (P.wrd I 3)] 37)).alloc (.cells #[.int .u64 (P.wrd To 0), .int .u64 (P.wrd To 1), .int .u64 (P.wrd To 2), .int .u64 (P.wrd To 3)] 37)).alloc (.cells #[.int .u64 0, .int .u64 0, .int .u64 0, .int .u64 0] 37)) (w.heap.size + 1 + 1) 37 #[.int .u64 (P.wrd To 0), .int .u64 (P.wrd To 1), .int .u64 (P.wrd To 2), .int .u64 (P.wrd To 3)] := by
    have := Box.alloc (Box.new ((w.alloc (.cells #[.slice (some ⟨ba, oa, none⟩) n ka, .slice (some ⟨bb, ob, none⟩) n kb, .slice (some ⟨bc, oc, none⟩) n kc] 25)).alloc (.cells #[.int .u64 (P.wrd I 0), .int .u64 (P.wrd I 1), .int .u64 (P.wrd I 2), .int .u64 (P.wrd I 3)] 37)) 37 #[.int .u64 (P.wrd To 0), .int .u64 (P.wrd To 1), .int .u64 (P.wrd To 2), .int .u64 (P.wrd To 3)]) (.cells #[.int .u64 0, .int .u64 0, .int .u64 0, .int .u64 0] 37)
    simpa using this
  have bx3 : Box ((((w.alloc (.cells #[.slice (some ⟨ba, oa, none⟩) n ka, .slice (some ⟨bb, ob, none⟩) n kb, .slice (some ⟨bc, oc, none⟩) n kc] 25)).alloc (.cells #[.int .u64 (P.wrd I 0), .int .u64 (P.wrd I 1), .int .u64 (P.wrd I 2), .int .u64 (P.wrd I 3)] 37)).alloc (.cells #[.int .u64 (P.wrd To 0), .int .u64 (P.wrd To 1), .int .u64 (P.wrd To 2), .int .u64 (P.wrd To 3)] 37)).alloc (.cells #[.int .u64 0, .int .u64 0, .int .u64 0, .int .u64 0] 37)) (w.heap.size + 1 + 1 + 1) 37 #[.int .u64 0, .int .u64 0, .int .u64 0, .int .u64 0] := by
    have := Box.new (((w.alloc (.cells #[.slice (some ⟨ba, oa, none⟩) n ka, .slice (some ⟨bb, ob, none⟩) n kb, .slice (some ⟨bc, oc, none⟩) n kc] 25)).alloc (.cells #[.int .u64 (P.wrd I 0), .int .u64 (P.wrd I 1), .int .u64 (P.wrd I 2), .int .u64 (P.wrd I 3)] 37)).alloc (.cells #[.int .u64 (P.wrd To 0), .int .u64 (P.wrd To 1), .int .u64 (P.wrd To 2), .int .u64 (P.wrd To 3)] 37)) 37 #[.int .u64 0, .int .u64 0, .int .u64 0, .int .u64 0]
    simpa using this
  have hbq : Below w.heap.size w ((((w.alloc (.cells #[.slice (some ⟨ba, oa, none⟩) n ka, .slice (some ⟨bb, ob, none⟩) n kb, .slice (some ⟨bc, oc, none⟩) n kc] 25)).alloc (.cells #[.int .u64 (P.wrd I 0), .int .u64 (P.wrd I 1), .int .u64 (P.wrd I 2), .int .u64 (P.wrd I 3)] 37)).alloc (.cells #[.int .u64 (P.wrd To 0), .int .u64 (P.wrd To 1), .int .u64 (P.wrd To 2), .int .u64 (P.wrd To 3)] 37)).alloc (.cells #[.int .u64 0, .int .u64 0, .int .u64 0, .int .u64 0] 37)) := ((((Below.refl _ w).alloc (Nat.le_refl _) _).alloc (by simp) _).alloc (by simp; omega) _).alloc (by simp; omega) _
  have lt0 : w.heap.size < w.heap.size + 1 := Nat.lt_succ_self _
  have lt1 : w.heap.size + 1 < w.heap.size + 1 + 1 := Nat.lt_succ_self _
  have lt2 : w.heap.size + 1 + 1 < w.heap.size + 1 + 1 + 1 := Nat.lt_succ_self _
  have hle0 : w.heap.size ≤ w.heap.size := Nat.le_refl _
  generalize ((((w.alloc (.cells #[.slice (some ⟨ba, oa, none⟩) n ka, .slice (some ⟨bb, ob, none⟩) n kb, .slice (some ⟨bc, oc, none⟩) n kc] 25)).alloc (.cells #[.int .u64 (P.wrd I 0), .int .u64 (P.wrd I 1), .int .u64 (P.wrd I 2), .int .u64 (P.wrd I 3)] 37)).alloc (.cells #[.int .u64 (P.wrd To 0), .int .u64 (P.wrd To 1), .int .u64 (P.wrd To 2), .int .u64 (P.wrd To 3)] 37)).alloc (.cells #[.int .u64 0, .int .u64 0, .int .u64 0, .int .u64 0] 37)) = w0 at bx0 bx1 bx2 bx3 hbq  ⊢
  have BQg := Lib.hid bx0
  have BQi := Lib.hid bx1
  have BQt := Lib.hid bx2
  have BQr := Lib.hid bx3
  have W := Lib.hid hbq
  have LTgi := Lib.hid lt0
  have LTit := Lib.hid lt1
  have LTtr := Lib.hid lt2
  have LEg := Lib.hid hle0
  clear hbq hle0 bx0 bx1 bx2 bx3 lt0 lt1 lt2
  generalize w.heap.size + 1 + 1 + 1 = qr at BQr LTtr ⊢
  generalize w.heap.size + 1 + 1 = qt at BQt LTtr LTit ⊢
  generalize w.heap.size + 1 = qi at BQi LTit LTgi ⊢
  obtain ⟨qg, hqg⟩ : ∃ qg, w.heap.size = qg := ⟨_, rfl⟩
  rw [hqg] at BQg LTgi ⊢
  have LEg : Hid (w.heap.size ≤ qg) := Lib.hid (by omega)
  clear hqg
  refine (right_any g _ _ (HV.out.on W.out)).mono ?_
  rintro e w1 ⟨rfl, hb⟩
  replace BQg := Lib.hid (BQg.out.keep (grown_of_below hb none))
  replace BQi := Lib.hid (BQi.out.keep (grown_of_below hb none))
  replace BQt := Lib.hid (BQt.out.keep (grown_of_below hb none))
  replace BQr := Lib.hid (BQr.out.keep (grown_of_below hb none))
  replace W := Lib.hid (W.out.trans (hb.mono W.out.size))
  clear hb
  obtain ⟨z, hz⟩ : ∃ z, g.right.2 = z := ⟨_, rfl⟩
  rw [hz] at hq0 ⊢
  have fq : (((z : Nat) : Int) != 0) = false := by rw [bne_eq_false_iff_eq]; omega
  clear hz hq0
  go_wp2_with fail
  refine Rg.wp_region_lit (fun idx => match idx with | 0 => (fun v _ _ => v = .agg #[.int .u64 (P.wrd I 0), .int .u64 (P.wrd I 1), .int .u64 (P.wrd I 2), .int .u64 (P.wrd I 3)]) | 1 => (fun v _ _ => v = (.pointer (some ⟨qg, 0, none⟩))) | 2 => (fun v _ _ => v = (.slice (some ⟨ba, oa, none⟩) n ka)) | 3 => (fun v _ _ => v = (.int .i64 (n : Int))) | 4 => (fun v _ _ => v = .agg #[.int .u64 (P.wrd (P.full (n : Int)) 0), .int .u64 (P.wrd (P.full (n : Int)) 1), .int .u64 (P.wrd (P.full (n : Int)) 2), .int .u64 (P.wrd (P.full (n : Int)) 3)]) | 5 => (fun v _ _ => v = .agg #[.int .u64 (P.wrd (I &&& P.full (n : Int)) 0), .int .u64 (P.wrd (I &&& P.full (n : Int)) 1), .int .u64 (P.wrd (I &&& P.full (n : Int)) 2), .int .u64 (P.wrd (I &&& P.full (n : Int)) 3)]) | _ => fun _ _ _ => True) (none) 99 (by kernel_rfl) (by rfl) (by kernel_rfl) (by rfl) ?_ ?_ ?_
  · refine ⟨?_, ?_, ?_, ?_, ?_, ?_, trivial⟩
    · intro A w' K vals h hn hg hK
      have r0 : A.tmps[5]?.getD undef = .pointer (some ⟨qi, 0, none⟩) := Rg.slot h.1
      have bs := BQi.out.keep hg
      have cc0 : w'.cell? ⟨qi, 0, none⟩ = some (.int .u64 (P.wrd I 0)) := bs.cell 0 _ rfl
      have cc1 : w'.cell? ⟨qi, 1, none⟩ = some (.int .u64 (P.wrd I 1)) := bs.cell 1 _ rfl
      have cc2 : w'.cell? ⟨qi, 2, none⟩ = some (.int .u64 (P.wrd I 2)) := bs.cell 2 _ rfl
      have cc3 : w'.cell? ⟨qi, 3, none⟩ = some (.int .u64 (P.wrd I 3)) := bs.cell 3 _ rfl
      clear h hn hg bs
      simp [Oper.wp, execOp, go_sem, r0, cc0, cc1, cc2, cc3]
      exact hK _ _ (Rg.grown_refl _ _) rfl
    · intro A w' K vals h hn hg hK
      have r0 : A.tmps[4]?.getD undef = .pointer (some ⟨qg, 0, none⟩) := Rg.slot (h.1)
      clear h hn hg
      simp [Oper.wp, execOp, go_sem, r0]
      exact hK _ _ (Rg.grown_refl _ _) rfl
    · intro A w' K vals h hn hg hK
      have r0 : A.tmps[38]?.getD undef = vals 1 := Rg.slot h.1
      have r1 : vals 1 = (.pointer (some ⟨qg, 0, none⟩)) := hn.1
      have c : w'.cell? ⟨qg, 0, none⟩ = some (.slice (some ⟨ba, oa, none⟩) n ka) := (BQg.out.keep hg).cell _ _ rfl
      clear h hn
      simp [Oper.wp, execOp, go_sem, r0, r1, c]
      exact hK _ _ (Rg.grown_refl _ _) rfl
    · intro A w' K vals h hn hg hK
      have r0 : A.tmps[39]?.getD undef = vals 2 := Rg.slot h.1
      have r1 : vals 2 = (.slice (some ⟨ba, oa, none⟩) n ka) := hn.1
      clear h hn hg
      simp [Oper.wp, go_sem, r0, r1]
      exact hK _ _ (Rg.grown_refl _ _) rfl
    · intro A w' K vals h hn hg hK
      have r0 : A.tmps[40]?.getD undef = vals 3 := Rg.slot h.2.1
      have s0 : vals 3 = (.int .i64 (n : Int)) := hn.1
      clear h hn
      simp [Oper.wp, go_sem, r0, s0]
      refine (full_any (n : Int) w').mono ?_
      rintro e w'' ⟨rfl, hb⟩
      exact hK _ _ (grown_of_below hb _) rfl
    · intro A w' K vals h hn hg hK
      have r0 : A.tmps[37]?.getD undef = vals 0 := Rg.slot h.2.1
      have s0 : vals 0 = .agg #[.int .u64 (P.wrd I 0), .int .u64 (P.wrd I 1), .int .u64 (P.wrd I 2), .int .u64 (P.wrd I 3)] := hn.1
      have r1 : A.tmps[41]?.getD undef = vals 4 := Rg.slot h.2.2.1
      have s1 : vals 4 = .agg #[.int .u64 (P.wrd (P.full (n : Int)) 0), .int .u64 (P.wrd (P.full (n : Int)) 1), .int .u64 (P.wrd (P.full (n : Int)) 2), .int .u64 (P.wrd (P.full (n : Int)) 3)] := hn.2.1
      clear h hn
      simp [Oper.wp, go_sem, r0, s0, r1, s1]
      refine (and_any I (P.full (n : Int)) w').mono ?_
      rintro e w'' ⟨rfl, hb⟩
      exact hK _ _ (grown_of_below hb _) rfl
  · refine ⟨?_, ?_, ?_, ?_, ?_, ?_, trivial⟩
    · exact fun _ _ _ _ _ _ h => h
    · exact fun _ _ _ _ _ _ h => h
    · exact fun _ _ _ _ _ _ h => h
    · exact fun _ _ _ _ _ _ h => h
    · exact fun _ _ _ _ _ _ h => h
    · exact fun _ _ _ _ _ _ h => h
  · intro vals w2 G hg hS hG
    have s5 : vals 5 = .agg #[.int .u64 (P.wrd (I &&& P.full (n : Int)) 0), .int .u64 (P.wrd (I &&& P.full (n : Int)) 1), .int .u64 (P.wrd (I &&& P.full (n : Int)) 2), .int .u64 (P.wrd (I &&& P.full (n : Int)) 3)] := hS.2.2.2.2.2.1
    clear hS
    have hb := below_of_grown hg
    replace BQg := Lib.hid (BQg.out.keep (grown_of_below hb none))
    replace BQi := Lib.hid (BQi.out.keep (grown_of_below hb none))
    replace BQt := Lib.hid (BQt.out.keep (grown_of_below hb none))
    replace BQr := Lib.hid (BQr.out.keep (grown_of_below hb none))
    replace W := Lib.hid (W.out.trans (hb.mono W.out.size))
    clear hb hg
    have hbb := BQi.out
    have ic0 : w2.cell? ⟨qi, 0, none⟩ = some (.int .u64 (P.wrd I 0)) := hbb.cell 0 _ rfl
    have ic1 : w2.cell? ⟨qi, 1, none⟩ = some (.int .u64 (P.wrd I 1)) := hbb.cell 1 _ rfl
    have ic2 : w2.cell? ⟨qi, 2, none⟩ = some (.int .u64 (P.wrd I 2)) := hbb.cell 2 _ rfl
    have ic3 : w2.cell? ⟨qi, 3, none⟩ = some (.int .u64 (P.wrd I 3)) := hbb.cell 3 _ rfl
    have if0 : w2.frozen? ⟨qi, 0, none⟩ = false := hbb.frozen 0
    have if1 : w2.frozen? ⟨qi, 1, none⟩ = false := hbb.frozen 1
    have if2 : w2.frozen? ⟨qi, 2, none⟩ = false := hbb.frozen 2
    have if3 : w2.frozen? ⟨qi, 3, none⟩ = false := hbb.frozen 3
    clear hbb
    refine hG ?_
    clear hG
    simp [List.dropLast, Rg.putAll, Oper.wp, execOp, go_sem, s5, ic0, ic1, ic2, ic3, if0, if1, if2, if3]
    clear s5 ic0 ic1 ic2 ic3 if0 if1 if2 if3
    have BQi := Lib.hid (show Box ((((w2.setCell ⟨qi, 0, none⟩ (.int .u64 (P.wrd (I &&& P.full (n : Int)) 0))).setCell ⟨qi, 1, none⟩ (.int .u64 (P.wrd (I &&& P.full (n : Int)) 1))).setCell ⟨qi, 2, none⟩ (.int .u64 (P.wrd (I &&& P.full (n : Int)) 2))).setCell ⟨qi, 3, none⟩ (.int .u64 (P.wrd (I &&& P.full (n : Int)) 3))) qi 37 #[.int .u64 (P.wrd (I &&& P.full (n : Int)) 0), .int .u64 (P.wrd (I &&& P.full (n : Int)) 1), .int .u64 (P.wrd (I &&& P.full (n : Int)) 2), .int .u64 (P.wrd (I &&& P.full (n : Int)) 3)] from Blk.store (show Blk w2 qi I 37 from BQi.out) (I &&& P.full (n : Int)))
    have BQg := Lib.hid (far4 (.int .u64 (P.wrd (I &&& P.full (n : Int)) 0)) (.int .u64 (P.wrd (I &&& P.full (n : Int)) 1)) (.int .u64 (P.wrd (I &&& P.full (n : Int)) 2)) (.int .u64 (P.wrd (I &&& P.full (n : Int)) 3)) BQg.out (show qg ≠ qi by have := LTgi.out; omega))
    have BQt := Lib.hid (far4 (.int .u64 (P.wrd (I &&& P.full (n : Int)) 0)) (.int .u64 (P.wrd (I &&& P.full (n : Int)) 1)) (.int .u64 (P.wrd (I &&& P.full (n : Int)) 2)) (.int .u64 (P.wrd (I &&& P.full (n : Int)) 3)) BQt.out (show qt ≠ qi by have := LTit.out; omega))
    have BQr := Lib.hid (far4 (.int .u64 (P.wrd (I &&& P.full (n : Int)) 0)) (.int .u64 (P.wrd (I &&& P.full (n : Int)) 1)) (.int .u64 (P.wrd (I &&& P.full (n : Int)) 2)) (.int .u64 (P.wrd (I &&& P.full (n : Int)) 3)) BQr.out (show qr ≠ qi by have := LTit.out; have := LTtr.out; omega))
    replace W := Lib.hid (W.out.trans (below4 (w := w2) (q := qi) (.int .u64 (P.wrd (I &&& P.full (n : Int)) 0)) (.int .u64 (P.wrd (I &&& P.full (n : Int)) 1)) (.int .u64 (P.wrd (I &&& P.full (n : Int)) 2)) (.int .u64 (P.wrd (I &&& P.full (n : Int)) 3)) (by have := LTgi.out; have := LEg.out; omega)))
    generalize ((((w2.setCell ⟨qi, 0, none⟩ (.int .u64 (P.wrd (I &&& P.full (n : Int)) 0))).setCell ⟨qi, 1, none⟩ (.int .u64 (P.wrd (I &&& P.full (n : Int)) 1))).setCell ⟨qi, 2, none⟩ (.int .u64 (P.wrd (I &&& P.full (n : Int)) 2))).setCell ⟨qi, 3, none⟩ (.int .u64 (P.wrd (I &&& P.full (n : Int)) 3))) = w3 at BQg BQi BQt BQr W ⊢
    have HLS : Hid (P.lst (I &&& P.full (n : Int)) = P.pre2 (I &&& P.full (n : Int)) g.owner.length) := Lib.hid (by
      have := P.lst_full g (by have := HN.out; omega) I
      rwa [HN.out] at this ⊢)
    have hbb := BQg.out
    have gc0 : w3.cell? ⟨qg, 0, none⟩ = some (.slice (some ⟨ba, oa, none⟩) n ka) := hbb.cell 0 _ rfl
    have gc1 : w3.cell? ⟨qg, 1, none⟩ = some (.slice (some ⟨bb, ob, none⟩) n kb) := hbb.cell 1 _ rfl
    have gc2 : w3.cell? ⟨qg, 2, none⟩ = some (.slice (some ⟨bc, oc, none⟩) n kc) := hbb.cell 2 _ rfl
    clear hbb
    have hbb := BQi.out
    have ic0 : w3.cell? ⟨qi, 0, none⟩ = some (.int .u64 (P.wrd (I &&& P.full (n : Int)) 0)) := hbb.cell 0 _ rfl
    have ic1 : w3.cell? ⟨qi, 1, none⟩ = some (.int .u64 (P.wrd (I &&& P.full (n : Int)) 1)) := hbb.cell 1 _ rfl
    have ic2 : w3.cell? ⟨qi, 2, none⟩ = some (.int .u64 (P.wrd (I &&& P.full (n : Int)) 2)) := hbb.cell 2 _ rfl
    have ic3 : w3.cell? ⟨qi, 3, none⟩ = some (.int .u64 (P.wrd (I &&& P.full (n : Int)) 3)) := hbb.cell 3 _ rfl
    clear hbb
    go_wp2_with fail
    clear gc0 gc1 gc2 ic0 ic1 ic2 ic3
    refine (counting_any g HR.out (I &&& P.full (n : Int)) _ _ (HV.out.on W.out) (T.out.on W.out) HLS.out).mono ?_
    rintro e w4 ⟨pb, pa, L, rfl, hne, hhead, hrows, hcnt, hfar, hb⟩
    rw [HN.out] at hhead hrows hcnt ⊢
    have HNE := Lib.hid hne
    have HHEAD := Lib.hid hhead
    have HROW4 := Lib.hid hrows
    have HROWS := Lib.hid hrows
    have HCNT := Lib.hid hcnt
    have HFAR := Lib.hid hfar
    have HW3 : Hid (w3.heap.size ≤ w4.heap.size) := Lib.hid hb.size
    have HPB4 : Hid (pb < w4.heap.size) := Lib.hid (own_lt hhead pb rfl).2
    have HPA4 : Hid (pa < w4.heap.size) := Lib.hid (own_lt hcnt pa rfl).2
    have W3 := Lib.hid W.out
    have HQR3 : Hid (qr < w3.heap.size) := Lib.hid BQr.out.lt
    replace BQg := Lib.hid (BQg.out.keep (grown_of_below hb none))
    replace BQi := Lib.hid (BQi.out.keep (grown_of_below hb none))
    replace BQt := Lib.hid (BQt.out.keep (grown_of_below hb none))
    replace BQr := Lib.hid (BQr.out.keep (grown_of_below hb none))
    replace W := Lib.hid (W.out.trans (hb.mono W.out.size))
    clear hne hhead hrows hcnt hfar hb
    have hbb := BQt.out
    have tc0 : w4.cell? ⟨qt, 0, none⟩ = some (.int .u64 (P.wrd To 0)) := hbb.cell 0 _ rfl
    have tc1 : w4.cell? ⟨qt, 1, none⟩ = some (.int .u64 (P.wrd To 1)) := hbb.cell 1 _ rfl
    have tc2 : w4.cell? ⟨qt, 2, none⟩ = some (.int .u64 (P.wrd To 2)) := hbb.cell 2 _ rfl
    have tc3 : w4.cell? ⟨qt, 3, none⟩ = some (.int .u64 (P.wrd To 3)) := hbb.cell 3 _ rfl
    clear hbb
    have hbb := BQi.out
    have ic0 : w4.cell? ⟨qi, 0, none⟩ = some (.int .u64 (P.wrd (I &&& P.full (n : Int)) 0)) := hbb.cell 0 _ rfl
    have ic1 : w4.cell? ⟨qi, 1, none⟩ = some (.int .u64 (P.wrd (I &&& P.full (n : Int)) 1)) := hbb.cell 1 _ rfl
    have ic2 : w4.cell? ⟨qi, 2, none⟩ = some (.int .u64 (P.wrd (I &&& P.full (n : Int)) 2)) := hbb.cell 2 _ rfl
    have ic3 : w4.cell? ⟨qi, 3, none⟩ = some (.int .u64 (P.wrd (I &&& P.full (n : Int)) 3)) := hbb.cell 3 _ rfl
    clear hbb
    go_wp2_with fail
    clear tc0 tc1 tc2 tc3 ic0 ic1 ic2 ic3
    refine (and_any To (I &&& P.full (n : Int)) _).mono ?_
    rintro e w5 ⟨rfl, hb⟩
    have W4 := Lib.hid hb
    replace BQg := Lib.hid (BQg.out.keep (grown_of_below hb none))
    replace BQi := Lib.hid (BQi.out.keep (grown_of_below hb none))
    replace BQt := Lib.hid (BQt.out.keep (grown_of_below hb none))
    replace BQr := Lib.hid (BQr.out.keep (grown_of_below hb none))
    replace W := Lib.hid (W.out.trans (hb.mono W.out.size))
    clear hb
    go_upto_region 7 with (fail)
    have hq5 : w4.heap.size ≤ w5.heap.size := W4.out.size
    have bq : Box (w5.alloc (.cells #[.int .u64 (P.wrd (To &&& (I &&& P.full (n : Int))) 0), .int .u64 (P.wrd (To &&& (I &&& P.full (n : Int))) 1), .int .u64 (P.wrd (To &&& (I &&& P.full (n : Int))) 2), .int .u64 (P.wrd (To &&& (I &&& P.full (n : Int))) 3)] 37)) w5.heap.size 37 #[.int .u64 (P.wrd (To &&& (I &&& P.full (n : Int))) 0), .int .u64 (P.wrd (To &&& (I &&& P.full (n : Int))) 1), .int .u64 (P.wrd (To &&& (I &&& P.full (n : Int))) 2), .int .u64 (P.wrd (To &&& (I &&& P.full (n : Int))) 3)] := Box.new _ _ _
    have hgq := World.grownBy_alloc w5 (.cells #[.int .u64 (P.wrd (To &&& (I &&& P.full (n : Int))) 0), .int .u64 (P.wrd (To &&& (I &&& P.full (n : Int))) 1), .int .u64 (P.wrd (To &&& (I &&& P.full (n : Int))) 2), .int .u64 (P.wrd (To &&& (I &&& P.full (n : Int))) 3)] 37) none
    have hb := below_of_grown hgq
    have hsz : (w5.alloc (.cells #[.int .u64 (P.wrd (To &&& (I &&& P.full (n : Int))) 0), .int .u64 (P.wrd (To &&& (I &&& P.full (n : Int))) 1), .int .u64 (P.wrd (To &&& (I &&& P.full (n : Int))) 2), .int .u64 (P.wrd (To &&& (I &&& P.full (n : Int))) 3)] 37)).heap.size = w5.heap.size + 1 := by simp
    replace BQg := Lib.hid (BQg.out.keep (grown_of_below hb none))
    replace BQi := Lib.hid (BQi.out.keep (grown_of_below hb none))
    replace BQt := Lib.hid (BQt.out.keep (grown_of_below hb none))
    replace BQr := Lib.hid (BQr.out.keep (grown_of_below hb none))
    replace W := Lib.hid (W.out.trans (hb.mono W.out.size))
    replace W4 := Lib.hid (W4.out.trans (hb.mono W4.out.size))
    generalize (w5.alloc (.cells #[.int .u64 (P.wrd (To &&& (I &&& P.full (n : Int))) 0), .int .u64 (P.wrd (To &&& (I &&& P.full (n : Int))) 1), .int .u64 (P.wrd (To &&& (I &&& P.full (n : Int))) 2), .int .u64 (P.wrd (To &&& (I &&& P.full (n : Int))) 3)] 37)) = w6 at bq hsz BQg BQi BQt BQr W W4 ⊢
    generalize w5.heap.size = qs at bq hsz hq5 ⊢
    have BQs := Lib.hid bq
    have HSZ := Lib.hid hsz
    have HQS4 := Lib.hid hq5
    clear bq hgq hb hsz hq5
    have hbb := BQg.out
    have gc0 : w6.cell? ⟨qg, 0, none⟩ = some (.slice (some ⟨ba, oa, none⟩) n ka) := hbb.cell 0 _ rfl
    have gc1 : w6.cell? ⟨qg, 1, none⟩ = some (.slice (some ⟨bb, ob, none⟩) n kb) := hbb.cell 1 _ rfl
    have gc2 : w6.cell? ⟨qg, 2, none⟩ = some (.slice (some ⟨bc, oc, none⟩) n kc) := hbb.cell 2 _ rfl
    clear hbb
    go_wp2_with (refine wpl_make elInt rfl (.tmp 54) (.tmp 54) rfl n rfl rfl (by omega) (by omega) ?_; intro w7 hown7 hg7 hs7)
    have hb := below_of_grown hg7
    have HO7 := Lib.hid hown7
    have HS7 := Lib.hid hs7
    replace BQg := Lib.hid (BQg.out.keep (grown_of_below hb none))
    replace BQi := Lib.hid (BQi.out.keep (grown_of_below hb none))
    replace BQt := Lib.hid (BQt.out.keep (grown_of_below hb none))
    replace BQr := Lib.hid (BQr.out.keep (grown_of_below hb none))
    replace W := Lib.hid (W.out.trans (hb.mono W.out.size))
    replace W4 := Lib.hid (W4.out.trans (hb.mono W4.out.size))
    replace BQs := Lib.hid (BQs.out.keep (grown_of_below hb none))
    clear hb hown7 hg7 hs7 gc0 gc1 gc2
    obtain ⟨pm, hpm⟩ : ∃ pm, w6.heap.size = pm := ⟨_, rfl⟩
    rw [hpm] at HO7 HS7 HSZ ⊢
    clear hpm
    go_wp2_with fail
    go_loopw [58] (fun i wr => ∃ k : Nat, k ≤ n ∧ i = .int .i64 (k : Int) ∧ OwnI wr pm (.slice (some ⟨pm, 0, none⟩) n n) (P.rowOf n (fun y => if y < k then -1 else 0)) ∧ w7.grownBy wr (some pm)) (fun i _ => n - (intOf i).toNat)
    case atStart =>
      refine ⟨0, Nat.zero_le _, rfl, ?_, Rg.grown_refl _ _⟩
      have h := HO7.out
      unfold OwnI
      rw [P.rowOf_len]
      have e : (P.rowOf n (fun y => if y < 0 then -1 else 0)).map (Value.int .i64) = List.replicate n (.int .i64 0) := by
        unfold P.rowOf
        rw [List.map_map]
        apply List.ext_getElem?
        intro i
        rw [List.getElem?_map, List.getElem?_replicate]
        by_cases hi : i < n
        · rw [List.getElem?_range hi, if_pos hi]; simp
        · rw [List.getElem?_eq_none (by simpa using hi), if_neg hi]; rfl
      rw [e]
      exact h
    case round =>
      obtain ⟨k, hk, rfl, hown, hgr⟩ := hrel
      have HOW := Lib.hid hown
      have HGR := Lib.hid hgr
      clear hown hgr
      have hk0 : (0 : Int) ≤ (k : Int) := Int.natCast_nonneg _
      by_cases hlt : k < n
      · have fk : decide ((k : Int) < (n : Int)) = true := decide_eq_true (by omega)
        have hki : (k : Int) < (n : Int) := by omega
        obtain ⟨ck, fz⟩ := rowOf_cell HOW.out hlt
        have HREL := Lib.hid (show OwnI (wr.setCell ⟨pm, k, none⟩ (.int .i64 (-1))) pm (.slice (some ⟨pm, 0, none⟩) n n) (P.rowOf n (fun y => if y < k + 1 then -1 else 0)) from by
          have h := HOW.out.put k (-1)
          rw [P.rowOf_set] at h
          rw [show P.rowOf n (fun y => if y < k + 1 then (-1 : Int) else 0) = P.rowOf n (fun y => if y = k then -1 else if y < k then -1 else 0) from P.rowOf_congr fun y _ => by
            by_cases e : y = k
            · rw [if_pos (by omega), if_pos e]
            · rw [if_neg e]
              by_cases e2 : y < k
              · rw [if_pos (by omega), if_pos e2]
              · rw [if_neg (by omega), if_neg e2]]
          exact h)
        have HG2 := Lib.hid (grown_chain HGR.out (grown_set wr ⟨pm, k, none⟩ (.int .i64 (-1))))
        go_wp2_with fail
        go_roundw
        case rel => exact ⟨k + 1, by omega, by go_num, HREL.out, HG2.out⟩
        case measure => simp [intOf]; omega
      · have fk : decide ((k : Int) < (n : Int)) = false := decide_eq_false (by omega)
        have HMV := Lib.hid (show OwnI wr pm (.slice (some ⟨pm, 0, none⟩) n n) (P.rowOf n (fun _ => -1)) from by
          rw [show P.rowOf n (fun _ => (-1 : Int)) = P.rowOf n (fun y => if y < k then -1 else 0) from P.rowOf_congr fun y hy => by rw [if_pos (by omega)]]
          exact HOW.out)
        have hpm6 : qs + 1 = pm := by have := HSZ.out; omega
        have hx : ∀ q, q < pm → some q ≠ some pm := fun q hq e => by injection e with e; omega
        have hqr : qr < w4.heap.size := Nat.lt_of_lt_of_le HQR3.out HW3.out
        have hqs4 := HQS4.out
        have hlt1 := LTgi.out
        have hlt2 := LTit.out
        have hlt3 := LTtr.out
        replace BQg := Lib.hid (BQg.out.grown HGR.out (hx _ (by omega)))
        replace BQr := Lib.hid (BQr.out.grown HGR.out (hx _ (by omega)))
        replace BQs := Lib.hid (BQs.out.grown HGR.out (hx _ (by omega)))
        replace W4 := Lib.hid (W4.out.trans (below_mono_grown HGR.out W4.out.size (fun k e => by injection e with e; omega)))
        replace W := Lib.hid (W.out.trans (below_mono_grown HGR.out W.out.size (fun k e => by injection e with e; have := LEg.out; omega)))
        have HPM := Lib.hid hpm6
        clear HOW hlt1 hlt2 hlt3 hqs4 hqr hx hpm6 HGR HO7
        have hbb := BQs.out
        have sc0 : wr.cell? ⟨qs, 0, none⟩ = some (.int .u64 (P.wrd (To &&& (I &&& P.full (n : Int))) 0)) := hbb.cell 0 _ rfl
        have sc1 : wr.cell? ⟨qs, 1, none⟩ = some (.int .u64 (P.wrd (To &&& (I &&& P.full (n : Int))) 1)) := hbb.cell 1 _ rfl
        have sc2 : wr.cell? ⟨qs, 2, none⟩ = some (.int .u64 (P.wrd (To &&& (I &&& P.full (n : Int))) 2)) := hbb.cell 2 _ rfl
        have sc3 : wr.cell? ⟨qs, 3, none⟩ = some (.int .u64 (P.wrd (To &&& (I &&& P.full (n : Int))) 3)) := hbb.cell 3 _ rfl
        clear hbb
        go_wp2_with fail
        clear sc0 sc1 sc2 sc3
        refine (list_any (To &&& (I &&& P.full (n : Int))) _ (T.out.on W.out)).mono ?_
        rintro e w9 ⟨qv, rfl, hoq, hb⟩
        have HPMB : Hid (pm < wr.heap.size) := Lib.hid ((own_lt HMV.out pm rfl).2)
        have HMV := Lib.hid (own_grown HMV.out (grown_of_below hb none))
        have HOQ := Lib.hid hoq
        have HN9 := Lib.hid hb.size
        replace BQg := Lib.hid (BQg.out.keep (grown_of_below hb none))
        replace BQr := Lib.hid (BQr.out.keep (grown_of_below hb none))
        replace BQs := Lib.hid (BQs.out.keep (grown_of_below hb none))
        replace W := Lib.hid (W.out.trans (hb.mono W.out.size))
        replace W4 := Lib.hid (W4.out.trans (hb.mono W4.out.size))
        clear hb hoq
        have HQB : Hid (w9.heap.size ≤ w9.heap.size) := Lib.hid (Nat.le_refl _)
        obtain ⟨N, hN⟩ : ∃ N, wr.heap.size = N := ⟨_, rfl⟩
        rw [hN] at HPMB HOQ HN9
        clear hN
        have HHEAD := Lib.hid (own_grown HHEAD.out (grown_of_below W4.out none))
        replace HROWS := Lib.hid (HROWS.out.grown (grown_of_below W4.out none))
        have HCNT := Lib.hid (own_grown HCNT.out (grown_of_below W4.out none))
        have hpb4 : pb < w4.heap.size := HPB4.out
        have hpa4 : pa < w4.heap.size := HPA4.out
        have hd : qs < N ∧ pa < N ∧ pm < N ∧ qs ≠ pa ∧ qs ≠ pm ∧ pa ≠ pm ∧ w4.heap.size ≤ N ∧ pb ≠ qs ∧ pb ≠ pm := by
          have h1 := HPMB.out
          have h2 := HPM.out
          have h3 := HQS4.out
          refine ⟨by omega, by omega, h1, by omega, by omega, by omega, by omega, by omega, by omega⟩
        have HD := Lib.hid hd
        have HBN : Hid (w.heap.size ≤ N) := Lib.hid (by have h1 := W3.out.size; have h2 := HW3.out; omega)
        have HX : Hid (∀ x ∈ [qs, pa, pm], w.heap.size ≤ x) := Lib.hid (fun x hx => by
          have h1 := W3.out.size
          have h2 := HW3.out
          have h3 := HQS4.out
          have h4 := HPM.out
          have h5 := (own_lt HCNT.out pa rfl).1
          simp only [List.mem_cons, List.not_mem_nil, or_false] at hx
          rcases hx with rfl | rfl | rfl <;> omega)
        have HPBX : Hid (pb < N ∧ pb ∉ [qs, pa, pm]) := Lib.hid ⟨by omega, fun e => by
          simp only [List.mem_cons, List.not_mem_nil, or_false] at e
          have h1 := HNE.out
          omega⟩
        have hpa3 := (own_lt HCNT.out pa rfl).1
        have hqr3 := HQR3.out
        have hw34 := HW3.out
        have hq4 := HQS4.out
        have hlt1 := LTgi.out
        have hlt2 := LTit.out
        have hlt3 := LTtr.out
        have hpm1 := HPM.out
        have HQGX : Hid (qg < N ∧ qg ∉ [qs, pa, pm]) := Lib.hid ⟨by omega, fun e => by
          simp only [List.mem_cons, List.not_mem_nil, or_false] at e
          omega⟩
        have HQRX : Hid (qr < N ∧ qr ∉ [qs, pa, pm]) := Lib.hid ⟨by omega, fun e => by
          simp only [List.mem_cons, List.not_mem_nil, or_false] at e
          omega⟩
        clear hpa3 hqr3 hw34 hq4 hlt1 hlt2 hlt3 hpm1
        have HMH : Hid (Mh w9 N w.heap.size qs pa pm n (To &&& (I &&& P.full (n : Int))) (P.lst (To &&& (I &&& P.full (n : Int)))) (fun y => (P.counts g (I &&& P.full (n : Int)) (P.pre2 (I &&& P.full (n : Int)) n)).2.getD y 0) (fun _ => -1) qv w9) := Lib.hid (by
          have h1 := W3.out.size
          have h2 := HW3.out
          have h3 := HPM.out
          have h4 := HQS4.out
          refine ⟨BQs.out, ?_, own_more HMV.out (by omega), HOQ.out, Rk.Keeps.refl _ _⟩
          have hl := (P.counts_len g (I &&& P.full (n : Int)) (P.pre2 (I &&& P.full (n : Int)) n)).2
          rw [HN.out] at hl
          have e := P.rowOf_list (P.counts g (I &&& P.full (n : Int)) (P.pre2 (I &&& P.full (n : Int)) n)).2
          rw [hl] at e
          rw [e]
          exact own_more HCNT.out (by omega))
        have HRD : Hid (P.Round g (I &&& P.full (n : Int)) 0 To (To &&& (I &&& P.full (n : Int))) (P.lst (To &&& (I &&& P.full (n : Int)))) (fun y => (P.counts g (I &&& P.full (n : Int)) (P.pre2 (I &&& P.full (n : Int)) n)).2.getD y 0) (fun _ => -1) 0 0) := Lib.hid (by
          have h := P.Round.begin HR.out I 0 To
          rw [HN.out] at h
          exact h)
        clear hpb4 hpa4 hd
        go_wp2_with fail
        go_loopw [17, 18] (fun qv iv wr => ∃ (i : Nat) (A : BitVec 256) (Q : List Nat) (o v : Nat → Int), iv = .int .i64 (i : Int) ∧ i ≤ Q.length ∧ P.Round g (I &&& P.full (n : Int)) 0 To A Q o v i 0 ∧ Mh w9 N w.heap.size qs pa pm n A Q o v qv wr) (fun _ iv _ => n - (intOf iv).toNat)
        case atStart => exact ⟨0, _, _, _, _, rfl, Nat.zero_le _, HRD.out, HMH.out⟩
        case round =>
          obtain ⟨i, A, Q, o, v, rfl, hi, hrd, hmh⟩ := hrel
          have hshort := hrd.short
          rw [HN.out] at hshort
          have HRD := Lib.hid hrd
          have HMH := Lib.hid hmh
          clear hrd hmh
          by_cases hlt : i < Q.length
          · have fi : decide ((i : Int) < (Q.length : Int)) = true := decide_eq_true (by omega)
            have hii : (i : Int) < (Q.length : Int) := by omega
            have hi0 : (0 : Int) ≤ (i : Int) := Int.natCast_nonneg _
            obtain ⟨q, hq⟩ : ∃ q, Q[i]? = some q := ⟨_, List.getElem?_eq_getElem hlt⟩
            obtain ⟨bq, kq, rfl, cq⟩ := HMH.out.cellq hq
            have hqn : q < n := by rw [← HN.out]; exact (HRD.out.sub q (List.mem_of_getElem? hq)).bound.1
            have hqi : (q : Int) < (n : Int) := by omega
            have hq0 : (0 : Int) ≤ (q : Int) := Int.natCast_nonneg _
            obtain ⟨ah, hah⟩ : ∃ ah, P.ahead g (I &&& P.full (n : Int)) q = ah := ⟨_, rfl⟩
            have hrow : (P.counts g (I &&& P.full (n : Int)) (P.pre2 (I &&& P.full (n : Int)) n)).1[q]? = some (ah.map fun (x : Nat) => (x : Int)) := by
              have h1 := (P.counts_is HR.out (I &&& P.full (n : Int))).1 q
              have h2 := (P.counts_len g (I &&& P.full (n : Int)) (P.pre2 (I &&& P.full (n : Int)) n)).1
              rw [HN.out] at h1 h2
              rw [hah] at h1
              rw [← h1, List.getD_eq_getElem?_getD, List.getElem?_eq_getElem (by omega)]
              rfl
            obtain ⟨u, hu, hou⟩ := HROWS.out.rows q _ hrow
            have hov : w9.ownsRow w3.heap.size 3 1 u ah.length (P.vals ah) := by
              have h := hou
              unfold OwnI at h
              rw [List.length_map, List.map_map] at h
              exact h
            obtain ⟨uo, uk, rfl, -⟩ := own_at hov
            have hub : ∀ b, (Value.slice uo ah.length uk).ownBlock = some b → b < N ∧ b ∉ [qs, pa, pm] := fun b hb => by
              have h1 := (HROW4.out.low hu b hb).2
              have h2 := HD.out
              have h3 := HFAR.out q _ hu
              refine ⟨by omega, fun e => ?_⟩
              simp only [List.mem_cons, List.not_mem_nil, or_false] at e
              rcases e with rfl | rfl | rfl
              · have := HQS4.out; omega
              · exact h3 hb
              · have h4 := HPM.out; have := HQS4.out; omega
            have hhd := kx_own HHEAD.out HMH.out.keep (fun b hb => by
              have e : b = pb := by injection hb with hb; exact hb.symm
              subst e
              exact HPBX.out)
            have ch : wr.cell? ⟨pb, q, none⟩ = some (.slice uo ah.length uk) := by rw [hhd.cellAt q (by omega)]; exact hu
            have hal : ah.length ≤ 200 := by
              have h1 := P.pre2_len (I &&& P.full (n : Int)) g.owner.length
              rw [← hah]
              unfold P.ahead
              split
              · exact Nat.le_trans (List.length_filter_le _ _) (by have := HN.out; omega)
              · simp
            have HQ := Lib.hid hq
            have HOV := Lib.hid hov
            have HUB := Lib.hid hub
            have HAH := Lib.hid hah
            clear hq hou hov hub hrow hu hhd hah
            go_wp2_with fail
            clear cq ch
            obtain ⟨wo, rfl⟩ : ∃ wo : World, wo = wr := ⟨_, rfl⟩
            go_loopw [17, 81] (fun qv jv wr => ∃ (j : Nat) (A : BitVec 256) (Q : List Nat) (o v : Nat → Int), jv = .int .i64 (j : Int) ∧ j ≤ ah.length ∧ Q[i]? = some q ∧ P.Round g (I &&& P.full (n : Int)) 0 To A Q o v i j ∧ Mh w9 N w.heap.size qs pa pm n A Q o v qv wr) (fun _ jv _ => ah.length - (intOf jv).toNat)
            case atStart => exact ⟨0, A, Q, o, v, rfl, Nat.zero_le _, HQ.out, HRD.out, HMH.out⟩
            case round =>
              obtain ⟨j, A2, Q2, o2, v2, rfl, hj, hq2, hrd2, hmh2⟩ := hrel
              have HQ2 := Lib.hid hq2
              have HRD2 := Lib.hid hrd2
              have HMH2 := Lib.hid hmh2
              clear hq2 hrd2 hmh2
              have hj0 : (0 : Int) ≤ (j : Int) := Int.natCast_nonneg _
              by_cases hlj : j < ah.length
              · have fj : decide ((j : Int) < (ah.length : Int)) = true := decide_eq_true (by omega)
                have hji : (j : Int) < (ah.length : Int) := by omega
                obtain ⟨x, hx⟩ : ∃ x, ah[j]? = some x := ⟨_, List.getElem?_eq_getElem hlj⟩
                have hmem := (P.mem_ahead g (I &&& P.full (n : Int)) q x).1 (by rw [HAH.out]; exact List.mem_of_getElem? hx)
                have hxn : x < n := by rw [← HN.out]; exact hmem.2.1
                have hxi : (x : Int) < (n : Int) := by omega
                have hx0 : (0 : Int) ≤ (x : Int) := Int.natCast_nonneg _
                have hou := kx_own HOV.out HMH2.out.keep HUB.out
                obtain ⟨ub, uk2, e9, -, -, huc, -⟩ := own_form hou (by omega)
                obtain ⟨rfl, -, rfl⟩ : uo = some ⟨ub, 0, none⟩ ∧ ah.length = ah.length ∧ uk = uk2 := by injection e9 with h1 h2 h3; exact ⟨h1, h2, h3⟩
                have cu : wr.cell? ⟨ub, j, none⟩ = some (.int .i64 (x : Int)) := huc j _ (by unfold P.vals; rw [List.getElem?_map, hx]; rfl)
                have HXJ : Hid ((P.ahead g (I &&& P.full (n : Int)) q)[j]? = some x) := Lib.hid (by rw [HAH.out]; exact hx)
                have hzb : 0 ≤ o2 x ∧ o2 x ≤ 200 := by
                  have h1 := HRD2.out.outs x hmem.2.1 hmem.2.2.1
                  have h2 := P.cnt_le g (I &&& P.full (n : Int)) Q2 i j x
                  have h3 : (P.into g (I &&& P.full (n : Int)) x).length ≤ 200 := Nat.le_trans (List.length_filter_le _ _) (P.moves_short HR.out x)
                  omega
                obtain ⟨z1, hz1⟩ : ∃ z1, o2 x - 1 = z1 := ⟨_, rfl⟩
                obtain ⟨hz2, hz3⟩ : -1 ≤ z1 ∧ z1 ≤ 199 := by omega
                obtain ⟨cz, fz⟩ := rowOf_cell HMH2.out.outs hxn
                rw [show o2 x = z1 + 1 by omega] at cz
                have HZ1 := Lib.hid hz1
                have howner := (HR.out.at x hmem.2.1).1
                clear hmem hou e9 huc hx hzb hz1
                go_upto_region 21 with (fail)
                clear cu cz fz
                replace HMH2 := Lib.hid (HMH2.out.dec HD.out.2.1 HD.out.2.2.2.1 (Ne.symm HD.out.2.2.2.2.2.1) x z1)
                generalize (wr.setCell ⟨pa, x, none⟩ (.int .i64 z1)) = w10 at HMH2 ⊢
                have hbb := HMH2.out.set
                have sc0 : w10.cell? ⟨qs, 0, none⟩ = some (.int .u64 (P.wrd A2 0)) := hbb.cell 0 _ rfl
                have sc1 : w10.cell? ⟨qs, 1, none⟩ = some (.int .u64 (P.wrd A2 1)) := hbb.cell 1 _ rfl
                have sc2 : w10.cell? ⟨qs, 2, none⟩ = some (.int .u64 (P.wrd A2 2)) := hbb.cell 2 _ rfl
                have sc3 : w10.cell? ⟨qs, 3, none⟩ = some (.int .u64 (P.wrd A2 3)) := hbb.cell 3 _ rfl
                clear hbb
                go_wp2_with fail
                refine (has_any A2 (x : Int) _).mono ?_
                rintro e w11 ⟨rfl, hb⟩
                replace HMH2 := Lib.hid (HMH2.out.on hb)
                clear hb sc0 sc1 sc2 sc3
                rw [P.has_nat]
                obtain ⟨hs, hhs⟩ : ∃ hs, A2.getLsbD x = hs := ⟨_, rfl⟩
                rw [hhs]
                have HHB := Lib.hid hhs
                clear hhs
                cases hs with
                | true =>
                  have HRD3 := Lib.hid (HRD2.out.has HR.out HQ2.out (j := j) HXJ.out (o' := fun y => if y = x then z1 else o2 y) (fun y => by show (if y = x then z1 else o2 y) = _; rw [HZ1.out]) HHB.out)
                  go_wp2_with fail
                  go_roundw
                  case rel => exact ⟨j + 1, A2, Q2, _, v2, by go_num, by omega, HQ2.out, HRD3.out, HMH2.out⟩
                  case measure => simp [intOf]; omega
                | false =>
                  have hbw : Below w.heap.size w w11 := W.out.trans (kx_below HMH2.out.keep HX.out HBN.out HN9.out)
                  have co := HCA.out w11 hbw x hxn
                  have hbb := kx_box HMH2.out.keep BQg.out HQGX.out.1 HQGX.out.2
                  have gc0 : w11.cell? ⟨qg, 0, none⟩ = some (.slice (some ⟨ba, oa, none⟩) n ka) := hbb.cell 0 _ rfl
                  have gc1 : w11.cell? ⟨qg, 1, none⟩ = some (.slice (some ⟨bb, ob, none⟩) n kb) := hbb.cell 1 _ rfl
                  have gc2 : w11.cell? ⟨qg, 2, none⟩ = some (.slice (some ⟨bc, oc, none⟩) n kc) := hbb.cell 2 _ rfl
                  clear hbb hbw
                  obtain ⟨cz, -⟩ := rowOf_cell HMH2.out.outs hxn
                  rw [if_pos rfl] at cz
                  by_cases hzo : g.owner.getD x 0 = 0
                  · have HZO := Lib.hid hzo
                    rw [hzo] at co
                    clear hzo howner
                    obtain ⟨qb2, qk2, rfl, cq2⟩ := HMH2.out.cellq HQ2.out
                    obtain ⟨cm, fm⟩ := rowOf_cell HMH2.out.mvs hxn
                    have hiq : (i : Int) < (Q2.length : Int) := by have := (List.getElem?_eq_some_iff.1 HQ2.out).1; omega
                    have hvv : ∀ y, (if y = x then (q : Int) else v2 y) = if y = x ∧ g.owner.getD x 0 = 0 then (q : Int) else v2 y := fun y => by
                      by_cases e : y = x
                      · rw [if_pos e, if_pos ⟨e, HZO.out⟩]
                      · rw [if_neg e, if_neg (fun h => e h.1)]
                    have HRD3 := Lib.hid (HRD2.out.comes HR.out HQ2.out (j := j) HXJ.out (o' := fun y => if y = x then z1 else o2 y) (v' := (fun y => if y = x then (q : Int) else v2 y)) (fun y => by show (if y = x then z1 else o2 y) = _; rw [HZ1.out]) HHB.out (.inl HZO.out) hvv (A' := A2 ||| P.bit (x : Int)) (fun y => P.bit_or A2 x y (by omega)))
                    clear hvv
                    go_upto_region 24 with (fail)
                    clear co gc0 gc1 gc2 cz
                    clear cm fm cq2
                    replace HMH2 := Lib.hid (HMH2.out.move HD.out.2.2.1 HD.out.2.2.2.2.1 HD.out.2.2.2.2.2.1 x (q : Int))
                    generalize (w11.setCell ⟨pm, x, none⟩ (.int .i64 (q : Int))) = w12 at HMH2 ⊢
                    have hbb := HMH2.out.set
                    have sc0 : w12.cell? ⟨qs, 0, none⟩ = some (.int .u64 (P.wrd A2 0)) := hbb.cell 0 _ rfl
                    have sc1 : w12.cell? ⟨qs, 1, none⟩ = some (.int .u64 (P.wrd A2 1)) := hbb.cell 1 _ rfl
                    have sc2 : w12.cell? ⟨qs, 2, none⟩ = some (.int .u64 (P.wrd A2 2)) := hbb.cell 2 _ rfl
                    have sc3 : w12.cell? ⟨qs, 3, none⟩ = some (.int .u64 (P.wrd A2 3)) := hbb.cell 3 _ rfl
                    have sf0 : w12.frozen? ⟨qs, 0, none⟩ = false := hbb.frozen 0
                    have sf1 : w12.frozen? ⟨qs, 1, none⟩ = false := hbb.frozen 1
                    have sf2 : w12.frozen? ⟨qs, 2, none⟩ = false := hbb.frozen 2
                    have sf3 : w12.frozen? ⟨qs, 3, none⟩ = false := hbb.frozen 3
                    clear hbb
                    go_wp2_with fail
                    refine (with_any A2 (x : Int) _).mono ?_
                    rintro e w13 ⟨rfl, hb⟩
                    replace HMH2 := Lib.hid (HMH2.out.on hb)
                    clear hb sc0 sc1 sc2 sc3 sf0 sf1 sf2 sf3
                    have hbb := HMH2.out.set
                    have sc0 : w13.cell? ⟨qs, 0, none⟩ = some (.int .u64 (P.wrd A2 0)) := hbb.cell 0 _ rfl
                    have sc1 : w13.cell? ⟨qs, 1, none⟩ = some (.int .u64 (P.wrd A2 1)) := hbb.cell 1 _ rfl
                    have sc2 : w13.cell? ⟨qs, 2, none⟩ = some (.int .u64 (P.wrd A2 2)) := hbb.cell 2 _ rfl
                    have sc3 : w13.cell? ⟨qs, 3, none⟩ = some (.int .u64 (P.wrd A2 3)) := hbb.cell 3 _ rfl
                    have sf0 : w13.frozen? ⟨qs, 0, none⟩ = false := hbb.frozen 0
                    have sf1 : w13.frozen? ⟨qs, 1, none⟩ = false := hbb.frozen 1
                    have sf2 : w13.frozen? ⟨qs, 2, none⟩ = false := hbb.frozen 2
                    have sf3 : w13.frozen? ⟨qs, 3, none⟩ = false := hbb.frozen 3
                    clear hbb
                    go_upto_region 25 with (fail)
                    clear sc0 sc1 sc2 sc3 sf0 sf1 sf2 sf3
                    replace HMH2 := Lib.hid (HMH2.out.with_ HD.out.1 (Ne.symm HD.out.2.2.2.1) (Ne.symm HD.out.2.2.2.2.1) (A2 ||| P.bit (x : Int)))
                    generalize ((((w13.setCell ⟨qs, 0, none⟩ (.int .u64 (P.wrd (A2 ||| P.bit (x : Int)) 0))).setCell ⟨qs, 1, none⟩ (.int .u64 (P.wrd (A2 ||| P.bit (x : Int)) 1))).setCell ⟨qs, 2, none⟩ (.int .u64 (P.wrd (A2 ||| P.bit (x : Int)) 2))).setCell ⟨qs, 3, none⟩ (.int .u64 (P.wrd (A2 ||| P.bit (x : Int)) 3))) = w14 at HMH2 ⊢
                    have hql : Q2.length ≤ 200 := by
                      have := HRD2.out.short
                      rw [HN.out] at this
                      omega
                    have HN14 : Hid (N ≤ w14.heap.size) := Lib.hid (Nat.le_trans HN9.out HMH2.out.keep.size)
                    go_wp2_with (at_builtin; refine wpl_append elInt rfl (.tmp 127) (.tmp 129) rfl rfl (own_grown HMH2.out.queue (World.grownBy_alloc _ _ none)) rfl (row_one _ _ _) ?_ ?_ ?_ ?_ ?_)
                    · intro u hu; simp at hu; subst hu; rfl
                    · simp; omega
                    · simp; omega
                    · have := HN14.out; simp; omega
                    intro v' w15 hown hgr hat
                    have HMH3 := Lib.hid (HMH2.out.push HD.out.1 HD.out.2.1 HD.out.2.2.1 hgr hown)
                    clear hown hgr hat
                    go_wp2_with fail
                    go_roundw
                    case rel => exact ⟨j + 1, _, _, _, _, by go_num, by omega, by rw [List.getElem?_append_left (List.getElem?_eq_some_iff.1 HQ2.out).1]; exact HQ2.out, HRD3.out, HMH3.out⟩
                    case measure => simp [intOf]; omega
                  · have hz4 : g.owner.getD x 0 = 1 := by omega
                    have HZO := Lib.hid hz4
                    have HNE2 := Lib.hid hzo
                    rw [hz4] at co
                    clear hzo hz4 howner
                    by_cases hpos : 0 < z1
                    · have HPOS := Lib.hid hpos
                      have fp : decide (0 < z1) = true := decide_eq_true hpos
                      have HRD3 := Lib.hid (HRD2.out.left HR.out HQ2.out (j := j) HXJ.out (o' := fun y => if y = x then z1 else o2 y) (fun y => by show (if y = x then z1 else o2 y) = _; rw [HZ1.out]) (by rw [HZO.out]; decide) (by show 0 < (if x = x then z1 else o2 x); rw [if_pos rfl]; exact HPOS.out))
                      go_wp2_with fail
                      go_roundw
                      case rel => exact ⟨j + 1, A2, Q2, _, v2, by go_num, by omega, HQ2.out, HRD3.out, HMH2.out⟩
                      case measure => simp [intOf]; omega
                    · have HPOS : Hid (z1 ≤ 0) := Lib.hid (by omega)
                      have fp : decide (0 < z1) = false := decide_eq_false hpos
                      have HRD3 := Lib.hid (HRD2.out.comes HR.out HQ2.out (j := j) HXJ.out (o' := fun y => if y = x then z1 else o2 y) (v' := v2) (fun y => by show (if y = x then z1 else o2 y) = _; rw [HZ1.out]) HHB.out (.inr (by show (if x = x then z1 else o2 x) ≤ 0; rw [if_pos rfl]; exact HPOS.out)) (fun y => by rw [if_neg (fun h => HNE2.out h.2)]) (A' := A2 ||| P.bit (x : Int)) (fun y => P.bit_or A2 x y (by omega)))
                      go_upto_region 24 with (fail)
                      clear co gc0 gc1 gc2 cz fp hpos
                      generalize w11 = w12 at HMH2 ⊢
                      have hbb := HMH2.out.set
                      have sc0 : w12.cell? ⟨qs, 0, none⟩ = some (.int .u64 (P.wrd A2 0)) := hbb.cell 0 _ rfl
                      have sc1 : w12.cell? ⟨qs, 1, none⟩ = some (.int .u64 (P.wrd A2 1)) := hbb.cell 1 _ rfl
                      have sc2 : w12.cell? ⟨qs, 2, none⟩ = some (.int .u64 (P.wrd A2 2)) := hbb.cell 2 _ rfl
                      have sc3 : w12.cell? ⟨qs, 3, none⟩ = some (.int .u64 (P.wrd A2 3)) := hbb.cell 3 _ rfl
                      have sf0 : w12.frozen? ⟨qs, 0, none⟩ = false := hbb.frozen 0
                      have sf1 : w12.frozen? ⟨qs, 1, none⟩ = false := hbb.frozen 1
                      have sf2 : w12.frozen? ⟨qs, 2, none⟩ = false := hbb.frozen 2
                      have sf3 : w12.frozen? ⟨qs, 3, none⟩ = false := hbb.frozen 3
                      clear hbb
                      go_wp2_with fail
                      refine (with_any A2 (x : Int) _).mono ?_
                      rintro e w13 ⟨rfl, hb⟩
                      replace HMH2 := Lib.hid (HMH2.out.on hb)
                      clear hb sc0 sc1 sc2 sc3 sf0 sf1 sf2 sf3
                      have hbb := HMH2.out.set
                      have sc0 : w13.cell? ⟨qs, 0, none⟩ = some (.int .u64 (P.wrd A2 0)) := hbb.cell 0 _ rfl
                      have sc1 : w13.cell? ⟨qs, 1, none⟩ = some (.int .u64 (P.wrd A2 1)) := hbb.cell 1 _ rfl
                      have sc2 : w13.cell? ⟨qs, 2, none⟩ = some (.int .u64 (P.wrd A2 2)) := hbb.cell 2 _ rfl
                      have sc3 : w13.cell? ⟨qs, 3, none⟩ = some (.int .u64 (P.wrd A2 3)) := hbb.cell 3 _ rfl
                      have sf0 : w13.frozen? ⟨qs, 0, none⟩ = false := hbb.frozen 0
                      have sf1 : w13.frozen? ⟨qs, 1, none⟩ = false := hbb.frozen 1
                      have sf2 : w13.frozen? ⟨qs, 2, none⟩ = false := hbb.frozen 2
                      have sf3 : w13.frozen? ⟨qs, 3, none⟩ = false := hbb.frozen 3
                      clear hbb
                      go_upto_region 25 with (fail)
                      clear sc0 sc1 sc2 sc3 sf0 sf1 sf2 sf3
                      replace HMH2 := Lib.hid (HMH2.out.with_ HD.out.1 (Ne.symm HD.out.2.2.2.1) (Ne.symm HD.out.2.2.2.2.1) (A2 ||| P.bit (x : Int)))
                      generalize ((((w13.setCell ⟨qs, 0, none⟩ (.int .u64 (P.wrd (A2 ||| P.bit (x : Int)) 0))).setCell ⟨qs, 1, none⟩ (.int .u64 (P.wrd (A2 ||| P.bit (x : Int)) 1))).setCell ⟨qs, 2, none⟩ (.int .u64 (P.wrd (A2 ||| P.bit (x : Int)) 2))).setCell ⟨qs, 3, none⟩ (.int .u64 (P.wrd (A2 ||| P.bit (x : Int)) 3))) = w14 at HMH2 ⊢
                      have hql : Q2.length ≤ 200 := by
                        have := HRD2.out.short
                        rw [HN.out] at this
                        omega
                      have HN14 : Hid (N ≤ w14.heap.size) := Lib.hid (Nat.le_trans HN9.out HMH2.out.keep.size)
                      go_wp2_with (at_builtin; refine wpl_append elInt rfl (.tmp 127) (.tmp 129) rfl rfl (own_grown HMH2.out.queue (World.grownBy_alloc _ _ none)) rfl (row_one _ _ _) ?_ ?_ ?_ ?_ ?_)
                      · intro u hu; simp at hu; subst hu; rfl
                      · simp; omega
                      · simp; omega
                      · have := HN14.out; simp; omega
                      intro v' w15 hown hgr hat
                      have HMH3 := Lib.hid (HMH2.out.push HD.out.1 HD.out.2.1 HD.out.2.2.1 hgr hown)
                      clear hown hgr hat
                      go_wp2_with fail
                      go_roundw
                      case rel => exact ⟨j + 1, _, _, _, _, by go_num, by omega, by rw [List.getElem?_append_left (List.getElem?_eq_some_iff.1 HQ2.out).1]; exact HQ2.out, HRD3.out, HMH3.out⟩
                      case measure => simp [intOf]; omega
              · have fj : decide ((j : Int) < (ah.length : Int)) = false := decide_eq_false (by omega)
                have HRD3 : Hid (P.Round g (I &&& P.full (n : Int)) 0 To A2 Q2 o2 v2 (i + 1) 0) := Lib.hid (P.Round.next HR.out HQ2.out (by
                  have e : j = (P.ahead g (I &&& P.full (n : Int)) q).length := by rw [HAH.out]; omega
                  rw [← e]
                  exact HRD2.out))
                have hil : i + 1 ≤ Q2.length := (List.getElem?_eq_some_iff.1 HQ2.out).1
                go_wp2_with fail
                go_roundw
                case rel => exact ⟨i + 1, A2, Q2, o2, v2, by go_num, hil, HRD3.out, HMH2.out⟩
                case measure => simp [intOf]; omega
          · have fi : decide ((i : Int) < (Q.length : Int)) = false := decide_eq_false (by omega)
            have hie : i = Q.length := by omega
            obtain ⟨vo, vk, rfl, -⟩ := own_at HMH.out.queue
            have HAT := Lib.hid (show A = P.attOf g I 0 To from P.Round.set_is HR.out (by omega) (by
              have h := HRD.out
              rw [hie] at h
              rw [HN.out]
              exact h))
            have HPL := Lib.hid (show P.Played g (I &&& P.full (n : Int)) 0 To (P.rowOf n v) from ⟨A, Q, o, v, by have h := HRD.out; rw [hie] at h; exact h, by rw [HN.out]⟩)
            have hbb := HMH.out.set
            have sc0 : wr.cell? ⟨qs, 0, none⟩ = some (.int .u64 (P.wrd A 0)) := hbb.cell 0 _ rfl
            have sc1 : wr.cell? ⟨qs, 1, none⟩ = some (.int .u64 (P.wrd A 1)) := hbb.cell 1 _ rfl
            have sc2 : wr.cell? ⟨qs, 2, none⟩ = some (.int .u64 (P.wrd A 2)) := hbb.cell 2 _ rfl
            have sc3 : wr.cell? ⟨qs, 3, none⟩ = some (.int .u64 (P.wrd A 3)) := hbb.cell 3 _ rfl
            clear hbb hie
            have hbb := kx_box HMH.out.keep BQr.out HQRX.out.1 HQRX.out.2
            have rc0 : wr.cell? ⟨qr, 0, none⟩ = some (.int .u64 0) := hbb.cell 0 _ rfl
            have rc1 : wr.cell? ⟨qr, 1, none⟩ = some (.int .u64 0) := hbb.cell 1 _ rfl
            have rc2 : wr.cell? ⟨qr, 2, none⟩ = some (.int .u64 0) := hbb.cell 2 _ rfl
            have rc3 : wr.cell? ⟨qr, 3, none⟩ = some (.int .u64 0) := hbb.cell 3 _ rfl
            have rf0 : wr.frozen? ⟨qr, 0, none⟩ = false := hbb.frozen 0
            have rf1 : wr.frozen? ⟨qr, 1, none⟩ = false := hbb.frozen 1
            have rf2 : wr.frozen? ⟨qr, 2, none⟩ = false := hbb.frozen 2
            have rf3 : wr.frozen? ⟨qr, 3, none⟩ = false := hbb.frozen 3
            clear hbb
            have HBW : Hid (Below w.heap.size w wr) := Lib.hid (W.out.trans (kx_below HMH.out.keep HX.out HBN.out HN9.out))
            have HMV := Lib.hid (own_kept HMH.out.mvs (grown4 (w := wr) (q := qr) (.int .u64 (P.wrd A 0)) (.int .u64 (P.wrd A 1)) (.int .u64 (P.wrd A 2)) (.int .u64 (P.wrd A 3))) (.inr fun e => by injection e with e; exact HQRX.out.2 (by rw [← e]; simp)))
            have HPO := Lib.hid (HBW.out.trans ((below4 (w := wr) (q := qr) (.int .u64 (P.wrd A 0)) (.int .u64 (P.wrd A 1)) (.int .u64 (P.wrd A 2)) (.int .u64 (P.wrd A 3)) (by have h1 := LEg.out; have h2 := LTgi.out; have h3 := LTit.out; have h4 := LTtr.out; omega))))
            go_wp2_with fail
            refine bodyPost_ret (v := .tuple #[.agg #[.int .u64 (P.wrd A 0), .int .u64 (P.wrd A 1), .int .u64 (P.wrd A 2), .int .u64 (P.wrd A 3)], .slice (some ⟨pm, 0, none⟩) n n]) (by simp [results, Tryd.results33, go_sem, rc0, rc1, rc2, rc3]) rfl ?_
            refine ⟨_, P.rowOf n v, by rw [HAT.out], HMV.out, ?_, HPO.out⟩
            rw [if_pos ⟨HOK.out, by omega⟩, HN.out]
            exact HPL.out

set_option maxRecDepth 100000 in
set_option maxHeartbeats 1000000 in
theorem attract_1 (g : P.G) (I To : BitVec 256) (v : Value) (w : World) (hv : GameV w v g) (hT : Tab w) (hok : g.ok = true) : Calls Tryd.prog 33 #[v, .agg #[.int .u64 (P.wrd I 0), .int .u64 (P.wrd I 1), .int .u64 (P.wrd I 2), .int .u64 (P.wrd I 3)], .int .i64 1, .agg #[.int .u64 (P.wrd To 0), .int .u64 (P.wrd To 1), .int .u64 (P.wrd To 2), .int .u64 (P.wrd To 3)]] w (Attracted w g I 1 To) := by
  have hr := (P.G.ok_iff g).1 hok
  have hq0 : g.right.2 = 0 := by unfold P.G.ok at hok; exact beq_iff_eq.1 hok
  have HOK := Lib.hid hok
  have HV := Lib.hid hv
  have hop := hr.prio
  have hmp := hr.moves
  have hmany := hr.many
  have h0 := hr.pos
  obtain ⟨n, hn⟩ : ∃ n, g.owner.length = n := ⟨_, rfl⟩
  rw [hn] at hop hmp hmany h0
  obtain ⟨ba, oa, ka, bb, ob, kb, bc, oc, kc, rfl, hca, -, -⟩ := hv.open_ hn hop hmp h0
  have HCA := Lib.hid hca
  have HR := Lib.hid hr
  have T := Lib.hid hT
  have HN := Lib.hid hn
  clear hca hr hT hn hop hmp hv hok
  go_enter Tryd.func33, Tryd.ntmps33
  go_wp2_with fail
  have bx0 : Box ((((w.alloc (.cells #[.slice (some ⟨ba, oa, none⟩) n ka, .slice (some ⟨bb, ob, none⟩) n kb, .slice (some ⟨bc, oc, none⟩) n kc] 25)).alloc (.cells #[.int .u64 (P.wrd I 0), .int .u64 (P.wrd I 1), .int .u64 (P.wrd I 2), .int .u64 (P.wrd I 3)] 37)).alloc (.cells #[.int .u64 (P.wrd To 0), .int .u64 (P.wrd To 1), .int .u64 (P.wrd To 2), .int .u64 (P.wrd To 3)] 37)).alloc (.cells #[.int .u64 0, .int .u64 0, .int .u64 0, .int .u64 0] 37)) (w.heap.size) 25 #[.slice (some ⟨ba, oa, none⟩) n ka, .slice (some ⟨bb, ob, none⟩) n kb, .slice (some ⟨bc, oc, none⟩) n kc] := Box.alloc (Box.alloc (Box.alloc (Box.new w 25 #[.slice (some ⟨ba, oa, none⟩) n ka, .slice (some ⟨bb, ob, none⟩) n kb, .slice (some ⟨bc, oc, none⟩) n kc]) (.cells #[.int .u64 (P.wrd I 0), .int .u64 (P.wrd I 1), .int .u64 (P.wrd I 2), .int .u64 (P.wrd I 3)] 37)) (.cells #[.int .u64 (P.wrd To 0), .int .u64 (P.wrd To 1), .int .u64 (P.wrd To 2), .int .u64 (P.wrd To 3)] 37)) (.cells #[.int .u64 0, .int .u64 0, .int .u64 0, .int .u64 0] 37)
  have bx1 : Box ((((w.alloc (.cells #[.slice (some ⟨ba, oa, none⟩) n ka, .slice (some ⟨bb, ob, none⟩) n kb, .slice (some ⟨bc, oc, none⟩) n kc] 25)).alloc (.cells #[.int .u64 (P.wrd I 0), .int .u64 (P.wrd I 1), .int .u64 (P.wrd I 2), .int .u64 (P.wrd I 3)] 37)).alloc (.cells #[.int .u64 (P.wrd To 0), .int .u64 (P.wrd To 1), .int .u64 (P.wrd To 2), .int .u64 (P.wrd To 3)] 37)).alloc (.cells #[.int .u64 0, .int .u64 0, .int .u64 0, .int .u64 0] 37)) (w.heap.size + 1) 37 #[.int .u64 (P.wrd I 0), .int .u64 (P.wrd I 1), .int .u64 (P.wrd I 2), .int .u64 (P.wrd I 3)] := by
    have := Box.alloc (Box.alloc (Box.new (w.alloc (.cells #[.slice (some ⟨ba, oa, none⟩) n ka, .slice (some ⟨bb, ob, none⟩) n kb, .slice (some ⟨bc, oc, none⟩) n kc] 25)) 37 #[.int .u64 (P.wrd I 0), .int .u64 (P.wrd I 1), .int .u64 (P.wrd I 2), .int .u64 (P.wrd I 3)]) (.cells #[.int .u64 (P.wrd To 0), .int .u64 (P.wrd To 1), .int .u64 (P.wrd To 2), .int .u64 (P.wrd To 3)] 37)) (.cells #[.int .u64 0, .int .u64 0, .int .u64 0, .int .u64 0] 37)
    simpa using this
  have bx2 : Box ((((w.alloc (.cells #[.slice (some ⟨ba, oa, none⟩) n ka, .slice (some ⟨bb, ob, none⟩) n kb, .slice (some ⟨bc, oc, none⟩) n kc] 25)).alloc (.cells #[.int .u64 (P.wrd I 0), .int .u64 (P.wrd I 1), .int .u64 (P.wrd I 2), .int .u64 (P.wrd I 3)] 37)).alloc (.cells #[.int .u64 (P.wrd To 0), .int .u64 (P.wrd To 1), .int .u64 (P.wrd To 2), .int .u64 (P.wrd To 3)] 37)).alloc (.cells #[.int .u64 0, .int .u64 0, .int .u64 0, .int .u64 0] 37)) (w.heap.size + 1 + 1) 37 #[.int .u64 (P.wrd To 0), .int .u64 (P.wrd To 1), .int .u64 (P.wrd To 2), .int .u64 (P.wrd To 3)] := by
    have := Box.alloc (Box.new ((w.alloc (.cells #[.slice (some ⟨ba, oa, none⟩) n ka, .slice (some ⟨bb, ob, none⟩) n kb, .slice (some ⟨bc, oc, none⟩) n kc] 25)).alloc (.cells #[.int .u64 (P.wrd I 0), .int .u64 (P.wrd I 1), .int .u64 (P.wrd I 2), .int .u64 (P.wrd I 3)] 37)) 37 #[.int .u64 (P.wrd To 0), .int .u64 (P.wrd To 1), .int .u64 (P.wrd To 2), .int .u64 (P.wrd To 3)]) (.cells #[.int .u64 0, .int .u64 0, .int .u64 0, .int .u64 0] 37)
    simpa using this
  have bx3 : Box ((((w.alloc (.cells #[.slice (some ⟨ba, oa, none⟩) n ka, .slice (some ⟨bb, ob, none⟩) n kb, .slice (some ⟨bc, oc, none⟩) n kc] 25)).alloc (.cells #[.int .u64 (P.wrd I 0), .int .u64 (P.wrd I 1), .int .u64 (P.wrd I 2), .int .u64 (P.wrd I 3)] 37)).alloc (.cells #[.int .u64 (P.wrd To 0), .int .u64 (P.wrd To 1), .int .u64 (P.wrd To 2), .int .u64 (P.wrd To 3)] 37)).alloc (.cells #[.int .u64 0, .int .u64 0, .int .u64 0, .int .u64 0] 37)) (w.heap.size + 1 + 1 + 1) 37 #[.int .u64 0, .int .u64 0, .int .u64 0, .int .u64 0] := by
    have := Box.new (((w.alloc (.cells #[.slice (some ⟨ba, oa, none⟩) n ka, .slice (some ⟨bb, ob, none⟩) n kb, .slice (some ⟨bc, oc, none⟩) n kc] 25)).alloc (.cells #[.int .u64 (P.wrd I 0), .int .u64 (P.wrd I 1), .int .u64 (P.wrd I 2), .int .u64 (P.wrd I 3)] 37)).alloc (.cells #[.int .u64 (P.wrd To 0), .int .u64 (P.wrd To 1), .int .u64 (P.wrd To 2), .int .u64 (P.wrd To 3)] 37)) 37 #[.int .u64 0, .int .u64 0, .int .u64 0, .int .u64 0]
    simpa using this
  have hbq : Below w.heap.size w ((((w.alloc (.cells #[.slice (some ⟨ba, oa, none⟩) n ka, .slice (some ⟨bb, ob, none⟩) n kb, .slice (some ⟨bc, oc, none⟩) n kc] 25)).alloc (.cells #[.int .u64 (P.wrd I 0), .int .u64 (P.wrd I 1), .int .u64 (P.wrd I 2), .int .u64 (P.wrd I 3)] 37)).alloc (.cells #[.int .u64 (P.wrd To 0), .int .u64 (P.wrd To 1), .int .u64 (P.wrd To 2), .int .u64 (P.wrd To 3)] 37)).alloc (.cells #[.int .u64 0, .int .u64 0, .int .u64 0, .int .u64 0] 37)) := ((((Below.refl _ w).alloc (Nat.le_refl _) _).alloc (by simp) _).alloc (by simp; omega) _).alloc (by simp; omega) _
  have lt0 : w.heap.size < w.heap.size + 1 := Nat.lt_succ_self _
  have lt1 : w.heap.size + 1 < w.heap.size + 1 + 1 := Nat.lt_succ_self _
  have lt2 : w.heap.size + 1 + 1 < w.heap.size + 1 + 1 + 1 := Nat.lt_succ_self _
  have hle0 : w.heap.size ≤ w.heap.size := Nat.le_refl _
  generalize ((((w.alloc (.cells #[.slice (some ⟨ba, oa, none⟩) n ka, .slice (some ⟨bb, ob, none⟩) n kb, .slice (some ⟨bc, oc, none⟩) n kc] 25)).alloc (.cells #[.int .u64 (P.wrd I 0), .int .u64 (P.wrd I 1), .int .u64 (P.wrd I 2), .int .u64 (P.wrd I 3)] 37)).alloc (.cells #[.int .u64 (P.wrd To 0), .int .u64 (P.wrd To 1), .int .u64 (P.wrd To 2), .int .u64 (P.wrd To 3)] 37)).alloc (.cells #[.int .u64 0, .int .u64 0, .int .u64 0, .int .u64 0] 37)) = w0 at bx0 bx1 bx2 bx3 hbq  ⊢
  have BQg := Lib.hid bx0
  have BQi := Lib.hid bx1
  have BQt := Lib.hid bx2
  have BQr := Lib.hid bx3
  have W := Lib.hid hbq
  have LTgi := Lib.hid lt0
  have LTit := Lib.hid lt1
  have LTtr := Lib.hid lt2
  have LEg := Lib.hid hle0
  clear hbq hle0 bx0 bx1 bx2 bx3 lt0 lt1 lt2
  generalize w.heap.size + 1 + 1 + 1 = qr at BQr LTtr ⊢
  generalize w.heap.size + 1 + 1 = qt at BQt LTtr LTit ⊢
  generalize w.heap.size + 1 = qi at BQi LTit LTgi ⊢
  obtain ⟨qg, hqg⟩ : ∃ qg, w.heap.size = qg := ⟨_, rfl⟩
  rw [hqg] at BQg LTgi ⊢
  have LEg : Hid (w.heap.size ≤ qg) := Lib.hid (by omega)
  clear hqg
  refine (right_any g _ _ (HV.out.on W.out)).mono ?_
  rintro e w1 ⟨rfl, hb⟩
  replace BQg := Lib.hid (BQg.out.keep (grown_of_below hb none))
  replace BQi := Lib.hid (BQi.out.keep (grown_of_below hb none))
  replace BQt := Lib.hid (BQt.out.keep (grown_of_below hb none))
  replace BQr := Lib.hid (BQr.out.keep (grown_of_below hb none))
  replace W := Lib.hid (W.out.trans (hb.mono W.out.size))
  clear hb
  obtain ⟨z, hz⟩ : ∃ z, g.right.2 = z := ⟨_, rfl⟩
  rw [hz] at hq0 ⊢
  have fq : (((z : Nat) : Int) != 0) = false := by rw [bne_eq_false_iff_eq]; omega
  clear hz hq0
  go_wp2_with fail
  refine Rg.wp_region_lit (fun idx => match idx with | 0 => (fun v _ _ => v = .agg #[.int .u64 (P.wrd I 0), .int .u64 (P.wrd I 1), .int .u64 (P.wrd I 2), .int .u64 (P.wrd I 3)]) | 1 => (fun v _ _ => v = (.pointer (some ⟨qg, 0, none⟩))) | 2 => (fun v _ _ => v = (.slice (some ⟨ba, oa, none⟩) n ka)) | 3 => (fun v _ _ => v = (.int .i64 (n : Int))) | 4 => (fun v _ _ => v = .agg #[.int .u64 (P.wrd (P.full (n : Int)) 0), .int .u64 (P.wrd (P.full (n : Int)) 1), .int .u64 (P.wrd (P.full (n : Int)) 2), .int .u64 (P.wrd (P.full (n : Int)) 3)]) | 5 => (fun v _ _ => v = .agg #[.int .u64 (P.wrd (I &&& P.full (n : Int)) 0), .int .u64 (P.wrd (I &&& P.full (n : Int)) 1), .int .u64 (P.wrd (I &&& P.full (n : Int)) 2), .int .u64 (P.wrd (I &&& P.full (n : Int)) 3)]) | _ => fun _ _ _ => True) (none) 99 (by kernel_rfl) (by rfl) (by kernel_rfl) (by rfl) ?_ ?_ ?_
  · refine ⟨?_, ?_, ?_, ?_, ?_, ?_, trivial⟩
    · intro A w' K vals h hn hg hK
      have r0 : A.tmps[5]?.getD undef = .pointer (some ⟨qi, 0, none⟩) := Rg.slot h.1
      have bs := BQi.out.keep hg
      have cc0 : w'.cell? ⟨qi, 0, none⟩ = some (.int .u64 (P.wrd I 0)) := bs.cell 0 _ rfl
      have cc1 : w'.cell? ⟨qi, 1, none⟩ = some (.int .u64 (P.wrd I 1)) := bs.cell 1 _ rfl
      have cc2 : w'.cell? ⟨qi, 2, none⟩ = some (.int .u64 (P.wrd I 2)) := bs.cell 2 _ rfl
      have cc3 : w'.cell? ⟨qi, 3, none⟩ = some (.int .u64 (P.wrd I 3)) := bs.cell 3 _ rfl
      clear h hn hg bs
      simp [Oper.wp, execOp, go_sem, r0, cc0, cc1, cc2, cc3]
      exact hK _ _ (Rg.grown_refl _ _) rfl
    · intro A w' K vals h hn hg hK
      have r0 : A.tmps[4]?.getD undef = .pointer (some ⟨qg, 0, none⟩) := Rg.slot (h.1)
      clear h hn hg
      simp [Oper.wp, execOp, go_sem, r0]
      exact hK _ _ (Rg.grown_refl _ _) rfl
    · intro A w' K vals h hn hg hK
      have r0 : A.tmps[38]?.getD undef = vals 1 := Rg.slot h.1
      have r1 : vals 1 = (.pointer (some ⟨qg, 0, none⟩)) := hn.1
      have c : w'.cell? ⟨qg, 0, none⟩ = some (.slice (some ⟨ba, oa, none⟩) n ka) := (BQg.out.keep hg).cell _ _ rfl
      clear h hn
      simp [Oper.wp, execOp, go_sem, r0, r1, c]
      exact hK _ _ (Rg.grown_refl _ _) rfl
    · intro A w' K vals h hn hg hK
      have r0 : A.tmps[39]?.getD undef = vals 2 := Rg.slot h.1
      have r1 : vals 2 = (.slice (some ⟨ba, oa, none⟩) n ka) := hn.1
      clear h hn hg
      simp [Oper.wp, go_sem, r0, r1]
      exact hK _ _ (Rg.grown_refl _ _) rfl
    · intro A w' K vals h hn hg hK
      have r0 : A.tmps[40]?.getD undef = vals 3 := Rg.slot h.2.1
      have s0 : vals 3 = (.int .i64 (n : Int)) := hn.1
      clear h hn
      simp [Oper.wp, go_sem, r0, s0]
      refine (full_any (n : Int) w').mono ?_
      rintro e w'' ⟨rfl, hb⟩
      exact hK _ _ (grown_of_below hb _) rfl
    · intro A w' K vals h hn hg hK
      have r0 : A.tmps[37]?.getD undef = vals 0 := Rg.slot h.2.1
      have s0 : vals 0 = .agg #[.int .u64 (P.wrd I 0), .int .u64 (P.wrd I 1), .int .u64 (P.wrd I 2), .int .u64 (P.wrd I 3)] := hn.1
      have r1 : A.tmps[41]?.getD undef = vals 4 := Rg.slot h.2.2.1
      have s1 : vals 4 = .agg #[.int .u64 (P.wrd (P.full (n : Int)) 0), .int .u64 (P.wrd (P.full (n : Int)) 1), .int .u64 (P.wrd (P.full (n : Int)) 2), .int .u64 (P.wrd (P.full (n : Int)) 3)] := hn.2.1
      clear h hn
      simp [Oper.wp, go_sem, r0, s0, r1, s1]
      refine (and_any I (P.full (n : Int)) w').mono ?_
      rintro e w'' ⟨rfl, hb⟩
      exact hK _ _ (grown_of_below hb _) rfl
  · refine ⟨?_, ?_, ?_, ?_, ?_, ?_, trivial⟩
    · exact fun _ _ _ _ _ _ h => h
    · exact fun _ _ _ _ _ _ h => h
    · exact fun _ _ _ _ _ _ h => h
    · exact fun _ _ _ _ _ _ h => h
    · exact fun _ _ _ _ _ _ h => h
    · exact fun _ _ _ _ _ _ h => h
  · intro vals w2 G hg hS hG
    have s5 : vals 5 = .agg #[.int .u64 (P.wrd (I &&& P.full (n : Int)) 0), .int .u64 (P.wrd (I &&& P.full (n : Int)) 1), .int .u64 (P.wrd (I &&& P.full (n : Int)) 2), .int .u64 (P.wrd (I &&& P.full (n : Int)) 3)] := hS.2.2.2.2.2.1
    clear hS
    have hb := below_of_grown hg
    replace BQg := Lib.hid (BQg.out.keep (grown_of_below hb none))
    replace BQi := Lib.hid (BQi.out.keep (grown_of_below hb none))
    replace BQt := Lib.hid (BQt.out.keep (grown_of_below hb none))
    replace BQr := Lib.hid (BQr.out.keep (grown_of_below hb none))
    replace W := Lib.hid (W.out.trans (hb.mono W.out.size))
    clear hb hg
    have hbb := BQi.out
    have ic0 : w2.cell? ⟨qi, 0, none⟩ = some (.int .u64 (P.wrd I 0)) := hbb.cell 0 _ rfl
    have ic1 : w2.cell? ⟨qi, 1, none⟩ = some (.int .u64 (P.wrd I 1)) := hbb.cell 1 _ rfl
    have ic2 : w2.cell? ⟨qi, 2, none⟩ = some (.int .u64 (P.wrd I 2)) := hbb.cell 2 _ rfl
    have ic3 : w2.cell? ⟨qi, 3, none⟩ = some (.int .u64 (P.wrd I 3)) := hbb.cell 3 _ rfl
    have if0 : w2.frozen? ⟨qi, 0, none⟩ = false := hbb.frozen 0
    have if1 : w2.frozen? ⟨qi, 1, none⟩ = false := hbb.frozen 1
    have if2 : w2.frozen? ⟨qi, 2, none⟩ = false := hbb.frozen 2
    have if3 : w2.frozen? ⟨qi, 3, none⟩ = false := hbb.frozen 3
    clear hbb
    refine hG ?_
    clear hG
    simp [List.dropLast, Rg.putAll, Oper.wp, execOp, go_sem, s5, ic0, ic1, ic2, ic3, if0, if1, if2, if3]
    clear s5 ic0 ic1 ic2 ic3 if0 if1 if2 if3
    have BQi := Lib.hid (show Box ((((w2.setCell ⟨qi, 0, none⟩ (.int .u64 (P.wrd (I &&& P.full (n : Int)) 0))).setCell ⟨qi, 1, none⟩ (.int .u64 (P.wrd (I &&& P.full (n : Int)) 1))).setCell ⟨qi, 2, none⟩ (.int .u64 (P.wrd (I &&& P.full (n : Int)) 2))).setCell ⟨qi, 3, none⟩ (.int .u64 (P.wrd (I &&& P.full (n : Int)) 3))) qi 37 #[.int .u64 (P.wrd (I &&& P.full (n : Int)) 0), .int .u64 (P.wrd (I &&& P.full (n : Int)) 1), .int .u64 (P.wrd (I &&& P.full (n : Int)) 2), .int .u64 (P.wrd (I &&& P.full (n : Int)) 3)] from Blk.store (show Blk w2 qi I 37 from BQi.out) (I &&& P.full (n : Int)))
    have BQg := Lib.hid (far4 (.int .u64 (P.wrd (I &&& P.full (n : Int)) 0)) (.int .u64 (P.wrd (I &&& P.full (n : Int)) 1)) (.int .u64 (P.wrd (I &&& P.full (n : Int)) 2)) (.int .u64 (P.wrd (I &&& P.full (n : Int)) 3)) BQg.out (show qg ≠ qi by have := LTgi.out; omega))
    have BQt := Lib.hid (far4 (.int .u64 (P.wrd (I &&& P.full (n : Int)) 0)) (.int .u64 (P.wrd (I &&& P.full (n : Int)) 1)) (.int .u64 (P.wrd (I &&& P.full (n : Int)) 2)) (.int .u64 (P.wrd (I &&& P.full (n : Int)) 3)) BQt.out (show qt ≠ qi by have := LTit.out; omega))
    have BQr := Lib.hid (far4 (.int .u64 (P.wrd (I &&& P.full (n : Int)) 0)) (.int .u64 (P.wrd (I &&& P.full (n : Int)) 1)) (.int .u64 (P.wrd (I &&& P.full (n : Int)) 2)) (.int .u64 (P.wrd (I &&& P.full (n : Int)) 3)) BQr.out (show qr ≠ qi by have := LTit.out; have := LTtr.out; omega))
    replace W := Lib.hid (W.out.trans (below4 (w := w2) (q := qi) (.int .u64 (P.wrd (I &&& P.full (n : Int)) 0)) (.int .u64 (P.wrd (I &&& P.full (n : Int)) 1)) (.int .u64 (P.wrd (I &&& P.full (n : Int)) 2)) (.int .u64 (P.wrd (I &&& P.full (n : Int)) 3)) (by have := LTgi.out; have := LEg.out; omega)))
    generalize ((((w2.setCell ⟨qi, 0, none⟩ (.int .u64 (P.wrd (I &&& P.full (n : Int)) 0))).setCell ⟨qi, 1, none⟩ (.int .u64 (P.wrd (I &&& P.full (n : Int)) 1))).setCell ⟨qi, 2, none⟩ (.int .u64 (P.wrd (I &&& P.full (n : Int)) 2))).setCell ⟨qi, 3, none⟩ (.int .u64 (P.wrd (I &&& P.full (n : Int)) 3))) = w3 at BQg BQi BQt BQr W ⊢
    have HLS : Hid (P.lst (I &&& P.full (n : Int)) = P.pre2 (I &&& P.full (n : Int)) g.owner.length) := Lib.hid (by
      have := P.lst_full g (by have := HN.out; omega) I
      rwa [HN.out] at this ⊢)
    have hbb := BQg.out
    have gc0 : w3.cell? ⟨qg, 0, none⟩ = some (.slice (some ⟨ba, oa, none⟩) n ka) := hbb.cell 0 _ rfl
    have gc1 : w3.cell? ⟨qg, 1, none⟩ = some (.slice (some ⟨bb, ob, none⟩) n kb) := hbb.cell 1 _ rfl
    have gc2 : w3.cell? ⟨qg, 2, none⟩ = some (.slice (some ⟨bc, oc, none⟩) n kc) := hbb.cell 2 _ rfl
    clear hbb
    have hbb := BQi.out
    have ic0 : w3.cell? ⟨qi, 0, none⟩ = some (.int .u64 (P.wrd (I &&& P.full (n : Int)) 0)) := hbb.cell 0 _ rfl
    have ic1 : w3.cell? ⟨qi, 1, none⟩ = some (.int .u64 (P.wrd (I &&& P.full (n : Int)) 1)) := hbb.cell 1 _ rfl
    have ic2 : w3.cell? ⟨qi, 2, none⟩ = some (.int .u64 (P.wrd (I &&& P.full (n : Int)) 2)) := hbb.cell 2 _ rfl
    have ic3 : w3.cell? ⟨qi, 3, none⟩ = some (.int .u64 (P.wrd (I &&& P.full (n : Int)) 3)) := hbb.cell 3 _ rfl
    clear hbb
    go_wp2_with fail
    clear gc0 gc1 gc2 ic0 ic1 ic2 ic3
    refine (counting_any g HR.out (I &&& P.full (n : Int)) _ _ (HV.out.on W.out) (T.out.on W.out) HLS.out).mono ?_
    rintro e w4 ⟨pb, pa, L, rfl, hne, hhead, hrows, hcnt, hfar, hb⟩
    rw [HN.out] at hhead hrows hcnt ⊢
    have HNE := Lib.hid hne
    have HHEAD := Lib.hid hhead
    have HROW4 := Lib.hid hrows
    have HROWS := Lib.hid hrows
    have HCNT := Lib.hid hcnt
    have HFAR := Lib.hid hfar
    have HW3 : Hid (w3.heap.size ≤ w4.heap.size) := Lib.hid hb.size
    have HPB4 : Hid (pb < w4.heap.size) := Lib.hid (own_lt hhead pb rfl).2
    have HPA4 : Hid (pa < w4.heap.size) := Lib.hid (own_lt hcnt pa rfl).2
    have W3 := Lib.hid W.out
    have HQR3 : Hid (qr < w3.heap.size) := Lib.hid BQr.out.lt
    replace BQg := Lib.hid (BQg.out.keep (grown_of_below hb none))
    replace BQi := Lib.hid (BQi.out.keep (grown_of_below hb none))
    replace BQt := Lib.hid (BQt.out.keep (grown_of_below hb none))
    replace BQr := Lib.hid (BQr.out.keep (grown_of_below hb none))
    replace W := Lib.hid (W.out.trans (hb.mono W.out.size))
    clear hne hhead hrows hcnt hfar hb
    have hbb := BQt.out
    have tc0 : w4.cell? ⟨qt, 0, none⟩ = some (.int .u64 (P.wrd To 0)) := hbb.cell 0 _ rfl
    have tc1 : w4.cell? ⟨qt, 1, none⟩ = some (.int .u64 (P.wrd To 1)) := hbb.cell 1 _ rfl
    have tc2 : w4.cell? ⟨qt, 2, none⟩ = some (.int .u64 (P.wrd To 2)) := hbb.cell 2 _ rfl
    have tc3 : w4.cell? ⟨qt, 3, none⟩ = some (.int .u64 (P.wrd To 3)) := hbb.cell 3 _ rfl
    clear hbb
    have hbb := BQi.out
    have ic0 : w4.cell? ⟨qi, 0, none⟩ = some (.int .u64 (P.wrd (I &&& P.full (n : Int)) 0)) := hbb.cell 0 _ rfl
    have ic1 : w4.cell? ⟨qi, 1, none⟩ = some (.int .u64 (P.wrd (I &&& P.full (n : Int)) 1)) := hbb.cell 1 _ rfl
    have ic2 : w4.cell? ⟨qi, 2, none⟩ = some (.int .u64 (P.wrd (I &&& P.full (n : Int)) 2)) := hbb.cell 2 _ rfl
    have ic3 : w4.cell? ⟨qi, 3, none⟩ = some (.int .u64 (P.wrd (I &&& P.full (n : Int)) 3)) := hbb.cell 3 _ rfl
    clear hbb
    go_wp2_with fail
    clear tc0 tc1 tc2 tc3 ic0 ic1 ic2 ic3
    refine (and_any To (I &&& P.full (n : Int)) _).mono ?_
    rintro e w5 ⟨rfl, hb⟩
    have W4 := Lib.hid hb
    replace BQg := Lib.hid (BQg.out.keep (grown_of_below hb none))
    replace BQi := Lib.hid (BQi.out.keep (grown_of_below hb none))
    replace BQt := Lib.hid (BQt.out.keep (grown_of_below hb none))
    replace BQr := Lib.hid (BQr.out.keep (grown_of_below hb none))
    replace W := Lib.hid (W.out.trans (hb.mono W.out.size))
    clear hb
    go_upto_region 7 with (fail)
    have hq5 : w4.heap.size ≤ w5.heap.size := W4.out.size
    have bq : Box (w5.alloc (.cells #[.int .u64 (P.wrd (To &&& (I &&& P.full (n : Int))) 0), .int .u64 (P.wrd (To &&& (I &&& P.full (n : Int))) 1), .int .u64 (P.wrd (To &&& (I &&& P.full (n : Int))) 2), .int .u64 (P.wrd (To &&& (I &&& P.full (n : Int))) 3)] 37)) w5.heap.size 37 #[.int .u64 (P.wrd (To &&& (I &&& P.full (n : Int))) 0), .int .u64 (P.wrd (To &&& (I &&& P.full (n : Int))) 1), .int .u64 (P.wrd (To &&& (I &&& P.full (n : Int))) 2), .int .u64 (P.wrd (To &&& (I &&& P.full (n : Int))) 3)] := Box.new _ _ _
    have hgq := World.grownBy_alloc w5 (.cells #[.int .u64 (P.wrd (To &&& (I &&& P.full (n : Int))) 0), .int .u64 (P.wrd (To &&& (I &&& P.full (n : Int))) 1), .int .u64 (P.wrd (To &&& (I &&& P.full (n : Int))) 2), .int .u64 (P.wrd (To &&& (I &&& P.full (n : Int))) 3)] 37) none
    have hb := below_of_grown hgq
    have hsz : (w5.alloc (.cells #[.int .u64 (P.wrd (To &&& (I &&& P.full (n : Int))) 0), .int .u64 (P.wrd (To &&& (I &&& P.full (n : Int))) 1), .int .u64 (P.wrd (To &&& (I &&& P.full (n : Int))) 2), .int .u64 (P.wrd (To &&& (I &&& P.full (n : Int))) 3)] 37)).heap.size = w5.heap.size + 1 := by simp
    replace BQg := Lib.hid (BQg.out.keep (grown_of_below hb none))
    replace BQi := Lib.hid (BQi.out.keep (grown_of_below hb none))
    replace BQt := Lib.hid (BQt.out.keep (grown_of_below hb none))
    replace BQr := Lib.hid (BQr.out.keep (grown_of_below hb none))
    replace W := Lib.hid (W.out.trans (hb.mono W.out.size))
    replace W4 := Lib.hid (W4.out.trans (hb.mono W4.out.size))
    generalize (w5.alloc (.cells #[.int .u64 (P.wrd (To &&& (I &&& P.full (n : Int))) 0), .int .u64 (P.wrd (To &&& (I &&& P.full (n : Int))) 1), .int .u64 (P.wrd (To &&& (I &&& P.full (n : Int))) 2), .int .u64 (P.wrd (To &&& (I &&& P.full (n : Int))) 3)] 37)) = w6 at bq hsz BQg BQi BQt BQr W W4 ⊢
    generalize w5.heap.size = qs at bq hsz hq5 ⊢
    have BQs := Lib.hid bq
    have HSZ := Lib.hid hsz
    have HQS4 := Lib.hid hq5
    clear bq hgq hb hsz hq5
    have hbb := BQg.out
    have gc0 : w6.cell? ⟨qg, 0, none⟩ = some (.slice (some ⟨ba, oa, none⟩) n ka) := hbb.cell 0 _ rfl
    have gc1 : w6.cell? ⟨qg, 1, none⟩ = some (.slice (some ⟨bb, ob, none⟩) n kb) := hbb.cell 1 _ rfl
    have gc2 : w6.cell? ⟨qg, 2, none⟩ = some (.slice (some ⟨bc, oc, none⟩) n kc) := hbb.cell 2 _ rfl
    clear hbb
    go_wp2_with (refine wpl_make elInt rfl (.tmp 54) (.tmp 54) rfl n rfl rfl (by omega) (by omega) ?_; intro w7 hown7 hg7 hs7)
    have hb := below_of_grown hg7
    have HO7 := Lib.hid hown7
    have HS7 := Lib.hid hs7
    replace BQg := Lib.hid (BQg.out.keep (grown_of_below hb none))
    replace BQi := Lib.hid (BQi.out.keep (grown_of_below hb none))
    replace BQt := Lib.hid (BQt.out.keep (grown_of_below hb none))
    replace BQr := Lib.hid (BQr.out.keep (grown_of_below hb none))
    replace W := Lib.hid (W.out.trans (hb.mono W.out.size))
    replace W4 := Lib.hid (W4.out.trans (hb.mono W4.out.size))
    replace BQs := Lib.hid (BQs.out.keep (grown_of_below hb none))
    clear hb hown7 hg7 hs7 gc0 gc1 gc2
    obtain ⟨pm, hpm⟩ : ∃ pm, w6.heap.size = pm := ⟨_, rfl⟩
    rw [hpm] at HO7 HS7 HSZ ⊢
    clear hpm
    go_wp2_with fail
    go_loopw [58] (fun i wr => ∃ k : Nat, k ≤ n ∧ i = .int .i64 (k : Int) ∧ OwnI wr pm (.slice (some ⟨pm, 0, none⟩) n n) (P.rowOf n (fun y => if y < k then -1 else 0)) ∧ w7.grownBy wr (some pm)) (fun i _ => n - (intOf i).toNat)
    case atStart =>
      refine ⟨0, Nat.zero_le _, rfl, ?_, Rg.grown_refl _ _⟩
      have h := HO7.out
      unfold OwnI
      rw [P.rowOf_len]
      have e : (P.rowOf n (fun y => if y < 0 then -1 else 0)).map (Value.int .i64) = List.replicate n (.int .i64 0) := by
        unfold P.rowOf
        rw [List.map_map]
        apply List.ext_getElem?
        intro i
        rw [List.getElem?_map, List.getElem?_replicate]
        by_cases hi : i < n
        · rw [List.getElem?_range hi, if_pos hi]; simp
        · rw [List.getElem?_eq_none (by simpa using hi), if_neg hi]; rfl
      rw [e]
      exact h
    case round =>
      obtain ⟨k, hk, rfl, hown, hgr⟩ := hrel
      have HOW := Lib.hid hown
      have HGR := Lib.hid hgr
      clear hown hgr
      have hk0 : (0 : Int) ≤ (k : Int) := Int.natCast_nonneg _
      by_cases hlt : k < n
      · have fk : decide ((k : Int) < (n : Int)) = true := decide_eq_true (by omega)
        have hki : (k : Int) < (n : Int) := by omega
        obtain ⟨ck, fz⟩ := rowOf_cell HOW.out hlt
        have HREL := Lib.hid (show OwnI (wr.setCell ⟨pm, k, none⟩ (.int .i64 (-1))) pm (.slice (some ⟨pm, 0, none⟩) n n) (P.rowOf n (fun y => if y < k + 1 then -1 else 0)) from by
          have h := HOW.out.put k (-1)
          rw [P.rowOf_set] at h
          rw [show P.rowOf n (fun y => if y < k + 1 then (-1 : Int) else 0) = P.rowOf n (fun y => if y = k then -1 else if y < k then -1 else 0) from P.rowOf_congr fun y _ => by
            by_cases e : y = k
            · rw [if_pos (by omega), if_pos e]
            · rw [if_neg e]
              by_cases e2 : y < k
              · rw [if_pos (by omega), if_pos e2]
              · rw [if_neg (by omega), if_neg e2]]
          exact h)
        have HG2 := Lib.hid (grown_chain HGR.out (grown_set wr ⟨pm, k, none⟩ (.int .i64 (-1))))
        go_wp2_with fail
        go_roundw
        case rel => exact ⟨k + 1, by omega, by go_num, HREL.out, HG2.out⟩
        case measure => simp [intOf]; omega
      · have fk : decide ((k : Int) < (n : Int)) = false := decide_eq_false (by omega)
        have HMV := Lib.hid (show OwnI wr pm (.slice (some ⟨pm, 0, none⟩) n n) (P.rowOf n (fun _ => -1)) from by
          rw [show P.rowOf n (fun _ => (-1 : Int)) = P.rowOf n (fun y => if y < k then -1 else 0) from P.rowOf_congr fun y hy => by rw [if_pos (by omega)]]
          exact HOW.out)
        have hpm6 : qs + 1 = pm := by have := HSZ.out; omega
        have hx : ∀ q, q < pm → some q ≠ some pm := fun q hq e => by injection e with e; omega
        have hqr : qr < w4.heap.size := Nat.lt_of_lt_of_le HQR3.out HW3.out
        have hqs4 := HQS4.out
        have hlt1 := LTgi.out
        have hlt2 := LTit.out
        have hlt3 := LTtr.out
        replace BQg := Lib.hid (BQg.out.grown HGR.out (hx _ (by omega)))
        replace BQr := Lib.hid (BQr.out.grown HGR.out (hx _ (by omega)))
        replace BQs := Lib.hid (BQs.out.grown HGR.out (hx _ (by omega)))
        replace W4 := Lib.hid (W4.out.trans (below_mono_grown HGR.out W4.out.size (fun k e => by injection e with e; omega)))
        replace W := Lib.hid (W.out.trans (below_mono_grown HGR.out W.out.size (fun k e => by injection e with e; have := LEg.out; omega)))
        have HPM := Lib.hid hpm6
        clear HOW hlt1 hlt2 hlt3 hqs4 hqr hx hpm6 HGR HO7
        have hbb := BQs.out
        have sc0 : wr.cell? ⟨qs, 0, none⟩ = some (.int .u64 (P.wrd (To &&& (I &&& P.full (n : Int))) 0)) := hbb.cell 0 _ rfl
        have sc1 : wr.cell? ⟨qs, 1, none⟩ = some (.int .u64 (P.wrd (To &&& (I &&& P.full (n : Int))) 1)) := hbb.cell 1 _ rfl
        have sc2 : wr.cell? ⟨qs, 2, none⟩ = some (.int .u64 (P.wrd (To &&& (I &&& P.full (n : Int))) 2)) := hbb.cell 2 _ rfl
        have sc3 : wr.cell? ⟨qs, 3, none⟩ = some (.int .u64 (P.wrd (To &&& (I &&& P.full (n : Int))) 3)) := hbb.cell 3 _ rfl
        clear hbb
        go_wp2_with fail
        clear sc0 sc1 sc2 sc3
        refine (list_any (To &&& (I &&& P.full (n : Int))) _ (T.out.on W.out)).mono ?_
        rintro e w9 ⟨qv, rfl, hoq, hb⟩
        have HPMB : Hid (pm < wr.heap.size) := Lib.hid ((own_lt HMV.out pm rfl).2)
        have HMV := Lib.hid (own_grown HMV.out (grown_of_below hb none))
        have HOQ := Lib.hid hoq
        have HN9 := Lib.hid hb.size
        replace BQg := Lib.hid (BQg.out.keep (grown_of_below hb none))
        replace BQr := Lib.hid (BQr.out.keep (grown_of_below hb none))
        replace BQs := Lib.hid (BQs.out.keep (grown_of_below hb none))
        replace W := Lib.hid (W.out.trans (hb.mono W.out.size))
        replace W4 := Lib.hid (W4.out.trans (hb.mono W4.out.size))
        clear hb hoq
        have HQB : Hid (w9.heap.size ≤ w9.heap.size) := Lib.hid (Nat.le_refl _)
        obtain ⟨N, hN⟩ : ∃ N, wr.heap.size = N := ⟨_, rfl⟩
        rw [hN] at HPMB HOQ HN9
        clear hN
        have HHEAD := Lib.hid (own_grown HHEAD.out (grown_of_below W4.out none))
        replace HROWS := Lib.hid (HROWS.out.grown (grown_of_below W4.out none))
        have HCNT := Lib.hid (own_grown HCNT.out (grown_of_below W4.out none))
        have hpb4 : pb < w4.heap.size := HPB4.out
        have hpa4 : pa < w4.heap.size := HPA4.out
        have hd : qs < N ∧ pa < N ∧ pm < N ∧ qs ≠ pa ∧ qs ≠ pm ∧ pa ≠ pm ∧ w4.heap.size ≤ N ∧ pb ≠ qs ∧ pb ≠ pm := by
          have h1 := HPMB.out
          have h2 := HPM.out
          have h3 := HQS4.out
          refine ⟨by omega, by omega, h1, by omega, by omega, by omega, by omega, by omega, by omega⟩
        have HD := Lib.hid hd
        have HBN : Hid (w.heap.size ≤ N) := Lib.hid (by have h1 := W3.out.size; have h2 := HW3.out; omega)
        have HX : Hid (∀ x ∈ [qs, pa, pm], w.heap.size ≤ x) := Lib.hid (fun x hx => by
          have h1 := W3.out.size
          have h2 := HW3.out
          have h3 := HQS4.out
          have h4 := HPM.out
          have h5 := (own_lt HCNT.out pa rfl).1
          simp only [List.mem_cons, List.not_mem_nil, or_false] at hx
          rcases hx with rfl | rfl | rfl <;> omega)
        have HPBX : Hid (pb < N ∧ pb ∉ [qs, pa, pm]) := Lib.hid ⟨by omega, fun e => by
          simp only [List.mem_cons, List.not_mem_nil, or_false] at e
          have h1 := HNE.out
          omega⟩
        have hpa3 := (own_lt HCNT.out pa rfl).1
        have hqr3 := HQR3.out
        have hw34 := HW3.out
        have hq4 := HQS4.out
        have hlt1 := LTgi.out
        have hlt2 := LTit.out
        have hlt3 := LTtr.out
        have hpm1 := HPM.out
        have HQGX : Hid (qg < N ∧ qg ∉ [qs, pa, pm]) := Lib.hid ⟨by omega, fun e => by
          simp only [List.mem_cons, List.not_mem_nil, or_false] at e
          omega⟩
        have HQRX : Hid (qr < N ∧ qr ∉ [qs, pa, pm]) := Lib.hid ⟨by omega, fun e => by
          simp only [List.mem_cons, List.not_mem_nil, or_false] at e
          omega⟩
        clear hpa3 hqr3 hw34 hq4 hlt1 hlt2 hlt3 hpm1
        have HMH : Hid (Mh w9 N w.heap.size qs pa pm n (To &&& (I &&& P.full (n : Int))) (P.lst (To &&& (I &&& P.full (n : Int)))) (fun y => (P.counts g (I &&& P.full (n : Int)) (P.pre2 (I &&& P.full (n : Int)) n)).2.getD y 0) (fun _ => -1) qv w9) := Lib.hid (by
          have h1 := W3.out.size
          have h2 := HW3.out
          have h3 := HPM.out
          have h4 := HQS4.out
          refine ⟨BQs.out, ?_, own_more HMV.out (by omega), HOQ.out, Rk.Keeps.refl _ _⟩
          have hl := (P.counts_len g (I &&& P.full (n : Int)) (P.pre2 (I &&& P.full (n : Int)) n)).2
          rw [HN.out] at hl
          have e := P.rowOf_list (P.counts g (I &&& P.full (n : Int)) (P.pre2 (I &&& P.full (n : Int)) n)).2
          rw [hl] at e
          rw [e]
          exact own_more HCNT.out (by omega))
        have HRD : Hid (P.Round g (I &&& P.full (n : Int)) 1 To (To &&& (I &&& P.full (n : Int))) (P.lst (To &&& (I &&& P.full (n : Int)))) (fun y => (P.counts g (I &&& P.full (n : Int)) (P.pre2 (I &&& P.full (n : Int)) n)).2.getD y 0) (fun _ => -1) 0 0) := Lib.hid (by
          have h := P.Round.begin HR.out I 1 To
          rw [HN.out] at h
          exact h)
        clear hpb4 hpa4 hd
        go_wp2_with fail
        go_loopw [17, 18] (fun qv iv wr => ∃ (i : Nat) (A : BitVec 256) (Q : List Nat) (o v : Nat → Int), iv = .int .i64 (i : Int) ∧ i ≤ Q.length ∧ P.Round g (I &&& P.full (n : Int)) 1 To A Q o v i 0 ∧ Mh w9 N w.heap.size qs pa pm n A Q o v qv wr) (fun _ iv _ => n - (intOf iv).toNat)
        case atStart => exact ⟨0, _, _, _, _, rfl, Nat.zero_le _, HRD.out, HMH.out⟩
        case round =>
          obtain ⟨i, A, Q, o, v, rfl, hi, hrd, hmh⟩ := hrel
          have hshort := hrd.short
          rw [HN.out] at hshort
          have HRD := Lib.hid hrd
          have HMH := Lib.hid hmh
          clear hrd hmh
          by_cases hlt : i < Q.length
          · have fi : decide ((i : Int) < (Q.length : Int)) = true := decide_eq_true (by omega)
            have hii : (i : Int) < (Q.length : Int) := by omega
            have hi0 : (0 : Int) ≤ (i : Int) := Int.natCast_nonneg _
            obtain ⟨q, hq⟩ : ∃ q, Q[i]? = some q := ⟨_, List.getElem?_eq_getElem hlt⟩
            obtain ⟨bq, kq, rfl, cq⟩ := HMH.out.cellq hq
            have hqn : q < n := by rw [← HN.out]; exact (HRD.out.sub q (List.mem_of_getElem? hq)).bound.1
            have hqi : (q : Int) < (n : Int) := by omega
            have hq0 : (0 : Int) ≤ (q : Int) := Int.natCast_nonneg _
            obtain ⟨ah, hah⟩ : ∃ ah, P.ahead g (I &&& P.full (n : Int)) q = ah := ⟨_, rfl⟩
            have hrow : (P.counts g (I &&& P.full (n : Int)) (P.pre2 (I &&& P.full (n : Int)) n)).1[q]? = some (ah.map fun (x : Nat) => (x : Int)) := by
              have h1 := (P.counts_is HR.out (I &&& P.full (n : Int))).1 q
              have h2 := (P.counts_len g (I &&& P.full (n : Int)) (P.pre2 (I &&& P.full (n : Int)) n)).1
              rw [HN.out] at h1 h2
              rw [hah] at h1
              rw [← h1, List.getD_eq_getElem?_getD, List.getElem?_eq_getElem (by omega)]
              rfl
            obtain ⟨u, hu, hou⟩ := HROWS.out.rows q _ hrow
            have hov : w9.ownsRow w3.heap.size 3 1 u ah.length (P.vals ah) := by
              have h := hou
              unfold OwnI at h
              rw [List.length_map, List.map_map] at h
              exact h
            obtain ⟨uo, uk, rfl, -⟩ := own_at hov
            have hub : ∀ b, (Value.slice uo ah.length uk).ownBlock = some b → b < N ∧ b ∉ [qs, pa, pm] := fun b hb => by
              have h1 := (HROW4.out.low hu b hb).2
              have h2 := HD.out
              have h3 := HFAR.out q _ hu
              refine ⟨by omega, fun e => ?_⟩
              simp only [List.mem_cons, List.not_mem_nil, or_false] at e
              rcases e with rfl | rfl | rfl
              · have := HQS4.out; omega
              · exact h3 hb
              · have h4 := HPM.out; have := HQS4.out; omega
            have hhd := kx_own HHEAD.out HMH.out.keep (fun b hb => by
              have e : b = pb := by injection hb with hb; exact hb.symm
              subst e
              exact HPBX.out)
            have ch : wr.cell? ⟨pb, q, none⟩ = some (.slice uo ah.length uk) := by rw [hhd.cellAt q (by omega)]; exact hu
            have hal : ah.length ≤ 200 := by
              have h1 := P.pre2_len (I &&& P.full (n : Int)) g.owner.length
              rw [← hah]
              unfold P.ahead
              split
              · exact Nat.le_trans (List.length_filter_le _ _) (by have := HN.out; omega)
              · simp
            have HQ := Lib.hid hq
            have HOV := Lib.hid hov
            have HUB := Lib.hid hub
            have HAH := Lib.hid hah
            clear hq hou hov hub hrow hu hhd hah
            go_wp2_with fail
            clear cq ch
            obtain ⟨wo, rfl⟩ : ∃ wo : World, wo = wr := ⟨_, rfl⟩
            go_loopw [17, 81] (fun qv jv wr => ∃ (j : Nat) (A : BitVec 256) (Q : List Nat) (o v : Nat → Int), jv = .int .i64 (j : Int) ∧ j ≤ ah.length ∧ Q[i]? = some q ∧ P.Round g (I &&& P.full (n : Int)) 1 To A Q o v i j ∧ Mh w9 N w.heap.size qs pa pm n A Q o v qv wr) (fun _ jv _ => ah.length - (intOf jv).toNat)
            case atStart => exact ⟨0, A, Q, o, v, rfl, Nat.zero_le _, HQ.out, HRD.out, HMH.out⟩
            case round =>
              obtain ⟨j, A2, Q2, o2, v2, rfl, hj, hq2, hrd2, hmh2⟩ := hrel
              have HQ2 := Lib.hid hq2
              have HRD2 := Lib.hid hrd2
              have HMH2 := Lib.hid hmh2
              clear hq2 hrd2 hmh2
              have hj0 : (0 : Int) ≤ (j : Int) := Int.natCast_nonneg _
              by_cases hlj : j < ah.length
              · have fj : decide ((j : Int) < (ah.length : Int)) = true := decide_eq_true (by omega)
                have hji : (j : Int) < (ah.length : Int) := by omega
                obtain ⟨x, hx⟩ : ∃ x, ah[j]? = some x := ⟨_, List.getElem?_eq_getElem hlj⟩
                have hmem := (P.mem_ahead g (I &&& P.full (n : Int)) q x).1 (by rw [HAH.out]; exact List.mem_of_getElem? hx)
                have hxn : x < n := by rw [← HN.out]; exact hmem.2.1
                have hxi : (x : Int) < (n : Int) := by omega
                have hx0 : (0 : Int) ≤ (x : Int) := Int.natCast_nonneg _
                have hou := kx_own HOV.out HMH2.out.keep HUB.out
                obtain ⟨ub, uk2, e9, -, -, huc, -⟩ := own_form hou (by omega)
                obtain ⟨rfl, -, rfl⟩ : uo = some ⟨ub, 0, none⟩ ∧ ah.length = ah.length ∧ uk = uk2 := by injection e9 with h1 h2 h3; exact ⟨h1, h2, h3⟩
                have cu : wr.cell? ⟨ub, j, none⟩ = some (.int .i64 (x : Int)) := huc j _ (by unfold P.vals; rw [List.getElem?_map, hx]; rfl)
                have HXJ : Hid ((P.ahead g (I &&& P.full (n : Int)) q)[j]? = some x) := Lib.hid (by rw [HAH.out]; exact hx)
                have hzb : 0 ≤ o2 x ∧ o2 x ≤ 200 := by
                  have h1 := HRD2.out.outs x hmem.2.1 hmem.2.2.1
                  have h2 := P.cnt_le g (I &&& P.full (n : Int)) Q2 i j x
                  have h3 : (P.into g (I &&& P.full (n : Int)) x).length ≤ 200 := Nat.le_trans (List.length_filter_le _ _) (P.moves_short HR.out x)
                  omega
                obtain ⟨z1, hz1⟩ : ∃ z1, o2 x - 1 = z1 := ⟨_, rfl⟩
                obtain ⟨hz2, hz3⟩ : -1 ≤ z1 ∧ z1 ≤ 199 := by omega
                obtain ⟨cz, fz⟩ := rowOf_cell HMH2.out.outs hxn
                rw [show o2 x = z1 + 1 by omega] at cz
                have HZ1 := Lib.hid hz1
                have howner := (HR.out.at x hmem.2.1).1
                clear hmem hou e9 huc hx hzb hz1
                go_upto_region 21 with (fail)
                clear cu cz fz
                replace HMH2 := Lib.hid (HMH2.out.dec HD.out.2.1 HD.out.2.2.2.1 (Ne.symm HD.out.2.2.2.2.2.1) x z1)
                generalize (wr.setCell ⟨pa, x, none⟩ (.int .i64 z1)) = w10 at HMH2 ⊢
                have hbb := HMH2.out.set
                have sc0 : w10.cell? ⟨qs, 0, none⟩ = some (.int .u64 (P.wrd A2 0)) := hbb.cell 0 _ rfl
                have sc1 : w10.cell? ⟨qs, 1, none⟩ = some (.int .u64 (P.wrd A2 1)) := hbb.cell 1 _ rfl
                have sc2 : w10.cell? ⟨qs, 2, none⟩ = some (.int .u64 (P.wrd A2 2)) := hbb.cell 2 _ rfl
                have sc3 : w10.cell? ⟨qs, 3, none⟩ = some (.int .u64 (P.wrd A2 3)) := hbb.cell 3 _ rfl
                clear hbb
                go_wp2_with fail
                refine (has_any A2 (x : Int) _).mono ?_
                rintro e w11 ⟨rfl, hb⟩
                replace HMH2 := Lib.hid (HMH2.out.on hb)
                clear hb sc0 sc1 sc2 sc3
                rw [P.has_nat]
                obtain ⟨hs, hhs⟩ : ∃ hs, A2.getLsbD x = hs := ⟨_, rfl⟩
                rw [hhs]
                have HHB := Lib.hid hhs
                clear hhs
                cases hs with
                | true =>
                  have HRD3 := Lib.hid (HRD2.out.has HR.out HQ2.out (j := j) HXJ.out (o' := fun y => if y = x then z1 else o2 y) (fun y => by show (if y = x then z1 else o2 y) = _; rw [HZ1.out]) HHB.out)
                  go_wp2_with fail
                  go_roundw
                  case rel => exact ⟨j + 1, A2, Q2, _, v2, by go_num, by omega, HQ2.out, HRD3.out, HMH2.out⟩
                  case measure => simp [intOf]; omega
                | false =>
                  have hbw : Below w.heap.size w w11 := W.out.trans (kx_below HMH2.out.keep HX.out HBN.out HN9.out)
                  have co := HCA.out w11 hbw x hxn
                  have hbb := kx_box HMH2.out.keep BQg.out HQGX.out.1 HQGX.out.2
                  have gc0 : w11.cell? ⟨qg, 0, none⟩ = some (.slice (some ⟨ba, oa, none⟩) n ka) := hbb.cell 0 _ rfl
                  have gc1 : w11.cell? ⟨qg, 1, none⟩ = some (.slice (some ⟨bb, ob, none⟩) n kb) := hbb.cell 1 _ rfl
                  have gc2 : w11.cell? ⟨qg, 2, none⟩ = some (.slice (some ⟨bc, oc, none⟩) n kc) := hbb.cell 2 _ rfl
                  clear hbb hbw
                  obtain ⟨cz, -⟩ := rowOf_cell HMH2.out.outs hxn
                  rw [if_pos rfl] at cz
                  by_cases hzo : g.owner.getD x 0 = 1
                  · have HZO := Lib.hid hzo
                    rw [hzo] at co
                    clear hzo howner
                    obtain ⟨qb2, qk2, rfl, cq2⟩ := HMH2.out.cellq HQ2.out
                    obtain ⟨cm, fm⟩ := rowOf_cell HMH2.out.mvs hxn
                    have hiq : (i : Int) < (Q2.length : Int) := by have := (List.getElem?_eq_some_iff.1 HQ2.out).1; omega
                    have hvv : ∀ y, (if y = x then (q : Int) else v2 y) = if y = x ∧ g.owner.getD x 0 = 1 then (q : Int) else v2 y := fun y => by
                      by_cases e : y = x
                      · rw [if_pos e, if_pos ⟨e, HZO.out⟩]
                      · rw [if_neg e, if_neg (fun h => e h.1)]
                    have HRD3 := Lib.hid (HRD2.out.comes HR.out HQ2.out (j := j) HXJ.out (o' := fun y => if y = x then z1 else o2 y) (v' := (fun y => if y = x then (q : Int) else v2 y)) (fun y => by show (if y = x then z1 else o2 y) = _; rw [HZ1.out]) HHB.out (.inl HZO.out) hvv (A' := A2 ||| P.bit (x : Int)) (fun y => P.bit_or A2 x y (by omega)))
                    clear hvv
                    go_upto_region 24 with (fail)
                    clear co gc0 gc1 gc2 cz
                    clear cm fm cq2
                    replace HMH2 := Lib.hid (HMH2.out.move HD.out.2.2.1 HD.out.2.2.2.2.1 HD.out.2.2.2.2.2.1 x (q : Int))
                    generalize (w11.setCell ⟨pm, x, none⟩ (.int .i64 (q : Int))) = w12 at HMH2 ⊢
                    have hbb := HMH2.out.set
                    have sc0 : w12.cell? ⟨qs, 0, none⟩ = some (.int .u64 (P.wrd A2 0)) := hbb.cell 0 _ rfl
                    have sc1 : w12.cell? ⟨qs, 1, none⟩ = some (.int .u64 (P.wrd A2 1)) := hbb.cell 1 _ rfl
                    have sc2 : w12.cell? ⟨qs, 2, none⟩ = some (.int .u64 (P.wrd A2 2)) := hbb.cell 2 _ rfl
                    have sc3 : w12.cell? ⟨qs, 3, none⟩ = some (.int .u64 (P.wrd A2 3)) := hbb.cell 3 _ rfl
                    have sf0 : w12.frozen? ⟨qs, 0, none⟩ = false := hbb.frozen 0
                    have sf1 : w12.frozen? ⟨qs, 1, none⟩ = false := hbb.frozen 1
                    have sf2 : w12.frozen? ⟨qs, 2, none⟩ = false := hbb.frozen 2
                    have sf3 : w12.frozen? ⟨qs, 3, none⟩ = false := hbb.frozen 3
                    clear hbb
                    go_wp2_with fail
                    refine (with_any A2 (x : Int) _).mono ?_
                    rintro e w13 ⟨rfl, hb⟩
                    replace HMH2 := Lib.hid (HMH2.out.on hb)
                    clear hb sc0 sc1 sc2 sc3 sf0 sf1 sf2 sf3
                    have hbb := HMH2.out.set
                    have sc0 : w13.cell? ⟨qs, 0, none⟩ = some (.int .u64 (P.wrd A2 0)) := hbb.cell 0 _ rfl
                    have sc1 : w13.cell? ⟨qs, 1, none⟩ = some (.int .u64 (P.wrd A2 1)) := hbb.cell 1 _ rfl
                    have sc2 : w13.cell? ⟨qs, 2, none⟩ = some (.int .u64 (P.wrd A2 2)) := hbb.cell 2 _ rfl
                    have sc3 : w13.cell? ⟨qs, 3, none⟩ = some (.int .u64 (P.wrd A2 3)) := hbb.cell 3 _ rfl
                    have sf0 : w13.frozen? ⟨qs, 0, none⟩ = false := hbb.frozen 0
                    have sf1 : w13.frozen? ⟨qs, 1, none⟩ = false := hbb.frozen 1
                    have sf2 : w13.frozen? ⟨qs, 2, none⟩ = false := hbb.frozen 2
                    have sf3 : w13.frozen? ⟨qs, 3, none⟩ = false := hbb.frozen 3
                    clear hbb
                    go_upto_region 25 with (fail)
                    clear sc0 sc1 sc2 sc3 sf0 sf1 sf2 sf3
                    replace HMH2 := Lib.hid (HMH2.out.with_ HD.out.1 (Ne.symm HD.out.2.2.2.1) (Ne.symm HD.out.2.2.2.2.1) (A2 ||| P.bit (x : Int)))
                    generalize ((((w13.setCell ⟨qs, 0, none⟩ (.int .u64 (P.wrd (A2 ||| P.bit (x : Int)) 0))).setCell ⟨qs, 1, none⟩ (.int .u64 (P.wrd (A2 ||| P.bit (x : Int)) 1))).setCell ⟨qs, 2, none⟩ (.int .u64 (P.wrd (A2 ||| P.bit (x : Int)) 2))).setCell ⟨qs, 3, none⟩ (.int .u64 (P.wrd (A2 ||| P.bit (x : Int)) 3))) = w14 at HMH2 ⊢
                    have hql : Q2.length ≤ 200 := by
                      have := HRD2.out.short
                      rw [HN.out] at this
                      omega
                    have HN14 : Hid (N ≤ w14.heap.size) := Lib.hid (Nat.le_trans HN9.out HMH2.out.keep.size)
                    go_wp2_with (at_builtin; refine wpl_append elInt rfl (.tmp 127) (.tmp 129) rfl rfl (own_grown HMH2.out.queue (World.grownBy_alloc _ _ none)) rfl (row_one _ _ _) ?_ ?_ ?_ ?_ ?_)
                    · intro u hu; simp at hu; subst hu; rfl
                    · simp; omega
                    · simp; omega
                    · have := HN14.out; simp; omega
                    intro v' w15 hown hgr hat
                    have HMH3 := Lib.hid (HMH2.out.push HD.out.1 HD.out.2.1 HD.out.2.2.1 hgr hown)
                    clear hown hgr hat
                    go_wp2_with fail
                    go_roundw
                    case rel => exact ⟨j + 1, _, _, _, _, by go_num, by omega, by rw [List.getElem?_append_left (List.getElem?_eq_some_iff.1 HQ2.out).1]; exact HQ2.out, HRD3.out, HMH3.out⟩
                    case measure => simp [intOf]; omega
                  · have hz4 : g.owner.getD x 0 = 0 := by omega
                    have HZO := Lib.hid hz4
                    have HNE2 := Lib.hid hzo
                    rw [hz4] at co
                    clear hzo hz4 howner
                    by_cases hpos : 0 < z1
                    · have HPOS := Lib.hid hpos
                      have fp : decide (0 < z1) = true := decide_eq_true hpos
                      have HRD3 := Lib.hid (HRD2.out.left HR.out HQ2.out (j := j) HXJ.out (o' := fun y => if y = x then z1 else o2 y) (fun y => by show (if y = x then z1 else o2 y) = _; rw [HZ1.out]) (by rw [HZO.out]; decide) (by show 0 < (if x = x then z1 else o2 x); rw [if_pos rfl]; exact HPOS.out))
                      go_wp2_with fail
                      go_roundw
                      case rel => exact ⟨j + 1, A2, Q2, _, v2, by go_num, by omega, HQ2.out, HRD3.out, HMH2.out⟩
                      case measure => simp [intOf]; omega
                    · have HPOS : Hid (z1 ≤ 0) := Lib.hid (by omega)
                      have fp : decide (0 < z1) = false := decide_eq_false hpos
                      have HRD3 := Lib.hid (HRD2.out.comes HR.out HQ2.out (j := j) HXJ.out (o' := fun y => if y = x then z1 else o2 y) (v' := v2) (fun y => by show (if y = x then z1 else o2 y) = _; rw [HZ1.out]) HHB.out (.inr (by show (if x = x then z1 else o2 x) ≤ 0; rw [if_pos rfl]; exact HPOS.out)) (fun y => by rw [if_neg (fun h => HNE2.out h.2)]) (A' := A2 ||| P.bit (x : Int)) (fun y => P.bit_or A2 x y (by omega)))
                      go_upto_region 24 with (fail)
                      clear co gc0 gc1 gc2 cz fp hpos
                      generalize w11 = w12 at HMH2 ⊢
                      have hbb := HMH2.out.set
                      have sc0 : w12.cell? ⟨qs, 0, none⟩ = some (.int .u64 (P.wrd A2 0)) := hbb.cell 0 _ rfl
                      have sc1 : w12.cell? ⟨qs, 1, none⟩ = some (.int .u64 (P.wrd A2 1)) := hbb.cell 1 _ rfl
                      have sc2 : w12.cell? ⟨qs, 2, none⟩ = some (.int .u64 (P.wrd A2 2)) := hbb.cell 2 _ rfl
                      have sc3 : w12.cell? ⟨qs, 3, none⟩ = some (.int .u64 (P.wrd A2 3)) := hbb.cell 3 _ rfl
                      have sf0 : w12.frozen? ⟨qs, 0, none⟩ = false := hbb.frozen 0
                      have sf1 : w12.frozen? ⟨qs, 1, none⟩ = false := hbb.frozen 1
                      have sf2 : w12.frozen? ⟨qs, 2, none⟩ = false := hbb.frozen 2
                      have sf3 : w12.frozen? ⟨qs, 3, none⟩ = false := hbb.frozen 3
                      clear hbb
                      go_wp2_with fail
                      refine (with_any A2 (x : Int) _).mono ?_
                      rintro e w13 ⟨rfl, hb⟩
                      replace HMH2 := Lib.hid (HMH2.out.on hb)
                      clear hb sc0 sc1 sc2 sc3 sf0 sf1 sf2 sf3
                      have hbb := HMH2.out.set
                      have sc0 : w13.cell? ⟨qs, 0, none⟩ = some (.int .u64 (P.wrd A2 0)) := hbb.cell 0 _ rfl
                      have sc1 : w13.cell? ⟨qs, 1, none⟩ = some (.int .u64 (P.wrd A2 1)) := hbb.cell 1 _ rfl
                      have sc2 : w13.cell? ⟨qs, 2, none⟩ = some (.int .u64 (P.wrd A2 2)) := hbb.cell 2 _ rfl
                      have sc3 : w13.cell? ⟨qs, 3, none⟩ = some (.int .u64 (P.wrd A2 3)) := hbb.cell 3 _ rfl
                      have sf0 : w13.frozen? ⟨qs, 0, none⟩ = false := hbb.frozen 0
                      have sf1 : w13.frozen? ⟨qs, 1, none⟩ = false := hbb.frozen 1
                      have sf2 : w13.frozen? ⟨qs, 2, none⟩ = false := hbb.frozen 2
                      have sf3 : w13.frozen? ⟨qs, 3, none⟩ = false := hbb.frozen 3
                      clear hbb
                      go_upto_region 25 with (fail)
                      clear sc0 sc1 sc2 sc3 sf0 sf1 sf2 sf3
                      replace HMH2 := Lib.hid (HMH2.out.with_ HD.out.1 (Ne.symm HD.out.2.2.2.1) (Ne.symm HD.out.2.2.2.2.1) (A2 ||| P.bit (x : Int)))
                      generalize ((((w13.setCell ⟨qs, 0, none⟩ (.int .u64 (P.wrd (A2 ||| P.bit (x : Int)) 0))).setCell ⟨qs, 1, none⟩ (.int .u64 (P.wrd (A2 ||| P.bit (x : Int)) 1))).setCell ⟨qs, 2, none⟩ (.int .u64 (P.wrd (A2 ||| P.bit (x : Int)) 2))).setCell ⟨qs, 3, none⟩ (.int .u64 (P.wrd (A2 ||| P.bit (x : Int)) 3))) = w14 at HMH2 ⊢
                      have hql : Q2.length ≤ 200 := by
                        have := HRD2.out.short
                        rw [HN.out] at this
                        omega
                      have HN14 : Hid (N ≤ w14.heap.size) := Lib.hid (Nat.le_trans HN9.out HMH2.out.keep.size)
                      go_wp2_with (at_builtin; refine wpl_append elInt rfl (.tmp 127) (.tmp 129) rfl rfl (own_grown HMH2.out.queue (World.grownBy_alloc _ _ none)) rfl (row_one _ _ _) ?_ ?_ ?_ ?_ ?_)
                      · intro u hu; simp at hu; subst hu; rfl
                      · simp; omega
                      · simp; omega
                      · have := HN14.out; simp; omega
                      intro v' w15 hown hgr hat
                      have HMH3 := Lib.hid (HMH2.out.push HD.out.1 HD.out.2.1 HD.out.2.2.1 hgr hown)
                      clear hown hgr hat
                      go_wp2_with fail
                      go_roundw
                      case rel => exact ⟨j + 1, _, _, _, _, by go_num, by omega, by rw [List.getElem?_append_left (List.getElem?_eq_some_iff.1 HQ2.out).1]; exact HQ2.out, HRD3.out, HMH3.out⟩
                      case measure => simp [intOf]; omega
              · have fj : decide ((j : Int) < (ah.length : Int)) = false := decide_eq_false (by omega)
                have HRD3 : Hid (P.Round g (I &&& P.full (n : Int)) 1 To A2 Q2 o2 v2 (i + 1) 0) := Lib.hid (P.Round.next HR.out HQ2.out (by
                  have e : j = (P.ahead g (I &&& P.full (n : Int)) q).length := by rw [HAH.out]; omega
                  rw [← e]
                  exact HRD2.out))
                have hil : i + 1 ≤ Q2.length := (List.getElem?_eq_some_iff.1 HQ2.out).1
                go_wp2_with fail
                go_roundw
                case rel => exact ⟨i + 1, A2, Q2, o2, v2, by go_num, hil, HRD3.out, HMH2.out⟩
                case measure => simp [intOf]; omega
          · have fi : decide ((i : Int) < (Q.length : Int)) = false := decide_eq_false (by omega)
            have hie : i = Q.length := by omega
            obtain ⟨vo, vk, rfl, -⟩ := own_at HMH.out.queue
            have HAT := Lib.hid (show A = P.attOf g I 1 To from P.Round.set_is HR.out (by omega) (by
              have h := HRD.out
              rw [hie] at h
              rw [HN.out]
              exact h))
            have HPL := Lib.hid (show P.Played g (I &&& P.full (n : Int)) 1 To (P.rowOf n v) from ⟨A, Q, o, v, by have h := HRD.out; rw [hie] at h; exact h, by rw [HN.out]⟩)
            have hbb := HMH.out.set
            have sc0 : wr.cell? ⟨qs, 0, none⟩ = some (.int .u64 (P.wrd A 0)) := hbb.cell 0 _ rfl
            have sc1 : wr.cell? ⟨qs, 1, none⟩ = some (.int .u64 (P.wrd A 1)) := hbb.cell 1 _ rfl
            have sc2 : wr.cell? ⟨qs, 2, none⟩ = some (.int .u64 (P.wrd A 2)) := hbb.cell 2 _ rfl
            have sc3 : wr.cell? ⟨qs, 3, none⟩ = some (.int .u64 (P.wrd A 3)) := hbb.cell 3 _ rfl
            clear hbb hie
            have hbb := kx_box HMH.out.keep BQr.out HQRX.out.1 HQRX.out.2
            have rc0 : wr.cell? ⟨qr, 0, none⟩ = some (.int .u64 0) := hbb.cell 0 _ rfl
            have rc1 : wr.cell? ⟨qr, 1, none⟩ = some (.int .u64 0) := hbb.cell 1 _ rfl
            have rc2 : wr.cell? ⟨qr, 2, none⟩ = some (.int .u64 0) := hbb.cell 2 _ rfl
            have rc3 : wr.cell? ⟨qr, 3, none⟩ = some (.int .u64 0) := hbb.cell 3 _ rfl
            have rf0 : wr.frozen? ⟨qr, 0, none⟩ = false := hbb.frozen 0
            have rf1 : wr.frozen? ⟨qr, 1, none⟩ = false := hbb.frozen 1
            have rf2 : wr.frozen? ⟨qr, 2, none⟩ = false := hbb.frozen 2
            have rf3 : wr.frozen? ⟨qr, 3, none⟩ = false := hbb.frozen 3
            clear hbb
            have HBW : Hid (Below w.heap.size w wr) := Lib.hid (W.out.trans (kx_below HMH.out.keep HX.out HBN.out HN9.out))
            have HMV := Lib.hid (own_kept HMH.out.mvs (grown4 (w := wr) (q := qr) (.int .u64 (P.wrd A 0)) (.int .u64 (P.wrd A 1)) (.int .u64 (P.wrd A 2)) (.int .u64 (P.wrd A 3))) (.inr fun e => by injection e with e; exact HQRX.out.2 (by rw [← e]; simp)))
            have HPO := Lib.hid (HBW.out.trans ((below4 (w := wr) (q := qr) (.int .u64 (P.wrd A 0)) (.int .u64 (P.wrd A 1)) (.int .u64 (P.wrd A 2)) (.int .u64 (P.wrd A 3)) (by have h1 := LEg.out; have h2 := LTgi.out; have h3 := LTit.out; have h4 := LTtr.out; omega))))
            go_wp2_with fail
            refine bodyPost_ret (v := .tuple #[.agg #[.int .u64 (P.wrd A 0), .int .u64 (P.wrd A 1), .int .u64 (P.wrd A 2), .int .u64 (P.wrd A 3)], .slice (some ⟨pm, 0, none⟩) n n]) (by simp [results, Tryd.results33, go_sem, rc0, rc1, rc2, rc3]) rfl ?_
            refine ⟨_, P.rowOf n v, by rw [HAT.out], HMV.out, ?_, HPO.out⟩
            rw [if_pos ⟨HOK.out, by omega⟩, HN.out]
            exact HPL.out

theorem attract_any (g : P.G) (I To : BitVec 256) (p : Int) (v : Value) (w : World) (hv : GameV w v g) (hT : Tab w) : Calls Tryd.prog 33 #[v, .agg #[.int .u64 (P.wrd I 0), .int .u64 (P.wrd I 1), .int .u64 (P.wrd I 2), .int .u64 (P.wrd I 3)], .int .i64 p, .agg #[.int .u64 (P.wrd To 0), .int .u64 (P.wrd To 1), .int .u64 (P.wrd To 2), .int .u64 (P.wrd To 3)]] w (Attracted w g I p To) := by
  by_cases hok : g.ok = true
  · by_cases h0 : p = 0
    · subst h0; exact attract_0 g I To v w hv hT hok
    · by_cases h1 : p = 1
      · subst h1; exact attract_1 g I To v w hv hT hok
      · exact attract_none g I To p v w hv hok h0 h1
  · exact attract_wrong g I To p v w hv (by simpa using hok)

def tupAt (v : Value) (i : Nat) : Value := match v with
  | .tuple cs => cs.getD i undef
  | _ => undef
/-- What Attract hands back, for a region that draws its order: the set s, and moves m of the call's own. -/
def AttT (lo : Nat) (s : BitVec 256) (v : Value) (w' : World) : Prop := ∃ x k m, v = .tuple #[.agg #[.int .u64 (P.wrd s 0), .int .u64 (P.wrd s 1), .int .u64 (P.wrd s 2), .int .u64 (P.wrd s 3)], .slice x m.length k] ∧ OwnI w' lo (.slice x m.length k) m
theorem AttT.low {lo lo' : Nat} {s : BitVec 256} {v : Value} {w : World} (h : AttT lo s v w) (hl : lo' ≤ lo) : AttT lo' s v w := by
  obtain ⟨x, k, m, hv, ho⟩ := h
  exact ⟨x, k, m, hv, own_more ho hl⟩
theorem attract_t (g : P.G) (I To : BitVec 256) (p : Int) (v : Value) (w : World) (hv : GameV w v g) (hT : Tab w) : Calls Tryd.prog 33 #[v, .agg #[.int .u64 (P.wrd I 0), .int .u64 (P.wrd I 1), .int .u64 (P.wrd I 2), .int .u64 (P.wrd I 3)], .int .i64 p, .agg #[.int .u64 (P.wrd To 0), .int .u64 (P.wrd To 1), .int .u64 (P.wrd To 2), .int .u64 (P.wrd To 3)]] w fun e w' => ∃ u, e = .returned u ∧ AttT w.heap.size (P.attOf g I p To) u w' ∧ Below w.heap.size w w' :=
  (attract_any g I To p v w hv hT).mono fun e w' ⟨u, m, he, ho, _, hb⟩ => by
    obtain ⟨x, k, rfl, -⟩ := own_at ho
    exact ⟨_, he, ⟨x, k, m, rfl, ho⟩, hb⟩
theorem zero_set : (.agg #[.int .u64 (P.wrd 0#256 0), .int .u64 (P.wrd 0#256 1), .int .u64 (P.wrd 0#256 2), .int .u64 (P.wrd 0#256 3)] : Value) = .agg #[.int .u64 0, .int .u64 0, .int .u64 0, .int .u64 0] := by
  have e : ∀ k, P.wrd 0#256 k = 0 := P.wrd_zero
  rw [e, e, e, e]
/-- To nothing. -/
theorem attract_to0 (g : P.G) (I : BitVec 256) (p : Int) (v : Value) (w : World) (hv : GameV w v g) (hT : Tab w) : Calls Tryd.prog 33 #[v, .agg #[.int .u64 (P.wrd I 0), .int .u64 (P.wrd I 1), .int .u64 (P.wrd I 2), .int .u64 (P.wrd I 3)], .int .i64 p, .agg #[.int .u64 0, .int .u64 0, .int .u64 0, .int .u64 0]] w (Attracted w g I p 0#256) := by
  have h := attract_any g I 0#256 p v w hv hT
  rw [zero_set] at h
  exact h
/-- Within nothing. -/
theorem attract_in0 (g : P.G) (To : BitVec 256) (p : Int) (v : Value) (w : World) (hv : GameV w v g) (hT : Tab w) : Calls Tryd.prog 33 #[v, .agg #[.int .u64 0, .int .u64 0, .int .u64 0, .int .u64 0], .int .i64 p, .agg #[.int .u64 (P.wrd To 0), .int .u64 (P.wrd To 1), .int .u64 (P.wrd To 2), .int .u64 (P.wrd To 3)]] w (Attracted w g 0#256 p To) := by
  have h := attract_any g 0#256 To p v w hv hT
  rw [zero_set] at h
  exact h
end W
end Go.Proofs.YtghdjkpndhcplaaDoor
