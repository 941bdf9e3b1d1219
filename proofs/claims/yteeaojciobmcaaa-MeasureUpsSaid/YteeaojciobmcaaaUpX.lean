/- Up: the program's. -/
import Derived.Test.YteeaojciobmcaaaBounds
import Derived.Test.YteeaojciobmcaaaMoves
import Derived.Test.YteeaojciobmcaaaRegionG
import Derived.Deep.Cut
import Derived.Lib.Hide
import Derived.Deep.QuietTactic
import Derived.BigQuiet
namespace Go.Proofs.Yteeaojciobmcaaa
open Go.RowKit
namespace W

set_option maxRecDepth 100000 in
set_option maxHeartbeats 1000000 in
theorem upx_any (g : P.G) (t : P.Tup) (p : Int) (v : Value) (w : World) (hv : GameV w v g) (hp : -9223372036854775808 ≤ p ∧ p < 9223372036854775808) (ht : ∀ k, k < 4 → -9223372036854775808 ≤ ct t k) (hn : ∀ k, k < 4 → ct g.tups k ≤ 17592186043904) :
    Calls Try.prog 17 #[v, .int .i64 p, .agg (tc t)] w fun e w' => e = .returned (.agg (tc (P.Tup.up g.tups p t))) ∧ Below w.heap.size w w' := by
  have HV := Lib.hid hv
  have HP := Lib.hid hp
  have HT := Lib.hid ht
  have HN := Lib.hid hn
  obtain ⟨a, b, c, rfl, -⟩ := hv
  clear hp ht hn
  unfold tc
  go_enter Try.func17, Try.ntmps17
  go_wp2_with fail
  rw [show #[.bool false, .int .i64 0, .int .i64 0, .int .i64 0, .int .i64 0] = tc .zero from rfl]
  obtain ⟨u, hu⟩ : ∃ u, P.Tup.up g.tups p t = u := ⟨_, rfl⟩
  have HU := Lib.hid hu
  clear hu
  have bx0 : Box (((w.alloc (.cells #[a, b, c] 33)).alloc (.cells #[.bool t.top, .int .i64 t.a, .int .i64 t.b, .int .i64 t.c, .int .i64 t.d] 26)).alloc (.cells (tc .zero) 26)) (w.heap.size) 33 #[a, b, c] := Box.alloc (Box.alloc (Box.new w 33 #[a, b, c]) (.cells #[.bool t.top, .int .i64 t.a, .int .i64 t.b, .int .i64 t.c, .int .i64 t.d] 26)) (.cells (tc .zero) 26)
  have bx1 : Box (((w.alloc (.cells #[a, b, c] 33)).alloc (.cells #[.bool t.top, .int .i64 t.a, .int .i64 t.b, .int .i64 t.c, .int .i64 t.d] 26)).alloc (.cells (tc .zero) 26)) (w.heap.size + 1) 26 #[.bool t.top, .int .i64 t.a, .int .i64 t.b, .int .i64 t.c, .int .i64 t.d] := by
    have := Box.alloc (Box.new (w.alloc (.cells #[a, b, c] 33)) 26 #[.bool t.top, .int .i64 t.a, .int .i64 t.b, .int .i64 t.c, .int .i64 t.d]) (.cells (tc .zero) 26)
    simpa using this
  have bx2 : Box (((w.alloc (.cells #[a, b, c] 33)).alloc (.cells #[.bool t.top, .int .i64 t.a, .int .i64 t.b, .int .i64 t.c, .int .i64 t.d] 26)).alloc (.cells (tc .zero) 26)) (w.heap.size + 1 + 1) 26 (tc .zero) := by
    have := Box.new ((w.alloc (.cells #[a, b, c] 33)).alloc (.cells #[.bool t.top, .int .i64 t.a, .int .i64 t.b, .int .i64 t.c, .int .i64 t.d] 26)) 26 (tc .zero)
    simpa using this
  have hbq : Below w.heap.size w (((w.alloc (.cells #[a, b, c] 33)).alloc (.cells #[.bool t.top, .int .i64 t.a, .int .i64 t.b, .int .i64 t.c, .int .i64 t.d] 26)).alloc (.cells (tc .zero) 26)) := (((Below.refl _ w).alloc (Nat.le_refl _) _).alloc (by simp) _).alloc (by simp; omega) _
  have lt0 : w.heap.size < w.heap.size + 1 := Nat.lt_succ_self _
  have lt1 : w.heap.size + 1 < w.heap.size + 1 + 1 := Nat.lt_succ_self _
  have hle0 : w.heap.size ≤ w.heap.size := Nat.le_refl _
  generalize (((w.alloc (.cells #[a, b, c] 33)).alloc (.cells #[.bool t.top, .int .i64 t.a, .int .i64 t.b, .int .i64 t.c, .int .i64 t.d] 26)).alloc (.cells (tc .zero) 26)) = w0 at bx0 bx1 bx2 hbq  ⊢
  have BQg := Lib.hid bx0
  have BQt := Lib.hid bx1
  have BQr := Lib.hid bx2
  have W := Lib.hid hbq
  have LTgt := Lib.hid lt0
  have LTtr := Lib.hid lt1
  have LEg := Lib.hid hle0
  clear hbq hle0 bx0 bx1 bx2 lt0 lt1
  generalize w.heap.size + 1 + 1 = qr at BQr LTtr ⊢
  generalize w.heap.size + 1 = qt at BQt LTtr LTgt ⊢
  obtain ⟨qg, hqg⟩ : ∃ qg, w.heap.size = qg := ⟨_, rfl⟩
  rw [hqg] at BQg LTgt ⊢
  have LEg : Hid (w.heap.size ≤ qg) := Lib.hid (by omega)
  clear hqg
  have LEr := Lib.hid (Nat.le_trans (Nat.le_trans LEg.out (Nat.le_of_lt LTgt.out)) (Nat.le_of_lt LTtr.out))
  have HG1 := Lib.hid (HV.out.on W.out)
  refine Rt.wp_region_tail 1 (fun idx => match idx with | 0 => (fun v _ _ => v = (.agg #[a, b, c])) | 1 => (fun v _ _ => v = (.agg (bc g.tups))) | 2 => (fun v _ _ => v = (.int .i64 p)) | 3 => (fun v _ _ => v = (.agg (tc t))) | 4 => (fun v _ _ => v = (.agg (tc u))) | _ => fun _ _ _ => True) (fun _ _ _ _ => True) (Rk.allK) 99 (by kernel_rfl) (by rfl) (by kernel_rfl) (by rfl) ?_ ?_ ?_ ?_
  · refine ⟨?_, ?_, ?_, ?_, ?_, trivial⟩
    · intro A w' K vals h hn hT hgk hK0
      have hg : w0.grownBy w' none := Rk.grown_of hgk
      have hK := fun v u (h1 : w'.grownBy u none) h2 => hK0 v u (Rk.keep_of h1) h2 trivial
      clear hT hgk hK0
      have r0 : A.tmps[3]?.getD undef = .pointer (some ⟨qg, 0, none⟩) := Rg.slot h.1
      have bs := BQg.out.keep hg
      have cc0 : w'.cell? ⟨qg, 0, none⟩ = some a := bs.cell 0 _ rfl
      have cc1 : w'.cell? ⟨qg, 1, none⟩ = some b := bs.cell 1 _ rfl
      have cc2 : w'.cell? ⟨qg, 2, none⟩ = some c := bs.cell 2 _ rfl
      clear h hn hg bs
      simp [Oper.wp, execOp, go_sem, r0, cc0, cc1, cc2]
      exact hK _ _ (Rg.grown_refl _ _) rfl
    · intro A w' K vals h hn hT hgk hK0
      have hg : w0.grownBy w' none := Rk.grown_of hgk
      have hK := fun v u (h1 : w'.grownBy u none) h2 => hK0 v u (Rk.keep_of h1) h2 trivial
      clear hT hgk hK0
      have r0 : A.tmps[7]?.getD undef = vals 0 := Rg.slot h.2.1
      have s0 : vals 0 = (.agg #[a, b, c]) := hn.1
      clear h hn
      simp [Oper.wp, go_sem, r0, s0]
      refine (bounds_any g _ w' (HG1.out.on (below_of_grown hg))).mono ?_
      rintro e w'' ⟨rfl, hb⟩
      exact hK _ _ (grown_of_below hb _) rfl
    · intro A w' K vals h hn hT hgk hK0
      have hg : w0.grownBy w' none := Rk.grown_of hgk
      have hK := fun v u (h1 : w'.grownBy u none) h2 => hK0 v u (Rk.keep_of h1) h2 trivial
      clear hT hgk hK0
      have r0 : A.tmps[1]?.getD undef = (.int .i64 p) := Rg.slot (h.1)
      clear h hn hg
      simp [Oper.wp, execOp, go_sem, r0]
      exact hK _ _ (Rg.grown_refl _ _) rfl
    · intro A w' K vals h hn hT hgk hK0
      have hg : w0.grownBy w' none := Rk.grown_of hgk
      have hK := fun v u (h1 : w'.grownBy u none) h2 => hK0 v u (Rk.keep_of h1) h2 trivial
      clear hT hgk hK0
      have r0 : A.tmps[5]?.getD undef = .pointer (some ⟨qt, 0, none⟩) := Rg.slot h.1
      have bs := BQt.out.keep hg
      have cc0 : w'.cell? ⟨qt, 0, none⟩ = some (.bool t.top) := bs.cell 0 _ rfl
      have cc1 : w'.cell? ⟨qt, 1, none⟩ = some (.int .i64 t.a) := bs.cell 1 _ rfl
      have cc2 : w'.cell? ⟨qt, 2, none⟩ = some (.int .i64 t.b) := bs.cell 2 _ rfl
      have cc3 : w'.cell? ⟨qt, 3, none⟩ = some (.int .i64 t.c) := bs.cell 3 _ rfl
      have cc4 : w'.cell? ⟨qt, 4, none⟩ = some (.int .i64 t.d) := bs.cell 4 _ rfl
      clear h hn hg bs
      simp [Oper.wp, execOp, go_sem, r0, cc0, cc1, cc2, cc3, cc4]
      exact hK _ _ (Rg.grown_refl _ _) rfl
    · intro A w' K vals h hn hT hgk hK0
      have hg : w0.grownBy w' none := Rk.grown_of hgk
      have hK := fun v u (h1 : w'.grownBy u none) h2 => hK0 v u (Rk.keep_of h1) h2 trivial
      clear hT hgk hK0
      have r0 : A.tmps[8]?.getD undef = vals 1 := Rg.slot h.2.1
      have r1 : A.tmps[9]?.getD undef = vals 2 := Rg.slot h.2.2.1
      have r2 : A.tmps[10]?.getD undef = vals 3 := Rg.slot h.2.2.2.1
      have s0 : vals 1 = .agg (bc g.tups) := hn.1
      have s1 : vals 2 = (.int .i64 p) := hn.2.1
      have s2 : vals 3 = .agg (tc t) := hn.2.2.1
      clear h hn
      simp [Oper.wp, go_sem, r0, r1, r2, s0, s1, s2]
      refine (up_any g.tups t p w' HP.out HT.out HN.out).mono ?_
      rintro e w'' ⟨rfl, hb⟩
      exact hK _ _ (grown_of_below hb _) (congrArg (fun x => Value.agg (tc x)) HU.out)
  · refine ⟨?_, ?_, ?_, ?_, ?_, trivial⟩
    · exact fun _ _ _ _ _ _ h => h
    · exact fun _ _ _ _ _ _ h => h
    · exact fun _ _ _ _ _ _ h => h
    · exact fun _ _ _ _ _ _ h => h
    · exact fun _ _ _ _ _ _ h => h
  · exact fun _ _ _ _ _ _ h => h
  · intro vals w6 G hgk hS hG
    have hg := Rk.grown_of hgk
    have s4 : vals 4 = .agg #[.bool u.top, .int .i64 u.a, .int .i64 u.b, .int .i64 u.c, .int .i64 u.d] := hS.2.2.2.2.1
    have hb := below_of_grown hg
    replace BQr := Lib.hid (BQr.out.keep (grown_of_below hb none))
    replace W := Lib.hid (W.out.trans (hb.mono W.out.size))
    clear hS hgk hg hb
    refine hG ?_
    clear hG
    simp only [List.take, List.drop, List.length, Nat.reduceSub, Nat.reduceAdd, Rg.putAll, s4]
    clear s4
    have rc0 : w6.cell? ⟨qr, 0, none⟩ = some (.bool false) := BQr.out.cell 0 _ rfl
    have rc1 : w6.cell? ⟨qr, 1, none⟩ = some (.int .i64 0) := BQr.out.cell 1 _ rfl
    have rc2 : w6.cell? ⟨qr, 2, none⟩ = some (.int .i64 0) := BQr.out.cell 2 _ rfl
    have rc3 : w6.cell? ⟨qr, 3, none⟩ = some (.int .i64 0) := BQr.out.cell 3 _ rfl
    have rc4 : w6.cell? ⟨qr, 4, none⟩ = some (.int .i64 0) := BQr.out.cell 4 _ rfl
    have rf0 : w6.frozen? ⟨qr, 0, none⟩ = false := BQr.out.frozen 0
    have rf1 : w6.frozen? ⟨qr, 1, none⟩ = false := BQr.out.frozen 1
    have rf2 : w6.frozen? ⟨qr, 2, none⟩ = false := BQr.out.frozen 2
    have rf3 : w6.frozen? ⟨qr, 3, none⟩ = false := BQr.out.frozen 3
    have rf4 : w6.frozen? ⟨qr, 4, none⟩ = false := BQr.out.frozen 4
    go_wp2_with fail
    clear rc0 rf0 rc1 rf1 rc2 rf2 rc3 rf3 rc4 rf4
    have bz : Box (((((w6.setCell ⟨qr, 0, none⟩ (.bool u.top)).setCell ⟨qr, 1, none⟩ (.int .i64 u.a)).setCell ⟨qr, 2, none⟩ (.int .i64 u.b)).setCell ⟨qr, 3, none⟩ (.int .i64 u.c)).setCell ⟨qr, 4, none⟩ (.int .i64 u.d)) qr 26 (tc u) := BQr.out.stT u
    have hbz : Below w.heap.size w (((((w6.setCell ⟨qr, 0, none⟩ (.bool u.top)).setCell ⟨qr, 1, none⟩ (.int .i64 u.a)).setCell ⟨qr, 2, none⟩ (.int .i64 u.b)).setCell ⟨qr, 3, none⟩ (.int .i64 u.c)).setCell ⟨qr, 4, none⟩ (.int .i64 u.d)) := below_stT W.out LEr.out u
    generalize (((((w6.setCell ⟨qr, 0, none⟩ (.bool u.top)).setCell ⟨qr, 1, none⟩ (.int .i64 u.a)).setCell ⟨qr, 2, none⟩ (.int .i64 u.b)).setCell ⟨qr, 3, none⟩ (.int .i64 u.c)).setCell ⟨qr, 4, none⟩ (.int .i64 u.d)) = wz at bz hbz ⊢
    have zc0 : wz.cell? ⟨qr, 0, none⟩ = some (.bool u.top) := bz.cell 0 _ rfl
    have zc1 : wz.cell? ⟨qr, 1, none⟩ = some (.int .i64 u.a) := bz.cell 1 _ rfl
    have zc2 : wz.cell? ⟨qr, 2, none⟩ = some (.int .i64 u.b) := bz.cell 2 _ rfl
    have zc3 : wz.cell? ⟨qr, 3, none⟩ = some (.int .i64 u.c) := bz.cell 3 _ rfl
    have zc4 : wz.cell? ⟨qr, 4, none⟩ = some (.int .i64 u.d) := bz.cell 4 _ rfl
    refine bodyPost_ret (v := .agg (tc u)) (by simp [results, Try.results17, go_sem, zc0, zc1, zc2, zc3, zc4, tc]) rfl ⟨by rw [HU.out]; rfl, hbz⟩
end W
end Go.Proofs.Yteeaojciobmcaaa
