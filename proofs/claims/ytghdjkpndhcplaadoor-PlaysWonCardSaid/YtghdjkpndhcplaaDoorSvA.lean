/- All positions, taken apart: the solver's walk. Solve: the walk. -/
import Derived.Test.YtghdjkpndhcplaaDoorApart
import Derived.Deep.Cut
import Derived.Lib.Hide
import Derived.Deep.QuietTactic
import Derived.BigQuiet
import Derived.StillTailTactics
import Derived.Laws.EntriesVeiled
import Derived.Test.YtghdjkpndhcplaaDoorSlA
section
namespace Go.Proofs.YtghdjkpndhcplaaDoor
open Go.RowKit
namespace W

end W
namespace P
theorem full_bits {g : G} (hr : g.Right) {n : Nat} (hn : g.owner.length = n) : (∀ i, Bit (full (n : Int)) i ↔ i < n) ∧ Goes g (Bit (full (n : Int))) := by
  have hm := hr.many
  have hb : ∀ i, Bit (full (n : Int)) i ↔ i < n := fun i => by
    unfold Bit
    rcases Nat.lt_or_ge i 256 with hi | hi
    · rw [getLsbD_full, decide_eq_true_eq]
      omega
    · rw [BitVec.getLsbD_of_ge _ _ hi]
      constructor
      · intro h; cases h
      · intro h; omega
  refine ⟨hb, fun i hi => ?_⟩
  have hin := (hb i).1 hi
  have hne := (hr.at i (by omega)).2.2.2.1
  obtain ⟨z, hz⟩ := List.exists_mem_of_ne_nil _ hne
  have := hr.moves_in (by omega : i < g.owner.length) z hz
  obtain ⟨j, rfl⟩ := Int.eq_ofNat_of_zero_le this.1
  exact ⟨j, hz, (hb j).2 (by omega)⟩
end P
namespace W
set_option maxRecDepth 100000 in
set_option maxHeartbeats 8000000 in
theorem solvem_any (g : P.G) (hr : g.Right) (n : Nat) (hn : g.owner.length = n) (w0 : World) (ba oa ka bb ob kb bc_ oc kc : Nat) (hv : GameV w0 (.agg #[.slice (some ⟨ba, oa, none⟩) n ka, .slice (some ⟨bb, ob, none⟩) n kb, .slice (some ⟨bc_, oc, none⟩) n kc]) g) (hT : Tab w0) (qs pc kq : Nat) (c : List Int) (w : World) (hS : Sl w0 w qs pc n kq (.slice (some ⟨ba, oa, none⟩) n ka) (.slice (some ⟨bb, ob, none⟩) n kb) (.slice (some ⟨bc_, oc, none⟩) n kc) c 0) :
    Calls Tryd.prog 13 #[.pointer (some ⟨qs, 0, none⟩)] w fun e w' => ∃ X Y c1 d1, e = .returned (.agg #[.int .u64 (P.wrd X 0), .int .u64 (P.wrd X 1), .int .u64 (P.wrd X 2), .int .u64 (P.wrd X 3), .int .u64 (P.wrd Y 0), .int .u64 (P.wrd Y 1), .int .u64 (P.wrd Y 2), .int .u64 (P.wrd Y 3)]) ∧ P.Ap g 0 (P.full (n : Int)) X Y c c1 ∧ Sl w0 w' qs pc n kq (.slice (some ⟨ba, oa, none⟩) n ka) (.slice (some ⟨bb, ob, none⟩) n kb) (.slice (some ⟨bc_, oc, none⟩) n kc) c1 d1 ∧ SlK qs pc w w' ∧ 1 ≤ d1 ∧ d1 ≤ (n : Int) + 1 := by
  have HFU := Lib.hid (show (∀ i, P.Bit (P.full (n : Int)) i → i < n) ∧ P.Goes g (P.Bit (P.full (n : Int))) from ⟨fun i hi => ((P.full_bits hr hn).1 i).1 hi, (P.full_bits hr hn).2⟩)
  have HV := Lib.hid hv
  have T := Lib.hid hT
  have HR := Lib.hid hr
  have HN := Lib.hid hn
  have hop := hr.prio
  have hmp := hr.moves
  have hmany := hr.many
  have h0 := hr.pos
  rw [hn] at hop hmp hmany h0
  have HPN := Lib.hid hop
  obtain ⟨xba, xoa, xka, xbb, xob, xkb, xbc, xoc, xkc, e0, hca, hcb, hcc⟩ := hv.open_ hn hop hmp h0
  injection e0 with e0
  obtain ⟨⟨⟨rfl, rfl⟩, rfl⟩, ⟨⟨rfl, rfl⟩, rfl⟩, ⟨rfl, rfl⟩, rfl⟩ : (((ba = xba ∧ oa = xoa) ∧ ka = xka) ∧ ((bb = xbb ∧ ob = xob) ∧ kb = xkb) ∧ (bc_ = xbc ∧ oc = xoc) ∧ kc = xkc) := by simpa using e0
  have HCA := Lib.hid hca
  have HCB := Lib.hid hcb
  have HCC := Lib.hid hcc
  clear e0 hca hcb hcc hv hT hr hn hop hmp
  have HS := Lib.hid hS
  have HQ2 : Hid (qs < w.heap.size ∧ pc < w.heap.size ∧ w0.heap.size ≤ w.heap.size) := Lib.hid ⟨hS.box.lt, hS.plo.2, hS.low.size⟩
  clear hS
  have hmf : ∀ (fn : Fn) (first cap : Array Value) (w : World), (Instr.makeFunc fn first cap).run Tryd.prog w = .ok (.func fn first cap) w := fun _ _ _ _ => rfl
  go_enter Tryd.func13, Tryd.ntmps13
  go_upto_region 3 with (fail)
  have bx0 : Box (((w.alloc (.cells #[.pointer (some ⟨qs, 0, none⟩)] 65)).alloc (.cells #[.int .u64 0, .int .u64 0, .int .u64 0, .int .u64 0, .int .u64 0, .int .u64 0, .int .u64 0, .int .u64 0] 50)).alloc (.cells #[.func (.func 21) #[] #[.pointer (some ⟨w.heap.size, 0, none⟩), .pointer (some ⟨w.heap.size + 1 + 1, 0, none⟩)]] 66)) (w.heap.size) 65 #[.pointer (some ⟨qs, 0, none⟩)] := Box.alloc (Box.alloc (Box.new w 65 #[.pointer (some ⟨qs, 0, none⟩)]) (.cells #[.int .u64 0, .int .u64 0, .int .u64 0, .int .u64 0, .int .u64 0, .int .u64 0, .int .u64 0, .int .u64 0] 50)) (.cells #[.func (.func 21) #[] #[.pointer (some ⟨w.heap.size, 0, none⟩), .pointer (some ⟨w.heap.size + 1 + 1, 0, none⟩)]] 66)
  have bx1 : Box (((w.alloc (.cells #[.pointer (some ⟨qs, 0, none⟩)] 65)).alloc (.cells #[.int .u64 0, .int .u64 0, .int .u64 0, .int .u64 0, .int .u64 0, .int .u64 0, .int .u64 0, .int .u64 0] 50)).alloc (.cells #[.func (.func 21) #[] #[.pointer (some ⟨w.heap.size, 0, none⟩), .pointer (some ⟨w.heap.size + 1 + 1, 0, none⟩)]] 66)) (w.heap.size + 1) 50 #[.int .u64 0, .int .u64 0, .int .u64 0, .int .u64 0, .int .u64 0, .int .u64 0, .int .u64 0, .int .u64 0] := by
    have := Box.alloc (Box.new (w.alloc (.cells #[.pointer (some ⟨qs, 0, none⟩)] 65)) 50 #[.int .u64 0, .int .u64 0, .int .u64 0, .int .u64 0, .int .u64 0, .int .u64 0, .int .u64 0, .int .u64 0]) (.cells #[.func (.func 21) #[] #[.pointer (some ⟨w.heap.size, 0, none⟩), .pointer (some ⟨w.heap.size + 1 + 1, 0, none⟩)]] 66)
    simpa using this
  have bx2 : Box (((w.alloc (.cells #[.pointer (some ⟨qs, 0, none⟩)] 65)).alloc (.cells #[.int .u64 0, .int .u64 0, .int .u64 0, .int .u64 0, .int .u64 0, .int .u64 0, .int .u64 0, .int .u64 0] 50)).alloc (.cells #[.func (.func 21) #[] #[.pointer (some ⟨w.heap.size, 0, none⟩), .pointer (some ⟨w.heap.size + 1 + 1, 0, none⟩)]] 66)) (w.heap.size + 1 + 1) 66 #[.func (.func 21) #[] #[.pointer (some ⟨w.heap.size, 0, none⟩), .pointer (some ⟨w.heap.size + 1 + 1, 0, none⟩)]] := by
    have := Box.new ((w.alloc (.cells #[.pointer (some ⟨qs, 0, none⟩)] 65)).alloc (.cells #[.int .u64 0, .int .u64 0, .int .u64 0, .int .u64 0, .int .u64 0, .int .u64 0, .int .u64 0, .int .u64 0] 50)) 66 #[.func (.func 21) #[] #[.pointer (some ⟨w.heap.size, 0, none⟩), .pointer (some ⟨w.heap.size + 1 + 1, 0, none⟩)]]
    simpa using this
  have hbq : Below w.heap.size w (((w.alloc (.cells #[.pointer (some ⟨qs, 0, none⟩)] 65)).alloc (.cells #[.int .u64 0, .int .u64 0, .int .u64 0, .int .u64 0, .int .u64 0, .int .u64 0, .int .u64 0, .int .u64 0] 50)).alloc (.cells #[.func (.func 21) #[] #[.pointer (some ⟨w.heap.size, 0, none⟩), .pointer (some ⟨w.heap.size + 1 + 1, 0, none⟩)]] 66)) := (((Below.refl _ w).alloc (Nat.le_refl _) _).alloc (by simp) _).alloc (by simp; omega) _
  have lt0 : w.heap.size < w.heap.size + 1 := Nat.lt_succ_self _
  have lt1 : w.heap.size + 1 < w.heap.size + 1 + 1 := Nat.lt_succ_self _
  have hle0 : w.heap.size ≤ w.heap.size := Nat.le_refl _
  replace HS := Lib.hid (HS.out.on hbq)
  generalize (((w.alloc (.cells #[.pointer (some ⟨qs, 0, none⟩)] 65)).alloc (.cells #[.int .u64 0, .int .u64 0, .int .u64 0, .int .u64 0, .int .u64 0, .int .u64 0, .int .u64 0, .int .u64 0] 50)).alloc (.cells #[.func (.func 21) #[] #[.pointer (some ⟨w.heap.size, 0, none⟩), .pointer (some ⟨w.heap.size + 1 + 1, 0, none⟩)]] 66)) = w4 at bx0 bx1 bx2 hbq HS ⊢
  have BQv := Lib.hid bx0
  have BQr := Lib.hid bx1
  have BQf := Lib.hid bx2
  have W := Lib.hid hbq
  have LTvr := Lib.hid lt0
  have LTrf := Lib.hid lt1
  have LEv := Lib.hid hle0
  clear hbq hle0 bx0 bx1 bx2 lt0 lt1
  generalize w.heap.size + 1 + 1 = qf at BQf LTrf ⊢
  generalize w.heap.size + 1 = qr at BQr LTrf LTvr ⊢
  obtain ⟨qv, hqv⟩ : ∃ qv, w.heap.size = qv := ⟨_, rfl⟩
  rw [hqv] at BQv LTvr BQf ⊢
  have LEv : Hid (w.heap.size ≤ qv) := Lib.hid (by omega)
  clear hqv
  have NQv : Hid (qv ≠ qs ∧ qv ≠ pc) := Lib.hid (by have h1 := LEv.out; have h2 := HQ2.out; omega)
  have NQr : Hid (qr ≠ qs ∧ qr ≠ pc) := Lib.hid (by have h1 := LEv.out; have h2 := HQ2.out; have h3 := LTvr.out; omega)
  have NQf : Hid (qf ≠ qs ∧ qf ≠ pc) := Lib.hid (by have h1 := LEv.out; have h2 := HQ2.out; have h3 := LTvr.out; have h4 := LTrf.out; omega)
  refine Rt.wp_region_tail 2 (fun idx => match idx with | 0 => (fun v _ _ => v = (.func (.func 21) #[] #[.pointer (some ⟨qv, 0, none⟩), .pointer (some ⟨qf, 0, none⟩)])) | 1 => (fun v _ _ => v = (.pointer (some ⟨qs, 0, none⟩))) | 2 => (fun v _ _ => v = (.pointer (some ⟨qs, 0, none⟩))) | 3 => (fun v _ _ => v = (.pointer (some ⟨qs, 0, none⟩))) | 4 => (fun v _ _ => v = (.pointer (some ⟨qs, 0, none⟩))) | 5 => (fun v _ _ => v = (.slice (some ⟨ba, oa, none⟩) n ka)) | 6 => (fun v _ _ => v = (.int .i64 (n : Int))) | 7 => (fun v _ _ => v = .agg #[.int .u64 (P.wrd (P.full (n : Int)) 0), .int .u64 (P.wrd (P.full (n : Int)) 1), .int .u64 (P.wrd (P.full (n : Int)) 2), .int .u64 (P.wrd (P.full (n : Int)) 3)]) | _ => fun _ _ _ => True) (fun _ _ _ _ => True) (Rk.allK) 99 (by kernel_rfl) (by rfl) (by kernel_rfl) (by rfl) ?_ ?_ ?_ ?_
  · refine ⟨?_, ?_, ?_, ?_, ?_, ?_, ?_, ?_, trivial⟩
    · intro A w' K vals h hn hT hgk hK0
      have r0 : A.tmps[3]?.getD undef = (.pointer (some ⟨qf, 0, none⟩)) := Rg.slot h.1
      have bs := BQf.out.keep (Rk.grown_of hgk)
      have cc0 : w'.cell? ⟨qf, 0, none⟩ = some (.func (.func 21) #[] #[.pointer (some ⟨qv, 0, none⟩), .pointer (some ⟨qf, 0, none⟩)]) := bs.cell 0 _ rfl
      clear h hn hT hgk bs
      simp [Oper.wp, execOp, go_sem, r0, cc0]
      exact hK0 _ _ (Rk.Keeps.refl _ _) rfl trivial
    · intro A w' K vals h hn hT hgk hK0
      have r0 : A.tmps[1]?.getD undef = (.pointer (some ⟨qv, 0, none⟩)) := Rg.slot h.1
      have bs := BQv.out.keep (Rk.grown_of hgk)
      have cc0 : w'.cell? ⟨qv, 0, none⟩ = some (.pointer (some ⟨qs, 0, none⟩)) := bs.cell 0 _ rfl
      clear h hn hT hgk bs
      simp [Oper.wp, execOp, go_sem, r0, cc0]
      exact hK0 _ _ (Rk.Keeps.refl _ _) rfl trivial
    · intro A w' K vals h hn hT hgk hK0
      have r0 : A.tmps[6]?.getD undef = vals 1 := Rg.slot h.1
      have s0 : vals 1 = .pointer (some ⟨qs, 0, none⟩) := hn.1
      clear h hn hT hgk
      simp [Oper.wp, execOp, go_sem, r0, s0]
      exact hK0 _ _ (Rk.Keeps.refl _ _) rfl trivial
    · intro A w' K vals h hn hT hgk hK0
      have r0 : A.tmps[7]?.getD undef = vals 2 := Rg.slot h.1
      have s0 : vals 2 = .pointer (some ⟨qs, 0, none⟩) := hn.1
      clear h hn hT hgk
      simp [Oper.wp, execOp, go_sem, r0, s0]
      exact hK0 _ _ (Rk.Keeps.refl _ _) rfl trivial
    · intro A w' K vals h hn hT hgk hK0
      have r0 : A.tmps[8]?.getD undef = vals 3 := Rg.slot h.1
      have s0 : vals 3 = .pointer (some ⟨qs, 0, none⟩) := hn.1
      clear h hn hT hgk
      simp [Oper.wp, execOp, go_sem, r0, s0]
      exact hK0 _ _ (Rk.Keeps.refl _ _) rfl trivial
    · intro A w' K vals h hn hT hgk hK0
      have r0 : A.tmps[9]?.getD undef = vals 4 := Rg.slot (h.1)
      have r1 : vals 4 = (.pointer (some ⟨qs, 0, none⟩)) := hn.1
      have c : w'.cell? ⟨qs, 0, none⟩ = some (.slice (some ⟨ba, oa, none⟩) n ka) := (HS.out.box.keep (Rk.grown_of hgk)).cell 0 _ rfl
      clear h hn hT hgk
      simp [Oper.wp, execOp, go_sem, r0, r1, c]
      exact hK0 _ _ (Rk.Keeps.refl _ _) rfl trivial
    · intro A w' K vals h hn hT hgk hK0
      have r0 : A.tmps[10]?.getD undef = vals 5 := Rg.slot h.1
      have s0 : vals 5 = (.slice (some ⟨ba, oa, none⟩) n ka) := hn.1
      clear h hn hT hgk
      simp [Oper.wp, go_sem, r0, s0]
      exact hK0 _ _ (Rk.Keeps.refl _ _) rfl trivial
    · intro A w' K vals h hn hT hgk hK0
      have r0 : A.tmps[11]?.getD undef = vals 6 := Rg.slot h.2.1
      have s0 : vals 6 = .int .i64 (n : Int) := hn.1
      clear h hn hT hgk
      simp [Oper.wp, go_sem, r0, s0]
      refine (full_any (n : Int) w').mono ?_
      rintro e w'' ⟨rfl, hb⟩
      exact hK0 _ _ (Rk.keep_of (grown_of_below hb _)) rfl trivial
  · refine ⟨?_, ?_, ?_, ?_, ?_, ?_, ?_, ?_, trivial⟩
    · exact fun _ _ _ _ _ _ h => h
    · exact fun _ _ _ _ _ _ h => h
    · exact fun _ _ _ _ _ _ h => h
    · exact fun _ _ _ _ _ _ h => h
    · exact fun _ _ _ _ _ _ h => h
    · exact fun _ _ _ _ _ _ h => h
    · exact fun _ _ _ _ _ _ h => h
    · exact fun _ _ _ _ _ _ h => h
  · exact fun _ _ _ _ _ _ h => h
  · intro vals w5 G hgk hS hG
    have s0 : vals 0 = .func (.func 21) #[] #[.pointer (some ⟨qv, 0, none⟩), .pointer (some ⟨qf, 0, none⟩)] := hS.1
    have s7 : vals 7 = .agg #[.int .u64 (P.wrd (P.full (n : Int)) 0), .int .u64 (P.wrd (P.full (n : Int)) 1), .int .u64 (P.wrd (P.full (n : Int)) 2), .int .u64 (P.wrd (P.full (n : Int)) 3)] := hS.2.2.2.2.2.2.2.1
    clear hS
    have hb := below_of_grown (Rk.grown_of hgk)
    replace HS := Lib.hid (HS.out.on hb)
    replace W := Lib.hid (W.out.trans (hb.mono W.out.size))
    replace BQv := Lib.hid (BQv.out.keep (Rk.grown_of hgk))
    replace BQr := Lib.hid (BQr.out.keep (Rk.grown_of hgk))
    replace BQf := Lib.hid (BQf.out.keep (Rk.grown_of hgk))
    clear hb hgk
    refine hG ?_
    clear hG
    simp only [List.take, List.drop, List.length, Nat.reduceSub, Nat.reduceAdd, Rg.putAll, Act.put, List.setIfInBounds_toArray, List.set_cons_succ, List.set_cons_zero, s0, s7]
    clear s0 s7
    go_wp2_with fail
    refine (apart_any g HR.out n HN.out w0 ba oa ka bb ob kb bc_ oc kc HV.out T.out qs pc kq qv qf (P.cntS n (P.full (n : Int)) + 1) (P.full (n : Int)) c 0 1 w5 (Nat.lt_succ_self _) HFU.out.1 HFU.out.2 (by decide) (by have := P.cntS_le n (P.full (n : Int)); omega) HS.out BQv.out BQf.out NQv.out NQf.out).mono ?_
    rintro e w6 ⟨X, Y, c1, d1, rfl, hap, hs, hk, h1, h2, h3⟩
    have HAP := Lib.hid hap
    have HDD := Lib.hid (show 1 ≤ d1 ∧ d1 ≤ (n : Int) + 1 from ⟨h2, by have := P.cntS_le n (P.full (n : Int)); omega⟩)
    have HK := Lib.hid ((SlK.of W.out).trans hk)
    replace BQr := Lib.hid (hk.box BQr.out NQr.out.1 NQr.out.2)
    replace HS := Lib.hid hs
    clear hap hs hk h1 h2 h3
    have hbr := BQr.out
    have rc0 : w6.cell? ⟨qr, 0, none⟩ = some (.int .u64 0) := hbr.cell 0 _ rfl
    have rc1 : w6.cell? ⟨qr, 1, none⟩ = some (.int .u64 0) := hbr.cell 1 _ rfl
    have rc2 : w6.cell? ⟨qr, 2, none⟩ = some (.int .u64 0) := hbr.cell 2 _ rfl
    have rc3 : w6.cell? ⟨qr, 3, none⟩ = some (.int .u64 0) := hbr.cell 3 _ rfl
    have rc4 : w6.cell? ⟨qr, 4, none⟩ = some (.int .u64 0) := hbr.cell 4 _ rfl
    have rc5 : w6.cell? ⟨qr, 5, none⟩ = some (.int .u64 0) := hbr.cell 5 _ rfl
    have rc6 : w6.cell? ⟨qr, 6, none⟩ = some (.int .u64 0) := hbr.cell 6 _ rfl
    have rc7 : w6.cell? ⟨qr, 7, none⟩ = some (.int .u64 0) := hbr.cell 7 _ rfl
    have rf0 : w6.frozen? ⟨qr, 0, none⟩ = false := hbr.frozen 0
    have rf1 : w6.frozen? ⟨qr, 1, none⟩ = false := hbr.frozen 1
    have rf2 : w6.frozen? ⟨qr, 2, none⟩ = false := hbr.frozen 2
    have rf3 : w6.frozen? ⟨qr, 3, none⟩ = false := hbr.frozen 3
    have rf4 : w6.frozen? ⟨qr, 4, none⟩ = false := hbr.frozen 4
    have rf5 : w6.frozen? ⟨qr, 5, none⟩ = false := hbr.frozen 5
    have rf6 : w6.frozen? ⟨qr, 6, none⟩ = false := hbr.frozen 6
    have rf7 : w6.frozen? ⟨qr, 7, none⟩ = false := hbr.frozen 7
    clear hbr
    have BZ : Box ((((((((w6.setCell ⟨qr, 0, none⟩ (.int .u64 (P.wrd X 0))).setCell ⟨qr, 1, none⟩ (.int .u64 (P.wrd X 1))).setCell ⟨qr, 2, none⟩ (.int .u64 (P.wrd X 2))).setCell ⟨qr, 3, none⟩ (.int .u64 (P.wrd X 3))).setCell ⟨qr, 4, none⟩ (.int .u64 (P.wrd Y 0))).setCell ⟨qr, 5, none⟩ (.int .u64 (P.wrd Y 1))).setCell ⟨qr, 6, none⟩ (.int .u64 (P.wrd Y 2))).setCell ⟨qr, 7, none⟩ (.int .u64 (P.wrd Y 3))) qr 50 #[.int .u64 (P.wrd X 0), .int .u64 (P.wrd X 1), .int .u64 (P.wrd X 2), .int .u64 (P.wrd X 3), .int .u64 (P.wrd Y 0), .int .u64 (P.wrd Y 1), .int .u64 (P.wrd Y 2), .int .u64 (P.wrd Y 3)] := box8 BQr.out _ _ _ _ _ _ _ _
    have hko : Rk.Keeps (KN [qr]) w6 ((((((((w6.setCell ⟨qr, 0, none⟩ (.int .u64 (P.wrd X 0))).setCell ⟨qr, 1, none⟩ (.int .u64 (P.wrd X 1))).setCell ⟨qr, 2, none⟩ (.int .u64 (P.wrd X 2))).setCell ⟨qr, 3, none⟩ (.int .u64 (P.wrd X 3))).setCell ⟨qr, 4, none⟩ (.int .u64 (P.wrd Y 0))).setCell ⟨qr, 5, none⟩ (.int .u64 (P.wrd Y 1))).setCell ⟨qr, 6, none⟩ (.int .u64 (P.wrd Y 2))).setCell ⟨qr, 7, none⟩ (.int .u64 (P.wrd Y 3))) := (((((((kn_set w6 qr 0 _).trans (kn_set _ qr 1 _)).trans (kn_set _ qr 2 _)).trans (kn_set _ qr 3 _)).trans (kn_set _ qr 4 _)).trans (kn_set _ qr 5 _)).trans (kn_set _ qr 6 _)).trans (kn_set _ qr 7 _)
    replace HS := Lib.hid (HS.out.kn hko NQr.out.1.symm NQr.out.2.symm (by have h1 := LEv.out; have h2 := LTvr.out; have h3 := HQ2.out; omega))
    replace HK := Lib.hid (HK.out.one hko (by have h1 := LEv.out; have h2 := LTvr.out; omega))
    replace BQr := Lib.hid BZ
    clear hko BZ
    go_wp2_with fail
    generalize ((((((((w6.setCell ⟨qr, 0, none⟩ (.int .u64 (P.wrd X 0))).setCell ⟨qr, 1, none⟩ (.int .u64 (P.wrd X 1))).setCell ⟨qr, 2, none⟩ (.int .u64 (P.wrd X 2))).setCell ⟨qr, 3, none⟩ (.int .u64 (P.wrd X 3))).setCell ⟨qr, 4, none⟩ (.int .u64 (P.wrd Y 0))).setCell ⟨qr, 5, none⟩ (.int .u64 (P.wrd Y 1))).setCell ⟨qr, 6, none⟩ (.int .u64 (P.wrd Y 2))).setCell ⟨qr, 7, none⟩ (.int .u64 (P.wrd Y 3))) = w7 at HS HK BQr ⊢
    clear rc0 rc1 rc2 rc3 rc4 rc5 rc6 rc7 rf0 rf1 rf2 rf3 rf4 rf5 rf6 rf7
    have zc0 : w7.cell? ⟨qr, 0, none⟩ = some (.int .u64 (P.wrd X 0)) := BQr.out.cell 0 _ rfl
    have zc1 : w7.cell? ⟨qr, 1, none⟩ = some (.int .u64 (P.wrd X 1)) := BQr.out.cell 1 _ rfl
    have zc2 : w7.cell? ⟨qr, 2, none⟩ = some (.int .u64 (P.wrd X 2)) := BQr.out.cell 2 _ rfl
    have zc3 : w7.cell? ⟨qr, 3, none⟩ = some (.int .u64 (P.wrd X 3)) := BQr.out.cell 3 _ rfl
    have zc4 : w7.cell? ⟨qr, 4, none⟩ = some (.int .u64 (P.wrd Y 0)) := BQr.out.cell 4 _ rfl
    have zc5 : w7.cell? ⟨qr, 5, none⟩ = some (.int .u64 (P.wrd Y 1)) := BQr.out.cell 5 _ rfl
    have zc6 : w7.cell? ⟨qr, 6, none⟩ = some (.int .u64 (P.wrd Y 2)) := BQr.out.cell 6 _ rfl
    have zc7 : w7.cell? ⟨qr, 7, none⟩ = some (.int .u64 (P.wrd Y 3)) := BQr.out.cell 7 _ rfl
    refine bodyPost_ret (v := .agg #[.int .u64 (P.wrd X 0), .int .u64 (P.wrd X 1), .int .u64 (P.wrd X 2), .int .u64 (P.wrd X 3), .int .u64 (P.wrd Y 0), .int .u64 (P.wrd Y 1), .int .u64 (P.wrd Y 2), .int .u64 (P.wrd Y 3)]) (by simp [results, Tryd.results13, go_sem, zc0, zc1, zc2, zc3, zc4, zc5, zc6, zc7]) rfl ⟨X, Y, c1, d1, rfl, HAP.out, HS.out, HK.out, HDD.out.1, HDD.out.2⟩
end W
end Go.Proofs.YtghdjkpndhcplaaDoor
end
section
namespace Go.Proofs.YtghdjkpndhcplaaDoor
open Go.RowKit
namespace W

/-- A set's numbers, as ints. -/
def lstI (s : BitVec 256) : List Int := (P.lst s).map fun (i : Nat) => (i : Int)
/-- A row of moves: the chosen ones where a set is and a player moves. -/
def mvF (g : P.G) (p : Int) (S : BitVec 256) (c : List Int) (i : Nat) : Int := if P.Bit S i ∧ g.owner.getD i 0 = p then c.getD i (-1) else -1
set_option maxRecDepth 100000 in
set_option maxHeartbeats 8000000 in
theorem decomp_wrong (g : P.G) (hok : g.ok = false) (v : Value) (w : World) (hv : GameV w v g) : Calls Tryd.prog 6 #[v] w fun e w' => e = .returned (.tuple #[.agg #[.slice none 0 0, .slice none 0 0, .slice none 0 0, .slice none 0 0], .int .i64 0]) ∧ Below w.heap.size w w' := by
  have hq0 : g.right.2 ≠ 0 := by unfold P.G.ok at hok; exact beq_eq_false_iff_ne.1 hok
  have HV := Lib.hid hv
  obtain ⟨a, b, c, rfl, -⟩ := hv
  clear hok
  go_enter Tryd.func6, Tryd.ntmps6
  go_wp2_with fail
  have bx0 : Box ((w.alloc (.cells #[a, b, c] 25)).alloc (.cells #[.slice none 0 0, .slice none 0 0, .slice none 0 0, .slice none 0 0] 32)) (w.heap.size) 25 #[a, b, c] := Box.alloc (Box.new w 25 #[a, b, c]) (.cells #[.slice none 0 0, .slice none 0 0, .slice none 0 0, .slice none 0 0] 32)
  have bx1 : Box ((w.alloc (.cells #[a, b, c] 25)).alloc (.cells #[.slice none 0 0, .slice none 0 0, .slice none 0 0, .slice none 0 0] 32)) (w.heap.size + 1) 32 #[.slice none 0 0, .slice none 0 0, .slice none 0 0, .slice none 0 0] := by
    have := Box.new (w.alloc (.cells #[a, b, c] 25)) 32 #[.slice none 0 0, .slice none 0 0, .slice none 0 0, .slice none 0 0]
    simpa using this
  have hbq : Below w.heap.size w ((w.alloc (.cells #[a, b, c] 25)).alloc (.cells #[.slice none 0 0, .slice none 0 0, .slice none 0 0, .slice none 0 0] 32)) := ((Below.refl _ w).alloc (Nat.le_refl _) _).alloc (by simp) _
  have lt0 : w.heap.size < w.heap.size + 1 := Nat.lt_succ_self _
  have hle0 : w.heap.size ≤ w.heap.size := Nat.le_refl _
  generalize ((w.alloc (.cells #[a, b, c] 25)).alloc (.cells #[.slice none 0 0, .slice none 0 0, .slice none 0 0, .slice none 0 0] 32)) = w0 at bx0 bx1 hbq  ⊢
  have BQg := Lib.hid bx0
  have BQr := Lib.hid bx1
  have W := Lib.hid hbq
  have LTgr := Lib.hid lt0
  have LEg := Lib.hid hle0
  clear hbq hle0 bx0 bx1 lt0
  generalize w.heap.size + 1 = qr at BQr LTgr ⊢
  obtain ⟨qg, hqg⟩ : ∃ qg, w.heap.size = qg := ⟨_, rfl⟩
  rw [hqg] at BQg LTgr ⊢
  have LEg : Hid (w.heap.size ≤ qg) := Lib.hid (by omega)
  clear hqg
  have hbb := BQg.out
  have gc0 : w0.cell? ⟨qg, 0, none⟩ = some a := hbb.cell 0 _ rfl
  have gc1 : w0.cell? ⟨qg, 1, none⟩ = some b := hbb.cell 1 _ rfl
  have gc2 : w0.cell? ⟨qg, 2, none⟩ = some c := hbb.cell 2 _ rfl
  clear hbb
  go_wp2_with fail
  clear gc0 gc1 gc2
  refine (right_any g _ _ (HV.out.on W.out)).mono ?_
  rintro e w2 ⟨rfl, hb⟩
  replace BQg := Lib.hid (BQg.out.keep (grown_of_below hb none))
  replace BQr := Lib.hid (BQr.out.keep (grown_of_below hb none))
  replace W := Lib.hid (W.out.trans (hb.mono W.out.size))
  clear hb
  obtain ⟨z, hz⟩ : ∃ z, g.right.2 = z := ⟨_, rfl⟩
  rw [hz] at hq0 ⊢
  have fq : (((z : Nat) : Int) != 0) = true := by rw [bne_iff_ne]; omega
  clear hz hq0
  have hbr := BQr.out
  have rc0 : w2.cell? ⟨qr, 0, none⟩ = some (.slice none 0 0) := hbr.cell 0 _ rfl
  have rc1 : w2.cell? ⟨qr, 1, none⟩ = some (.slice none 0 0) := hbr.cell 1 _ rfl
  have rc2 : w2.cell? ⟨qr, 2, none⟩ = some (.slice none 0 0) := hbr.cell 2 _ rfl
  have rc3 : w2.cell? ⟨qr, 3, none⟩ = some (.slice none 0 0) := hbr.cell 3 _ rfl
  have rf0 : w2.frozen? ⟨qr, 0, none⟩ = false := hbr.frozen 0
  have rf1 : w2.frozen? ⟨qr, 1, none⟩ = false := hbr.frozen 1
  have rf2 : w2.frozen? ⟨qr, 2, none⟩ = false := hbr.frozen 2
  have rf3 : w2.frozen? ⟨qr, 3, none⟩ = false := hbr.frozen 3
  clear hbr
  have HW := Lib.hid (((((W.out.setCell (p := ⟨qr, 0, none⟩) (by have h1 := LEg.out; have h2 := LTgr.out; show w.heap.size ≤ qr; omega) (.slice none 0 0)).setCell (p := ⟨qr, 1, none⟩) (by have h1 := LEg.out; have h2 := LTgr.out; show w.heap.size ≤ qr; omega) (.slice none 0 0)).setCell (p := ⟨qr, 2, none⟩) (by have h1 := LEg.out; have h2 := LTgr.out; show w.heap.size ≤ qr; omega) (.slice none 0 0)).setCell (p := ⟨qr, 3, none⟩) (by have h1 := LEg.out; have h2 := LTgr.out; show w.heap.size ≤ qr; omega) (.slice none 0 0)))
  go_wp2_with fail
  exact bodyPost_ret (v := .tuple #[.agg #[.slice none 0 0, .slice none 0 0, .slice none 0 0, .slice none 0 0], .int .i64 0]) (by simp [results, Tryd.results6, go_sem, rc0, rc1, rc2, rc3]) rfl ⟨rfl, HW.out⟩

/-- What Solve tells of one player: its region, and its moves, in rows of the call's own. -/
def ROWS (wr : World) (lo n : Nat) (g : P.G) (p : Int) (S : BitVec 256) (c : List Int) (r : Value) (b : Nat) : Prop :=
  wr.ownsRow lo 3 1 r (P.lst S).length ((lstI S).map (Value.int .i64)) ∧ wr.ownsRow lo 3 1 (.slice (some ⟨b, 0, none⟩) n n) n ((P.rowOf n (mvF g p S c)).map (Value.int .i64)) ∧ ∀ x, r.ownBlock = some x → x < b
theorem ROWS.kx {wr w' : World} {lo n : Nat} {g : P.G} {p : Int} {S : BitVec 256} {c : List Int} {r : Value} {b q : Nat} {cs : Array Value} (h : ROWS wr lo n g p S c r b) (k : Rk.Keeps (KX wr.heap.size [q]) wr w') (hb : Box wr q 32 cs) : ROWS w' lo n g p S c r b :=
  ⟨kx_own h.1 k (fun x hx => ⟨(own_lt h.1 x hx).2, fun e => own_box h.1 hb (by decide) (by rw [hx, List.mem_singleton.1 e])⟩), kx_own h.2.1 k (fun x hx => ⟨(own_lt h.2.1 x hx).2, fun e => own_box h.2.1 hb (by decide) (by rw [hx, List.mem_singleton.1 e])⟩), h.2.2⟩
theorem ROWS.kn {wr w' : World} {lo n : Nat} {g : P.G} {p : Int} {S : BitVec 256} {c : List Int} {r : Value} {b q : Nat} {cs : Array Value} (h : ROWS wr lo n g p S c r b) (k : Rk.Keeps (KN [q]) wr w') (hb : Box wr q 32 cs) : ROWS w' lo n g p S c r b :=
  ⟨kn_own h.1 k (fun e => own_box h.1 hb (by decide) e), kn_own h.2.1 k (fun e => own_box h.2.1 hb (by decide) e), h.2.2⟩
/-- What Solve tells: the regions, the moves, how deep. -/
structure Dec (g : P.G) (n lo : Nat) (X Y : BitVec 256) (c1 : List Int) (d1 : Int) (r0 r1 : Value) (b0 b1 : Nat) (w' : World) : Prop where
  ap : P.Ap g 0 (P.full (n : Int)) X Y (P.rowOf n fun _ => -1) c1
  zero : ROWS w' lo n g 0 X c1 r0 b0
  one : ROWS w' lo n g 1 Y c1 r1 b1
  lt : b0 < b1
  past : ∀ x, r1.ownBlock = some x → b0 < x
  deep : 1 ≤ d1 ∧ d1 ≤ (n : Int) + 1
theorem lstI_vals (S : BitVec 256) : (lstI S).map (Value.int .i64) = P.vals (P.lst S) := by
  unfold lstI P.vals
  rw [List.map_map]
  rfl
/-- .. once the first k of the player's positions are through. -/
def mvK (S : BitVec 256) (c : List Int) (k : Nat) (i : Nat) : Int := if i ∈ (P.lst S).take k then c.getD i (-1) else -1
theorem mvK_zero (S : BitVec 256) (c : List Int) : mvK S c 0 = fun _ => -1 := by
  funext i
  unfold mvK
  rw [List.take_zero, if_neg (by simp)]
theorem mvK_set {n : Nat} {S : BitVec 256} {c : List Int} {k : Nat} (hk : k < (P.lst S).length) : P.rowOf n (mvK S c (k + 1)) = (P.rowOf n (mvK S c k)).set ((P.lst S).getD k 0) (c.getD ((P.lst S).getD k 0) (-1)) := by
  rw [P.rowOf_set]
  refine P.rowOf_congr fun y _ => ?_
  unfold mvK
  by_cases e : y = (P.lst S).getD k 0
  · rw [if_pos ((P.mem_take_succ hk).2 (.inr e)), if_pos e, e]
  · rw [if_neg e]
    by_cases h1 : y ∈ (P.lst S).take k
    · rw [if_pos h1, if_pos ((P.mem_take_succ hk).2 (.inl h1))]
    · rw [if_neg h1, if_neg (fun h2 => ((P.mem_take_succ hk).1 h2).elim h1 e)]
theorem mvK_all {g : P.G} {p : Int} {n : Nat} {S : BitVec 256} {c : List Int} {k : Nat} (hn : g.owner.length = n) (hm : n ≤ 200) (hk : (P.lst (S &&& P.places p g.owner g.owner.length)).length ≤ k) : P.rowOf n (mvK (S &&& P.places p g.owner g.owner.length) c k) = P.rowOf n (mvF g p S c) := by
  refine P.rowOf_congr fun y hy => ?_
  unfold mvK mvF P.Bit
  have e : y ∈ (P.lst (S &&& P.places p g.owner g.owner.length)).take k ↔ S.getLsbD y = true ∧ g.owner.getD y 0 = p := by
    rw [List.take_of_length_le hk, P.mem_lst, BitVec.getLsbD_and, P.getLsbD_places p g.owner y (by omega), Bool.and_eq_true, Bool.and_eq_true, decide_eq_true_eq, decide_eq_true_eq]
    exact ⟨fun h => ⟨h.1, h.2.2⟩, fun h => ⟨h.1, by omega, h.2⟩⟩
  by_cases h1 : S.getLsbD y = true ∧ g.owner.getD y 0 = p
  · rw [if_pos h1, if_pos (e.2 h1)]
  · rw [if_neg h1, if_neg (fun h2 => h1 (e.1 h2))]
set_option maxRecDepth 100000 in
set_option maxHeartbeats 8000000 in
theorem decomp_any (g : P.G) (hr : g.Right) (n : Nat) (hn : g.owner.length = n) (v : Value) (w : World) (hv : GameV w v g) (hT : Tab w) : Calls Tryd.prog 6 #[v] w fun e w' => ∃ X Y c1 d1 r0 r1 b0 b1, e = .returned (.tuple #[.agg #[r0, r1, .slice (some ⟨b0, 0, none⟩) n n, .slice (some ⟨b1, 0, none⟩) n n], .int .i64 d1]) ∧ Dec g n w.heap.size X Y c1 d1 r0 r1 b0 b1 w' ∧ Below w.heap.size w w' := by
  have hq0 : g.right.2 = 0 := by have hok := (P.G.ok_iff g).2 hr; unfold P.G.ok at hok; exact beq_iff_eq.1 hok
  have HV := Lib.hid hv
  have T := Lib.hid hT
  have HR := Lib.hid hr
  have HN := Lib.hid hn
  have hop := hr.prio
  have hmp := hr.moves
  have hmany := hr.many
  have h0 := hr.pos
  rw [hn] at hop hmp hmany h0
  obtain ⟨ba, oa, ka, bb, ob, kb, bc_, oc, kc, rfl, hca, hcb, hcc⟩ := hv.open_ hn hop hmp h0
  clear hv hT hr hn hop hmp hca hcb hcc
  go_enter Tryd.func6, Tryd.ntmps6
  go_wp2_with fail
  have bx0 : Box ((w.alloc (.cells #[.slice (some ⟨ba, oa, none⟩) n ka, .slice (some ⟨bb, ob, none⟩) n kb, .slice (some ⟨bc_, oc, none⟩) n kc] 25)).alloc (.cells #[.slice none 0 0, .slice none 0 0, .slice none 0 0, .slice none 0 0] 32)) (w.heap.size) 25 #[.slice (some ⟨ba, oa, none⟩) n ka, .slice (some ⟨bb, ob, none⟩) n kb, .slice (some ⟨bc_, oc, none⟩) n kc] := Box.alloc (Box.new w 25 #[.slice (some ⟨ba, oa, none⟩) n ka, .slice (some ⟨bb, ob, none⟩) n kb, .slice (some ⟨bc_, oc, none⟩) n kc]) (.cells #[.slice none 0 0, .slice none 0 0, .slice none 0 0, .slice none 0 0] 32)
  have bx1 : Box ((w.alloc (.cells #[.slice (some ⟨ba, oa, none⟩) n ka, .slice (some ⟨bb, ob, none⟩) n kb, .slice (some ⟨bc_, oc, none⟩) n kc] 25)).alloc (.cells #[.slice none 0 0, .slice none 0 0, .slice none 0 0, .slice none 0 0] 32)) (w.heap.size + 1) 32 #[.slice none 0 0, .slice none 0 0, .slice none 0 0, .slice none 0 0] := by
    have := Box.new (w.alloc (.cells #[.slice (some ⟨ba, oa, none⟩) n ka, .slice (some ⟨bb, ob, none⟩) n kb, .slice (some ⟨bc_, oc, none⟩) n kc] 25)) 32 #[.slice none 0 0, .slice none 0 0, .slice none 0 0, .slice none 0 0]
    simpa using this
  have hbq : Below w.heap.size w ((w.alloc (.cells #[.slice (some ⟨ba, oa, none⟩) n ka, .slice (some ⟨bb, ob, none⟩) n kb, .slice (some ⟨bc_, oc, none⟩) n kc] 25)).alloc (.cells #[.slice none 0 0, .slice none 0 0, .slice none 0 0, .slice none 0 0] 32)) := ((Below.refl _ w).alloc (Nat.le_refl _) _).alloc (by simp) _
  have lt0 : w.heap.size < w.heap.size + 1 := Nat.lt_succ_self _
  have hle0 : w.heap.size ≤ w.heap.size := Nat.le_refl _
  generalize ((w.alloc (.cells #[.slice (some ⟨ba, oa, none⟩) n ka, .slice (some ⟨bb, ob, none⟩) n kb, .slice (some ⟨bc_, oc, none⟩) n kc] 25)).alloc (.cells #[.slice none 0 0, .slice none 0 0, .slice none 0 0, .slice none 0 0] 32)) = w0 at bx0 bx1 hbq  ⊢
  have BQg := Lib.hid bx0
  have BQr := Lib.hid bx1
  have W := Lib.hid hbq
  have LTgr := Lib.hid lt0
  have LEg := Lib.hid hle0
  clear hbq hle0 bx0 bx1 lt0
  generalize w.heap.size + 1 = qr at BQr LTgr ⊢
  obtain ⟨qg, hqg⟩ : ∃ qg, w.heap.size = qg := ⟨_, rfl⟩
  rw [hqg] at BQg LTgr ⊢
  have LEg : Hid (w.heap.size ≤ qg) := Lib.hid (by omega)
  clear hqg
  have hbb := BQg.out
  have gc0 : w0.cell? ⟨qg, 0, none⟩ = some (.slice (some ⟨ba, oa, none⟩) n ka) := hbb.cell 0 _ rfl
  have gc1 : w0.cell? ⟨qg, 1, none⟩ = some (.slice (some ⟨bb, ob, none⟩) n kb) := hbb.cell 1 _ rfl
  have gc2 : w0.cell? ⟨qg, 2, none⟩ = some (.slice (some ⟨bc_, oc, none⟩) n kc) := hbb.cell 2 _ rfl
  clear hbb
  go_wp2_with fail
  clear gc0 gc1 gc2
  refine (right_any g _ _ (HV.out.on W.out)).mono ?_
  rintro e w2 ⟨rfl, hb⟩
  replace BQg := Lib.hid (BQg.out.keep (grown_of_below hb none))
  replace BQr := Lib.hid (BQr.out.keep (grown_of_below hb none))
  replace W := Lib.hid (W.out.trans (hb.mono W.out.size))
  clear hb
  obtain ⟨z, hz⟩ : ∃ z, g.right.2 = z := ⟨_, rfl⟩
  rw [hz] at hq0 ⊢
  have fq : (((z : Nat) : Int) != 0) = false := by rw [bne_eq_false_iff_eq]; omega
  clear hz hq0
  go_upto_region 4 with (fail)
  refine Rt.wp_region_tail 1 (fun idx => match idx with | 0 => (fun v _ _ => v = .agg #[.slice (some ⟨ba, oa, none⟩) n ka, .slice (some ⟨bb, ob, none⟩) n kb, .slice (some ⟨bc_, oc, none⟩) n kc]) | 1 => (fun v _ _ => v = (.pointer (some ⟨qg, 0, none⟩))) | 2 => (fun v _ _ => v = (.slice (some ⟨ba, oa, none⟩) n ka)) | 3 => (fun v _ _ => v = (.int .i64 (n : Int))) | 4 => (fun v _ w' => (∃ b, v = .slice (some ⟨b, 0, none⟩) n n ∧ w2.heap.size ≤ b ∧ OwnI w' w2.heap.size (.slice (some ⟨b, 0, none⟩) n n) (P.rowOf n fun _ => -1))) | 5 => (fun v _ w' => (∃ b, v = .agg #[.slice (some ⟨ba, oa, none⟩) n ka, .slice (some ⟨bb, ob, none⟩) n kb, .slice (some ⟨bc_, oc, none⟩) n kc, .slice (some ⟨b, 0, none⟩) n n, .int .i64 0] ∧ w2.heap.size ≤ b ∧ OwnI w' w2.heap.size (.slice (some ⟨b, 0, none⟩) n n) (P.rowOf n fun _ => -1))) | 6 => (fun v _ w' => ∃ q, v = .pointer (some ⟨q, 0, none⟩) ∧ w2.heap.size ≤ q ∧ Box w' q 49 #[.slice none 0 0, .slice none 0 0, .slice none 0 0, .slice none 0 0, .int .i64 0]) | _ => fun _ _ _ => True) (fun _ _ _ _ => True) (Rk.allK) 99 (by kernel_rfl) (by rfl) (by kernel_rfl) (by rfl) ?_ ?_ ?_ ?_
  · refine ⟨?_, ?_, ?_, ?_, ?_, ?_, ?_, trivial⟩
    · intro A w' K vals h hn hT hgk hK0
      have r0 : A.tmps[1]?.getD undef = (.pointer (some ⟨qg, 0, none⟩)) := Rg.slot h.1
      have bs := BQg.out.keep (Rk.grown_of hgk)
      have cc0 : w'.cell? ⟨qg, 0, none⟩ = some (.slice (some ⟨ba, oa, none⟩) n ka) := bs.cell 0 _ rfl
      have cc1 : w'.cell? ⟨qg, 1, none⟩ = some (.slice (some ⟨bb, ob, none⟩) n kb) := bs.cell 1 _ rfl
      have cc2 : w'.cell? ⟨qg, 2, none⟩ = some (.slice (some ⟨bc_, oc, none⟩) n kc) := bs.cell 2 _ rfl
      clear h hn hT hgk bs
      simp [Oper.wp, execOp, go_sem, r0, cc0, cc1, cc2]
      exact hK0 _ _ (Rk.Keeps.refl _ _) rfl trivial
    · intro A w' K vals h hn hT hgk hK0
      have r0 : A.tmps[1]?.getD undef = .pointer (some ⟨qg, 0, none⟩) := Rg.slot h.1
      clear h hn hT hgk
      simp [Oper.wp, execOp, go_sem, r0]
      exact hK0 _ _ (Rk.Keeps.refl _ _) rfl trivial
    · intro A w' K vals h hn hT hgk hK0
      have r0 : A.tmps[21]?.getD undef = vals 1 := Rg.slot (h.1)
      have r1 : vals 1 = (.pointer (some ⟨qg, 0, none⟩)) := hn.1
      have c : w'.cell? ⟨qg, 0, none⟩ = some (.slice (some ⟨ba, oa, none⟩) n ka) := (BQg.out.keep (Rk.grown_of hgk)).cell 0 _ rfl
      clear h hn hT hgk
      simp [Oper.wp, execOp, go_sem, r0, r1, c]
      exact hK0 _ _ (Rk.Keeps.refl _ _) rfl trivial
    · intro A w' K vals h hn hT hgk hK0
      have r0 : A.tmps[22]?.getD undef = vals 2 := Rg.slot h.1
      have s0 : vals 2 = (.slice (some ⟨ba, oa, none⟩) n ka) := hn.1
      clear h hn hT hgk
      simp [Oper.wp, go_sem, r0, s0]
      exact hK0 _ _ (Rk.Keeps.refl _ _) rfl trivial
    · intro A w' K vals h hn hT hgk hK0
      have r0 : A.tmps[23]?.getD undef = vals 3 := Rg.slot h.2.1
      have s0 : vals 3 = .int .i64 (n : Int) := hn.1
      have hsz := hgk.size
      clear h hn hT hgk
      simp [Oper.wp, go_sem, r0, s0]
      refine (filled_any n hmany w').mono ?_
      rintro e w'' ⟨b, rfl, ho, hb⟩
      exact hK0 _ _ (Rk.keep_of (grown_of_below hb _)) ⟨b, rfl, Nat.le_trans hsz (own_lt ho b rfl).1, own_more ho hsz⟩ trivial
    · intro A w' K vals h hn hT hgk hK0
      have r0 : A.tmps[20]?.getD undef = vals 0 := Rg.slot h.1
      have r1 : A.tmps[24]?.getD undef = vals 4 := Rg.slot h.2.1
      have s0 : vals 0 = .agg #[.slice (some ⟨ba, oa, none⟩) n ka, .slice (some ⟨bb, ob, none⟩) n kb, .slice (some ⟨bc_, oc, none⟩) n kc] := hn.1
      obtain ⟨b, s1, hb1, hb2⟩ : (∃ b, vals 4 = .slice (some ⟨b, 0, none⟩) n n ∧ w2.heap.size ≤ b ∧ OwnI w' w2.heap.size (.slice (some ⟨b, 0, none⟩) n n) (P.rowOf n fun _ => -1)) := hn.2.1
      clear h hn hT hgk
      simp [Oper.wp, execOp, go_sem, r0, r1, s0, s1]
      exact hK0 _ _ (Rk.Keeps.refl _ _) ⟨b, rfl, hb1, hb2⟩ trivial
    · intro A w' K vals h hn hT hgk hK0
      have hsz := hgk.size
      clear h hn hT
      simp [Oper.wp, execOp, go_sem]
      exact hK0 _ _ (Rk.keep_of (World.grownBy_alloc _ _ _)) ⟨_, rfl, hsz, Box.new _ _ _⟩ trivial
  · refine ⟨?_, ?_, ?_, ?_, ?_, ?_, ?_, trivial⟩
    · exact fun _ _ _ _ _ _ h => h
    · exact fun _ _ _ _ _ _ h => h
    · exact fun _ _ _ _ _ _ h => h
    · exact fun _ _ _ _ _ _ h => h
    · exact fun _ _ _ _ _ h ⟨b, h1, h2, h3⟩ => ⟨b, h1, h2, own_grown h3 (Rk.grown_of h)⟩
    · exact fun _ _ _ _ _ h ⟨b, h1, h2, h3⟩ => ⟨b, h1, h2, own_grown h3 (Rk.grown_of h)⟩
    · exact fun _ _ _ _ _ h ⟨q, h1, h2, h3⟩ => ⟨q, h1, h2, h3.keep (Rk.grown_of h)⟩
  · exact fun _ _ _ _ _ _ h => h
  · intro vals w3 G hgk hS hG
    obtain ⟨pc, s5, hpc, hrow⟩ : (∃ b, vals 5 = .agg #[.slice (some ⟨ba, oa, none⟩) n ka, .slice (some ⟨bb, ob, none⟩) n kb, .slice (some ⟨bc_, oc, none⟩) n kc, .slice (some ⟨b, 0, none⟩) n n, .int .i64 0] ∧ w2.heap.size ≤ b ∧ OwnI w3 w2.heap.size (.slice (some ⟨b, 0, none⟩) n n) (P.rowOf n fun _ => -1)) := hS.2.2.2.2.2.1
    obtain ⟨qs, s6, hqs, hbs⟩ : ∃ q, vals 6 = .pointer (some ⟨q, 0, none⟩) ∧ w2.heap.size ≤ q ∧ Box w3 q 49 #[.slice none 0 0, .slice none 0 0, .slice none 0 0, .slice none 0 0, .int .i64 0] := hS.2.2.2.2.2.2.1
    clear hS
    have hb := below_of_grown (Rk.grown_of hgk)
    have HLQ : Hid (qg < w2.heap.size ∧ qr < w2.heap.size ∧ w.heap.size ≤ w2.heap.size) := Lib.hid ⟨BQg.out.lt, BQr.out.lt, W.out.size⟩
    replace BQg := Lib.hid (BQg.out.keep (grown_of_below hb none))
    replace BQr := Lib.hid (BQr.out.keep (grown_of_below hb none))
    replace W := Lib.hid (W.out.trans (hb.mono W.out.size))
    clear hb hgk
    refine hG ?_
    clear hG
    simp only [List.take, List.drop, List.length, Nat.reduceSub, Nat.reduceAdd, Rg.putAll, Act.put, List.setIfInBounds_toArray, List.set_cons_succ, List.set_cons_zero, s5, s6]
    clear s5 s6
    have hne : pc ≠ qs := fun e => own_box hrow hbs (by decide) (by rw [← e]; rfl)
    have hbo := hbs
    have sc0 : w3.cell? ⟨qs, 0, none⟩ = some (.slice none 0 0) := hbo.cell 0 _ rfl
    have sc1 : w3.cell? ⟨qs, 1, none⟩ = some (.slice none 0 0) := hbo.cell 1 _ rfl
    have sc2 : w3.cell? ⟨qs, 2, none⟩ = some (.slice none 0 0) := hbo.cell 2 _ rfl
    have sc3 : w3.cell? ⟨qs, 3, none⟩ = some (.slice none 0 0) := hbo.cell 3 _ rfl
    have sc4 : w3.cell? ⟨qs, 4, none⟩ = some (.int .i64 0) := hbo.cell 4 _ rfl
    have sf0 : w3.frozen? ⟨qs, 0, none⟩ = false := hbo.frozen 0
    have sf1 : w3.frozen? ⟨qs, 1, none⟩ = false := hbo.frozen 1
    have sf2 : w3.frozen? ⟨qs, 2, none⟩ = false := hbo.frozen 2
    have sf3 : w3.frozen? ⟨qs, 3, none⟩ = false := hbo.frozen 3
    have sf4 : w3.frozen? ⟨qs, 4, none⟩ = false := hbo.frozen 4
    clear hbo
    have BZ : Box (((((w3.setCell ⟨qs, 0, none⟩ (.slice (some ⟨ba, oa, none⟩) n ka)).setCell ⟨qs, 1, none⟩ (.slice (some ⟨bb, ob, none⟩) n kb)).setCell ⟨qs, 2, none⟩ (.slice (some ⟨bc_, oc, none⟩) n kc)).setCell ⟨qs, 3, none⟩ (.slice (some ⟨pc, 0, none⟩) n n)).setCell ⟨qs, 4, none⟩ (.int .i64 0)) qs 49 #[.slice (some ⟨ba, oa, none⟩) n ka, .slice (some ⟨bb, ob, none⟩) n kb, .slice (some ⟨bc_, oc, none⟩) n kc, .slice (some ⟨pc, 0, none⟩) n n, .int .i64 0] := box5 hbs _ _ _ _ _
    have hko : Rk.Keeps (KN [qs]) w3 (((((w3.setCell ⟨qs, 0, none⟩ (.slice (some ⟨ba, oa, none⟩) n ka)).setCell ⟨qs, 1, none⟩ (.slice (some ⟨bb, ob, none⟩) n kb)).setCell ⟨qs, 2, none⟩ (.slice (some ⟨bc_, oc, none⟩) n kc)).setCell ⟨qs, 3, none⟩ (.slice (some ⟨pc, 0, none⟩) n n)).setCell ⟨qs, 4, none⟩ (.int .i64 0)) := ((((kn_set w3 qs 0 _).trans (kn_set _ qs 1 _)).trans (kn_set _ qs 2 _)).trans (kn_set _ qs 3 _)).trans (kn_set _ qs 4 _)
    have hlo : w.heap.size ≤ qs := by have := HLQ.out; omega
    have HS : Hid (Sl w (((((w3.setCell ⟨qs, 0, none⟩ (.slice (some ⟨ba, oa, none⟩) n ka)).setCell ⟨qs, 1, none⟩ (.slice (some ⟨bb, ob, none⟩) n kb)).setCell ⟨qs, 2, none⟩ (.slice (some ⟨bc_, oc, none⟩) n kc)).setCell ⟨qs, 3, none⟩ (.slice (some ⟨pc, 0, none⟩) n n)).setCell ⟨qs, 4, none⟩ (.int .i64 0)) qs pc n n (.slice (some ⟨ba, oa, none⟩) n ka) (.slice (some ⟨bb, ob, none⟩) n kb) (.slice (some ⟨bc_, oc, none⟩) n kc) (P.rowOf n fun _ => -1) 0) := Lib.hid ⟨BZ, kn_own (by have h := hrow; unfold OwnI at h; rw [P.rowOf_len] at h; exact own_more h HLQ.out.2.2) hko (fun e => by injection e with e; exact hne e), W.out.trans (kn_below hko hlo W.out.size), hlo⟩
    replace BQg := Lib.hid (kn_box hko BQg.out (by have hne : qg ≠ qs := (by have := HLQ.out; omega); simp [hne]))
    replace BQr := Lib.hid (kn_box hko BQr.out (by have hne : qr ≠ qs := (by have := HLQ.out; omega); simp [hne]))
    replace W := Lib.hid (W.out.trans (kn_below hko hlo W.out.size))
    have NQg : Hid (qg ≠ qs ∧ qg ≠ pc) := Lib.hid (by have := HLQ.out; omega)
    have NQr : Hid (qr ≠ qs ∧ qr ≠ pc) := Lib.hid (by have := HLQ.out; omega)
    clear hko BZ hbs hrow hne hpc hqs hlo
    go_upto_region 5 with (fail)
    generalize (((((w3.setCell ⟨qs, 0, none⟩ (.slice (some ⟨ba, oa, none⟩) n ka)).setCell ⟨qs, 1, none⟩ (.slice (some ⟨bb, ob, none⟩) n kb)).setCell ⟨qs, 2, none⟩ (.slice (some ⟨bc_, oc, none⟩) n kc)).setCell ⟨qs, 3, none⟩ (.slice (some ⟨pc, 0, none⟩) n n)).setCell ⟨qs, 4, none⟩ (.int .i64 0)) = w4 at HS BQg BQr W ⊢
    clear sc0 sc1 sc2 sc3 sc4 sf0 sf1 sf2 sf3 sf4
    go_wp2_with fail
    refine (solvem_any g HR.out n HN.out w ba oa ka bb ob kb bc_ oc kc HV.out T.out qs pc n (P.rowOf n fun _ => -1) w4 HS.out).mono ?_
    rintro e w5 ⟨X, Y, c1, d1, rfl, hap, hs, hk, hd1, hd2⟩
    have HAP := Lib.hid hap
    have HDD := Lib.hid (And.intro hd1 hd2)
    replace BQg := Lib.hid (hk.box BQg.out NQg.out.1 NQg.out.2)
    replace BQr := Lib.hid (hk.box BQr.out NQr.out.1 NQr.out.2)
    replace W := Lib.hid hs.low
    replace HS := Lib.hid hs
    have HXY : Hid ((∀ i, P.Bit X i → i < n) ∧ (∀ i, P.Bit Y i → i < n)) := Lib.hid ⟨fun i hi => ((P.full_bits HR.out HN.out).1 i).1 (hap.mine.sub i hi), fun i hi => ((P.full_bits HR.out HN.out).1 i).1 (hap.his.sub i hi)⟩
    clear hap hs hk hd1 hd2
    go_upto_region 6 with (fail)
    have hal := World.grownBy_alloc w5 (.cells #[.int .u64 (P.wrd X 0), .int .u64 (P.wrd X 1), .int .u64 (P.wrd X 2), .int .u64 (P.wrd X 3), .int .u64 (P.wrd Y 0), .int .u64 (P.wrd Y 1), .int .u64 (P.wrd Y 2), .int .u64 (P.wrd Y 3)] 50) none
    have bq : Box (w5.alloc (.cells #[.int .u64 (P.wrd X 0), .int .u64 (P.wrd X 1), .int .u64 (P.wrd X 2), .int .u64 (P.wrd X 3), .int .u64 (P.wrd Y 0), .int .u64 (P.wrd Y 1), .int .u64 (P.wrd Y 2), .int .u64 (P.wrd Y 3)] 50)) w5.heap.size 50 #[.int .u64 (P.wrd X 0), .int .u64 (P.wrd X 1), .int .u64 (P.wrd X 2), .int .u64 (P.wrd X 3), .int .u64 (P.wrd Y 0), .int .u64 (P.wrd Y 1), .int .u64 (P.wrd Y 2), .int .u64 (P.wrd Y 3)] := Box.new _ _ _
    have hlt : qr < w5.heap.size := BQr.out.lt
    have hnq := HS.out.ne_q (Nat.le_refl w5.heap.size)
    replace HS := Lib.hid (HS.out.on (below_of_grown hal))
    replace W := Lib.hid (W.out.trans ((below_of_grown hal).mono W.out.size))
    replace BQg := Lib.hid (BQg.out.keep hal)
    replace BQr := Lib.hid (BQr.out.keep hal)
    clear hal
    generalize (w5.alloc (.cells #[.int .u64 (P.wrd X 0), .int .u64 (P.wrd X 1), .int .u64 (P.wrd X 2), .int .u64 (P.wrd X 3), .int .u64 (P.wrd Y 0), .int .u64 (P.wrd Y 1), .int .u64 (P.wrd Y 2), .int .u64 (P.wrd Y 3)] 50)) = w6 at bq HS W BQg BQr ⊢
    obtain ⟨q7, hq⟩ : ∃ q7, w5.heap.size = q7 := ⟨_, rfl⟩
    rw [hq] at bq hlt hnq ⊢
    have BQ7 := Lib.hid bq
    have Lq7 : Hid (qr < q7) := Lib.hid hlt
    have NQ7 : Hid (q7 ≠ qs ∧ q7 ≠ pc) := Lib.hid hnq
    clear bq hlt hnq hq
    go_upto_region 7 with (fail)
    have hal := World.grownBy_alloc w6 (.cells #[.slice none 0 0, .slice none 0 0, .slice none 0 0, .slice none 0 0] 32) none
    have bq : Box (w6.alloc (.cells #[.slice none 0 0, .slice none 0 0, .slice none 0 0, .slice none 0 0] 32)) w6.heap.size 32 #[.slice none 0 0, .slice none 0 0, .slice none 0 0, .slice none 0 0] := Box.new _ _ _
    have hlt : q7 < w6.heap.size := BQ7.out.lt
    have hnq := HS.out.ne_q (Nat.le_refl w6.heap.size)
    replace HS := Lib.hid (HS.out.on (below_of_grown hal))
    replace W := Lib.hid (W.out.trans ((below_of_grown hal).mono W.out.size))
    replace BQg := Lib.hid (BQg.out.keep hal)
    replace BQr := Lib.hid (BQr.out.keep hal)
    replace BQ7 := Lib.hid (BQ7.out.keep hal)
    clear hal
    generalize (w6.alloc (.cells #[.slice none 0 0, .slice none 0 0, .slice none 0 0, .slice none 0 0] 32)) = w7 at bq HS W BQg BQr BQ7 ⊢
    obtain ⟨qc, hq⟩ : ∃ qc, w6.heap.size = qc := ⟨_, rfl⟩
    rw [hq] at bq hlt hnq ⊢
    have BQc := Lib.hid bq
    have Lqc : Hid (q7 < qc) := Lib.hid hlt
    have NQc : Hid (qc ≠ qs ∧ qc ≠ pc) := Lib.hid hnq
    clear bq hlt hnq hq
    go_wp2_with fail
    go_loopw [27] (fun kv wr => ∃ k : Nat, k ≤ 2 ∧ kv = .int .i64 (k : Int) ∧ ((k = 0 ∧ Box wr qc 32 #[.slice none 0 0, .slice none 0 0, .slice none 0 0, .slice none 0 0]) ∨ (k = 1 ∧ ∃ r0 b0, Box wr qc 32 #[r0, .slice none 0 0, .slice (some ⟨b0, 0, none⟩) n n, .slice none 0 0] ∧ ROWS wr w.heap.size n g 0 X c1 r0 b0) ∨
      (k = 2 ∧ ∃ r0 b0 r1 b1, Box wr qc 32 #[r0, r1, .slice (some ⟨b0, 0, none⟩) n n, .slice (some ⟨b1, 0, none⟩) n n] ∧ ROWS wr w.heap.size n g 0 X c1 r0 b0 ∧ ROWS wr w.heap.size n g 1 Y c1 r1 b1 ∧ b0 < b1 ∧ ∀ x, r1.ownBlock = some x → b0 < x)) ∧ Sl w wr qs pc n n (.slice (some ⟨ba, oa, none⟩) n ka) (.slice (some ⟨bb, ob, none⟩) n kb) (.slice (some ⟨bc_, oc, none⟩) n kc) c1 d1 ∧ Box wr qg 25 #[.slice (some ⟨ba, oa, none⟩) n ka, .slice (some ⟨bb, ob, none⟩) n kb, .slice (some ⟨bc_, oc, none⟩) n kc] ∧ Box wr qr 32 #[.slice none 0 0, .slice none 0 0, .slice none 0 0, .slice none 0 0] ∧ Box wr q7 50 #[.int .u64 (P.wrd X 0), .int .u64 (P.wrd X 1), .int .u64 (P.wrd X 2), .int .u64 (P.wrd X 3), .int .u64 (P.wrd Y 0), .int .u64 (P.wrd Y 1), .int .u64 (P.wrd Y 2), .int .u64 (P.wrd Y 3)] ∧ Below w.heap.size w wr) (fun kv _ => 2 - (intOf kv).toNat)
    case atStart => exact ⟨0, by omega, rfl, .inl ⟨rfl, BQc.out⟩, HS.out, BQg.out, BQr.out, BQ7.out, W.out⟩
    case round =>
      obtain ⟨k, hk, rfl, hst, hs, hbg, hbr, hb7, hbw⟩ := hrel
      replace HS := Lib.hid hs
      replace BQg := Lib.hid hbg
      replace BQr := Lib.hid hbr
      replace BQ7 := Lib.hid hb7
      replace W := Lib.hid hbw
      clear hs hbg hbr hb7 hbw BQc
      rcases hst with ⟨rfl, hbc⟩ | ⟨rfl, r0, b0, hbc, hrow0⟩ | ⟨rfl, r0, b0, r1, b1, hbc, hrow0, hrow1, hb01, hb1⟩
      · have BQc := Lib.hid hbc
        clear hbc hk
        obtain ⟨wo, hwo⟩ : ∃ wo : World, wo = wr := ⟨_, rfl⟩
        rw [← hwo] at HS BQg BQr BQ7 BQc W ⊢
        have HKX : Hid (Rk.Keeps (KX wo.heap.size [qc]) wo wo) := Lib.hid (Rk.Keeps.refl _ _)
        clear hwo
        have HQW : Hid (qg < wo.heap.size ∧ qr < wo.heap.size ∧ q7 < wo.heap.size ∧ qc < wo.heap.size ∧ qs < wo.heap.size ∧ pc < wo.heap.size) := Lib.hid ⟨BQg.out.lt, BQr.out.lt, BQ7.out.lt, BQc.out.lt, HS.out.box.lt, HS.out.plo.2⟩
        have HLW := Lib.hid W.out.size
        have hbb := BQ7.out
        have pc0 : wo.cell? ⟨q7, 0, none⟩ = some (.int .u64 (P.wrd X 0)) := hbb.cell 0 _ rfl
        have pc1 : wo.cell? ⟨q7, 1, none⟩ = some (.int .u64 (P.wrd X 1)) := hbb.cell 1 _ rfl
        have pc2 : wo.cell? ⟨q7, 2, none⟩ = some (.int .u64 (P.wrd X 2)) := hbb.cell 2 _ rfl
        have pc3 : wo.cell? ⟨q7, 3, none⟩ = some (.int .u64 (P.wrd X 3)) := hbb.cell 3 _ rfl
        have pc4 : wo.cell? ⟨q7, 4, none⟩ = some (.int .u64 (P.wrd Y 0)) := hbb.cell 4 _ rfl
        have pc5 : wo.cell? ⟨q7, 5, none⟩ = some (.int .u64 (P.wrd Y 1)) := hbb.cell 5 _ rfl
        have pc6 : wo.cell? ⟨q7, 6, none⟩ = some (.int .u64 (P.wrd Y 2)) := hbb.cell 6 _ rfl
        have pc7 : wo.cell? ⟨q7, 7, none⟩ = some (.int .u64 (P.wrd Y 3)) := hbb.cell 7 _ rfl
        clear hbb
        go_wp2_with fail
        clear pc0 pc1 pc2 pc3 pc4 pc5 pc6 pc7
        refine (list_any X wo (T.out.on W.out)).mono ?_
        rintro e wa ⟨lv, rfl, hown, hb⟩
        obtain ⟨ra, rk, rfl, -⟩ := own_at hown
        have HR_ := Lib.hid (show wa.ownsRow w.heap.size 3 1 (.slice ra (P.lst X).length rk) (P.lst X).length ((lstI X).map (Value.int .i64)) by rw [lstI_vals]; exact own_more hown W.out.size)
        have HRL := Lib.hid (own_lt hown)
        replace HS := Lib.hid (HS.out.on hb)
        replace W := Lib.hid (W.out.trans (hb.mono W.out.size))
        replace HKX := Lib.hid (HKX.out.trans (kx_below_of hb |> fun k => kx_more k HKX.out.size (fun x hx => .inl hx)))
        replace BQg := Lib.hid (BQg.out.keep (grown_of_below hb none))
        replace BQr := Lib.hid (BQr.out.keep (grown_of_below hb none))
        replace BQ7 := Lib.hid (BQ7.out.keep (grown_of_below hb none))
        replace BQc := Lib.hid (BQc.out.keep (grown_of_below hb none))
        clear hb hown
        have hbo := BQc.out
        have cc0 : wa.cell? ⟨qc, 0, none⟩ = some (.slice none 0 0) := hbo.cell 0 _ rfl
        have cc1 : wa.cell? ⟨qc, 1, none⟩ = some (.slice none 0 0) := hbo.cell 1 _ rfl
        have cc2 : wa.cell? ⟨qc, 2, none⟩ = some (.slice none 0 0) := hbo.cell 2 _ rfl
        have cc3 : wa.cell? ⟨qc, 3, none⟩ = some (.slice none 0 0) := hbo.cell 3 _ rfl
        have cf0 : wa.frozen? ⟨qc, 0, none⟩ = false := hbo.frozen 0
        have cf1 : wa.frozen? ⟨qc, 1, none⟩ = false := hbo.frozen 1
        have cf2 : wa.frozen? ⟨qc, 2, none⟩ = false := hbo.frozen 2
        have cf3 : wa.frozen? ⟨qc, 3, none⟩ = false := hbo.frozen 3
        clear hbo
        have BZ : Box (wa.setCell ⟨qc, 0, none⟩ (.slice ra (P.lst X).length rk)) qc 32 #[.slice ra (P.lst X).length rk, .slice none 0 0, .slice none 0 0, .slice none 0 0] := BQc.out.set 0 (.slice ra (P.lst X).length rk)
        have hko : Rk.Keeps (KN [qc]) wa (wa.setCell ⟨qc, 0, none⟩ (.slice ra (P.lst X).length rk)) := kn_set _ _ _ _
        have hkx : Rk.Keeps (KX wo.heap.size [qc]) wa (wa.setCell ⟨qc, 0, none⟩ (.slice ra (P.lst X).length rk)) := kx_set _ (.inl (by simp)) _ _
        replace HS := Lib.hid (HS.out.kn hko NQc.out.1.symm NQc.out.2.symm (by have h1 := LEg.out; have h2 := LTgr.out; have h3 := Lq7.out; have h4 := Lqc.out; omega))
        replace W := Lib.hid (W.out.trans (kn_below hko (by have h1 := LEg.out; have h2 := LTgr.out; have h3 := Lq7.out; have h4 := Lqc.out; omega) W.out.size))
        replace BQg := Lib.hid (kn_box hko BQg.out (by have hne : qg ≠ qc := (by have h1 := LEg.out; have h2 := LTgr.out; have h3 := Lq7.out; have h4 := Lqc.out; omega); simp [hne]))
        replace BQr := Lib.hid (kn_box hko BQr.out (by have hne : qr ≠ qc := (by have h1 := LEg.out; have h2 := LTgr.out; have h3 := Lq7.out; have h4 := Lqc.out; omega); simp [hne]))
        replace BQ7 := Lib.hid (kn_box hko BQ7.out (by have hne : q7 ≠ qc := (by have h1 := LEg.out; have h2 := LTgr.out; have h3 := Lq7.out; have h4 := Lqc.out; omega); simp [hne]))
        replace HKX := Lib.hid (HKX.out.trans hkx)
        replace HR_ := Lib.hid (kn_own HR_.out hko (fun e => own_box HR_.out BQc.out (by decide) e))
        replace BQc := Lib.hid BZ
        clear hko hkx BZ
        go_upto_region 11 with (fail)
        clear cc0 cc1 cc2 cc3 cf0 cf1 cf2 cf3
        generalize (wa.setCell ⟨qc, 0, none⟩ (.slice ra (P.lst X).length rk)) = wb at HS W HKX BQg BQr BQ7 BQc HR_ ⊢
        have hbb := BQg.out
        have gc0 : wb.cell? ⟨qg, 0, none⟩ = some (.slice (some ⟨ba, oa, none⟩) n ka) := hbb.cell 0 _ rfl
        have gc1 : wb.cell? ⟨qg, 1, none⟩ = some (.slice (some ⟨bb, ob, none⟩) n kb) := hbb.cell 1 _ rfl
        have gc2 : wb.cell? ⟨qg, 2, none⟩ = some (.slice (some ⟨bc_, oc, none⟩) n kc) := hbb.cell 2 _ rfl
        clear hbb
        go_wp2_with fail
        clear gc0 gc1 gc2
        refine (filled_any n hmany wb).mono ?_
        rintro e wc ⟨bm, rfl, ho, hb⟩
        have HM := Lib.hid (show wc.ownsRow w.heap.size 3 1 (.slice (some ⟨bm, 0, none⟩) n n) n ((P.rowOf n (fun _ => -1)).map (Value.int .i64)) by unfold OwnI at ho; rw [P.rowOf_len] at ho; exact own_more ho W.out.size)
        have HBM : Hid (wo.heap.size ≤ bm ∧ wb.heap.size ≤ bm) := Lib.hid ⟨Nat.le_trans HKX.out.size (own_lt ho bm rfl).1, (own_lt ho bm rfl).1⟩
        have HRB := Lib.hid (show ∀ x, (.slice ra (P.lst X).length rk : Value).ownBlock = some x → x < bm from fun x hx => Nat.lt_of_lt_of_le (own_lt HR_.out x hx).2 HBM.out.2)
        replace HS := Lib.hid (HS.out.on hb)
        replace W := Lib.hid (W.out.trans (hb.mono W.out.size))
        replace HKX := Lib.hid (HKX.out.trans (kx_below_of hb |> fun k => kx_more k HKX.out.size (fun x hx => .inl hx)))
        replace BQg := Lib.hid (BQg.out.keep (grown_of_below hb none))
        replace BQr := Lib.hid (BQr.out.keep (grown_of_below hb none))
        replace BQ7 := Lib.hid (BQ7.out.keep (grown_of_below hb none))
        replace BQc := Lib.hid (BQc.out.keep (grown_of_below hb none))
        replace HR_ := Lib.hid (own_grown HR_.out (grown_of_below hb none))
        clear hb ho
        have hbo := BQc.out
        have cc0 : wc.cell? ⟨qc, 0, none⟩ = some (.slice ra (P.lst X).length rk) := hbo.cell 0 _ rfl
        have cc1 : wc.cell? ⟨qc, 1, none⟩ = some (.slice none 0 0) := hbo.cell 1 _ rfl
        have cc2 : wc.cell? ⟨qc, 2, none⟩ = some (.slice none 0 0) := hbo.cell 2 _ rfl
        have cc3 : wc.cell? ⟨qc, 3, none⟩ = some (.slice none 0 0) := hbo.cell 3 _ rfl
        have cf0 : wc.frozen? ⟨qc, 0, none⟩ = false := hbo.frozen 0
        have cf1 : wc.frozen? ⟨qc, 1, none⟩ = false := hbo.frozen 1
        have cf2 : wc.frozen? ⟨qc, 2, none⟩ = false := hbo.frozen 2
        have cf3 : wc.frozen? ⟨qc, 3, none⟩ = false := hbo.frozen 3
        clear hbo
        have BZ : Box (wc.setCell ⟨qc, 2, none⟩ (.slice (some ⟨bm, 0, none⟩) n n)) qc 32 #[.slice ra (P.lst X).length rk, .slice none 0 0, .slice (some ⟨bm, 0, none⟩) n n, .slice none 0 0] := BQc.out.set 2 (.slice (some ⟨bm, 0, none⟩) n n)
        have hko : Rk.Keeps (KN [qc]) wc (wc.setCell ⟨qc, 2, none⟩ (.slice (some ⟨bm, 0, none⟩) n n)) := kn_set _ _ _ _
        have hkx : Rk.Keeps (KX wo.heap.size [qc]) wc (wc.setCell ⟨qc, 2, none⟩ (.slice (some ⟨bm, 0, none⟩) n n)) := kx_set _ (.inl (by simp)) _ _
        replace HS := Lib.hid (HS.out.kn hko NQc.out.1.symm NQc.out.2.symm (by have h1 := LEg.out; have h2 := LTgr.out; have h3 := Lq7.out; have h4 := Lqc.out; omega))
        replace W := Lib.hid (W.out.trans (kn_below hko (by have h1 := LEg.out; have h2 := LTgr.out; have h3 := Lq7.out; have h4 := Lqc.out; omega) W.out.size))
        replace BQg := Lib.hid (kn_box hko BQg.out (by have hne : qg ≠ qc := (by have h1 := LEg.out; have h2 := LTgr.out; have h3 := Lq7.out; have h4 := Lqc.out; omega); simp [hne]))
        replace BQr := Lib.hid (kn_box hko BQr.out (by have hne : qr ≠ qc := (by have h1 := LEg.out; have h2 := LTgr.out; have h3 := Lq7.out; have h4 := Lqc.out; omega); simp [hne]))
        replace BQ7 := Lib.hid (kn_box hko BQ7.out (by have hne : q7 ≠ qc := (by have h1 := LEg.out; have h2 := LTgr.out; have h3 := Lq7.out; have h4 := Lqc.out; omega); simp [hne]))
        replace HKX := Lib.hid (HKX.out.trans hkx)
        replace HR_ := Lib.hid (kn_own HR_.out hko (fun e => own_box HR_.out BQc.out (by decide) e))
        replace HM := Lib.hid (kn_own HM.out hko (fun e => own_box HM.out BQc.out (by decide) e))
        replace BQc := Lib.hid BZ
        clear hko hkx BZ
        go_upto_region 12 with (fail)
        clear cc0 cc1 cc2 cc3 cf0 cf1 cf2 cf3
        generalize (wc.setCell ⟨qc, 2, none⟩ (.slice (some ⟨bm, 0, none⟩) n n)) = wd at HS W HKX BQg BQr BQ7 BQc HR_ HM ⊢
        refine Rz.wp_region (fun idx => match idx with | 0 => (fun v _ _ => v = (.int .i64 0)) | 1 => (fun v _ _ => v = (.pointer (some ⟨q7, 0, none⟩))) | 2 => (fun v _ _ => v = .agg #[.int .u64 (P.wrd X 0), .int .u64 (P.wrd X 1), .int .u64 (P.wrd X 2), .int .u64 (P.wrd X 3)]) | 3 => (fun v _ _ => v = .agg #[.slice (some ⟨ba, oa, none⟩) n ka, .slice (some ⟨bb, ob, none⟩) n kb, .slice (some ⟨bc_, oc, none⟩) n kc]) | 4 => (fun v _ _ => v = (.int .i64 0)) | 5 => (fun v _ _ => v = .agg #[.int .u64 (P.wrd (P.places 0 g.owner g.owner.length) 0), .int .u64 (P.wrd (P.places 0 g.owner g.owner.length) 1), .int .u64 (P.wrd (P.places 0 g.owner g.owner.length) 2), .int .u64 (P.wrd (P.places 0 g.owner g.owner.length) 3)]) | 6 => (fun v _ _ => v = .agg #[.int .u64 (P.wrd (X &&& P.places 0 g.owner g.owner.length) 0), .int .u64 (P.wrd (X &&& P.places 0 g.owner g.owner.length) 1), .int .u64 (P.wrd (X &&& P.places 0 g.owner g.owner.length) 2), .int .u64 (P.wrd (X &&& P.places 0 g.owner g.owner.length) 3)]) | 7 => (fun v _ w' => (∃ ao kl, v = .slice ao (P.lst (X &&& P.places 0 g.owner g.owner.length)).length kl ∧ (P.lst (X &&& P.places 0 g.owner g.owner.length) = [] ∨ ∃ b, ao = some ⟨b, 0, none⟩ ∧ wd.heap.size ≤ b ∧ b < w'.heap.size ∧ ∀ j, j < (P.lst (X &&& P.places 0 g.owner g.owner.length)).length → w'.cell? ⟨b, j, none⟩ = some (.int .i64 (((P.lst (X &&& P.places 0 g.owner g.owner.length)).getD j 0 : Nat) : Int))))) | 8 => (fun v _ _ => v = .int .i64 (((P.lst (X &&& P.places 0 g.owner g.owner.length)).length : Nat) : Int)) | 9 => (fun v _ _ => v = (.int .i64 0)) | _ => fun _ _ _ => True) (fun _ _ _ _ => True) (Rk.allK) 99 (by kernel_rfl) (by kernel_rfl) (by rfl) ?_ ?_ ?_ ?_
        · refine ⟨?_, ?_, ?_, ?_, ?_, ?_, ?_, ?_, ?_, ?_, trivial⟩
          · intro A w' K vals h hn hT hgk hK0
            have r0 : A.tmps[9]?.getD undef = .int .i64 0 := Rg.slot h.1
            clear h hn hT hgk
            simp [Oper.wp, execOp, go_sem, r0]
            exact hK0 _ _ (Rk.Keeps.refl _ _) rfl trivial
          · intro A w' K vals h hn hT hgk hK0
            have r0 : A.tmps[7]?.getD undef = .pointer (some ⟨q7, 0, none⟩) := Rg.slot h.1
            have r1 : A.tmps[44]?.getD undef = vals 0 := Rg.slot h.2.1
            have s1 : vals 0 = (.int .i64 0) := hn.1
            clear h hn hT hgk
            simp [Oper.wp, execOp, go_sem, r0, r1, s1]
            exact hK0 _ _ (Rk.Keeps.refl _ _) rfl trivial
          · intro A w' K vals h hn hT hgk hK0
            have r0 : A.tmps[45]?.getD undef = vals 1 := Rg.slot h.1
            have r1 : vals 1 = (.pointer (some ⟨q7, 0, none⟩)) := hn.1
            have bs := BQ7.out.keep (Rk.grown_of hgk)
            have cc0 : w'.cell? ⟨q7, 0, none⟩ = some (.int .u64 (P.wrd X 0)) := bs.cell 0 _ rfl
            have cc1 : w'.cell? ⟨q7, 1, none⟩ = some (.int .u64 (P.wrd X 1)) := bs.cell 1 _ rfl
            have cc2 : w'.cell? ⟨q7, 2, none⟩ = some (.int .u64 (P.wrd X 2)) := bs.cell 2 _ rfl
            have cc3 : w'.cell? ⟨q7, 3, none⟩ = some (.int .u64 (P.wrd X 3)) := bs.cell 3 _ rfl
            have cc4 : w'.cell? ⟨q7, 4, none⟩ = some (.int .u64 (P.wrd Y 0)) := bs.cell 4 _ rfl
            have cc5 : w'.cell? ⟨q7, 5, none⟩ = some (.int .u64 (P.wrd Y 1)) := bs.cell 5 _ rfl
            have cc6 : w'.cell? ⟨q7, 6, none⟩ = some (.int .u64 (P.wrd Y 2)) := bs.cell 6 _ rfl
            have cc7 : w'.cell? ⟨q7, 7, none⟩ = some (.int .u64 (P.wrd Y 3)) := bs.cell 7 _ rfl
            clear h hn hT hgk bs
            simp [Oper.wp, execOp, go_sem, r0, r1, cc0, cc1, cc2, cc3]
            exact hK0 _ _ (Rk.Keeps.refl _ _) rfl trivial
          · intro A w' K vals h hn hT hgk hK0
            have r0 : A.tmps[1]?.getD undef = (.pointer (some ⟨qg, 0, none⟩)) := Rg.slot h.1
            have bs := BQg.out.keep (Rk.grown_of hgk)
            have cc0 : w'.cell? ⟨qg, 0, none⟩ = some (.slice (some ⟨ba, oa, none⟩) n ka) := bs.cell 0 _ rfl
            have cc1 : w'.cell? ⟨qg, 1, none⟩ = some (.slice (some ⟨bb, ob, none⟩) n kb) := bs.cell 1 _ rfl
            have cc2 : w'.cell? ⟨qg, 2, none⟩ = some (.slice (some ⟨bc_, oc, none⟩) n kc) := bs.cell 2 _ rfl
            clear h hn hT hgk bs
            simp [Oper.wp, execOp, go_sem, r0, cc0, cc1, cc2]
            exact hK0 _ _ (Rk.Keeps.refl _ _) rfl trivial
          · intro A w' K vals h hn hT hgk hK0
            have r0 : A.tmps[9]?.getD undef = .int .i64 0 := Rg.slot h.1
            clear h hn hT hgk
            simp [Oper.wp, execOp, go_sem, r0]
            exact hK0 _ _ (Rk.Keeps.refl _ _) rfl trivial
          · intro A w' K vals h hn hT hgk hK0
            have r0 : A.tmps[47]?.getD undef = vals 3 := Rg.slot h.2.1
            have r1 : A.tmps[48]?.getD undef = vals 4 := Rg.slot h.2.2.1
            have s0 : vals 3 = .agg #[.slice (some ⟨ba, oa, none⟩) n ka, .slice (some ⟨bb, ob, none⟩) n kb, .slice (some ⟨bc_, oc, none⟩) n kc] := hn.1
            have s1 : vals 4 = .int .i64 0 := hn.2.1
            have hb := W.out.trans ((below_of_grown (Rk.grown_of hgk)).mono W.out.size)
            clear h hn hT hgk
            simp [Oper.wp, go_sem, r0, r1, s0, s1]
            refine (own_any g _ 0 w' (HV.out.on hb)).mono ?_
            rintro e w'' ⟨rfl, hb⟩
            exact hK0 _ _ (Rk.keep_of (grown_of_below hb _)) rfl trivial
          · intro A w' K vals h hn hT hgk hK0
            have r0 : A.tmps[46]?.getD undef = vals 2 := Rg.slot h.2.1
            have r1 : A.tmps[49]?.getD undef = vals 5 := Rg.slot h.2.2.1
            have s0 : vals 2 = .agg #[.int .u64 (P.wrd X 0), .int .u64 (P.wrd X 1), .int .u64 (P.wrd X 2), .int .u64 (P.wrd X 3)] := hn.1
            have s1 : vals 5 = .agg #[.int .u64 (P.wrd (P.places 0 g.owner g.owner.length) 0), .int .u64 (P.wrd (P.places 0 g.owner g.owner.length) 1), .int .u64 (P.wrd (P.places 0 g.owner g.owner.length) 2), .int .u64 (P.wrd (P.places 0 g.owner g.owner.length) 3)] := hn.2.1
            clear h hn hT hgk
            simp [Oper.wp, go_sem, r0, r1, s0, s1]
            refine (and_any _ _ w').mono ?_
            rintro e w'' ⟨rfl, hb⟩
            exact hK0 _ _ (Rk.keep_of (grown_of_below hb _)) rfl trivial
          · intro A w' K vals h hn hT hgk hK0
            have r0 : A.tmps[50]?.getD undef = vals 6 := Rg.slot h.2.1
            have s0 : vals 6 = .agg #[.int .u64 (P.wrd (X &&& P.places 0 g.owner g.owner.length) 0), .int .u64 (P.wrd (X &&& P.places 0 g.owner g.owner.length) 1), .int .u64 (P.wrd (X &&& P.places 0 g.owner g.owner.length) 2), .int .u64 (P.wrd (X &&& P.places 0 g.owner g.owner.length) 3)] := hn.1
            have hsz := hgk.size
            have hb := W.out.trans ((below_of_grown (Rk.grown_of hgk)).mono W.out.size)
            clear h hn hT hgk
            simp [Oper.wp, go_sem, r0, s0]
            refine (list_any (X &&& P.places 0 g.owner g.owner.length) w' (T.out.on hb)).mono ?_
            rintro e w'' ⟨lv, rfl, hown, hb⟩
            exact hK0 _ _ (Rk.keep_of (grown_of_below hb _)) (lists_at hown hsz) trivial
          · intro A w' K vals h hn hT hgk hK0
            have r0 : A.tmps[51]?.getD undef = vals 7 := Rg.slot h.1
            obtain ⟨ao, kl, s0, -⟩ : (∃ ao kl, vals 7 = .slice ao (P.lst (X &&& P.places 0 g.owner g.owner.length)).length kl ∧ (P.lst (X &&& P.places 0 g.owner g.owner.length) = [] ∨ ∃ b, ao = some ⟨b, 0, none⟩ ∧ wd.heap.size ≤ b ∧ b < w'.heap.size ∧ ∀ j, j < (P.lst (X &&& P.places 0 g.owner g.owner.length)).length → w'.cell? ⟨b, j, none⟩ = some (.int .i64 (((P.lst (X &&& P.places 0 g.owner g.owner.length)).getD j 0 : Nat) : Int)))) := hn.1
            clear h hn hT hgk
            simp [Oper.wp, go_sem, r0, s0]
            exact hK0 _ _ (Rk.Keeps.refl _ _) rfl trivial
          · intro A w' K vals h hn hT hgk hK0
            clear h hn hT hgk
            simp [Oper.wp, execOp, go_sem]
            exact hK0 _ _ (Rk.Keeps.refl _ _) rfl trivial
        · refine ⟨?_, ?_, ?_, ?_, ?_, ?_, ?_, ?_, ?_, ?_, trivial⟩
          · exact fun _ _ _ _ _ _ h => h
          · exact fun _ _ _ _ _ _ h => h
          · exact fun _ _ _ _ _ _ h => h
          · exact fun _ _ _ _ _ _ h => h
          · exact fun _ _ _ _ _ _ h => h
          · exact fun _ _ _ _ _ _ h => h
          · exact fun _ _ _ _ _ _ h => h
          · exact fun _ _ _ _ _ h hl => by
              obtain ⟨ao, kl, h1, h2⟩ := hl
              refine ⟨ao, kl, h1, h2.imp id ?_⟩
              rintro ⟨b, h3, h4, h5, h6⟩
              exact ⟨b, h3, h4, Nat.lt_of_lt_of_le h5 h.size, fun j hj => (Rk.grown_of h).cell (h6 j hj) (by simp)⟩
          · exact fun _ _ _ _ _ _ h => h
          · exact fun _ _ _ _ _ _ h => h
        · exact fun _ _ _ _ _ _ h => h
        · intro vals we G hgk hS hG
          obtain ⟨ao, kl, s7, hl8⟩ : (∃ ao kl, vals 7 = .slice ao (P.lst (X &&& P.places 0 g.owner g.owner.length)).length kl ∧ (P.lst (X &&& P.places 0 g.owner g.owner.length) = [] ∨ ∃ b, ao = some ⟨b, 0, none⟩ ∧ wd.heap.size ≤ b ∧ b < we.heap.size ∧ ∀ j, j < (P.lst (X &&& P.places 0 g.owner g.owner.length)).length → we.cell? ⟨b, j, none⟩ = some (.int .i64 (((P.lst (X &&& P.places 0 g.owner g.owner.length)).getD j 0 : Nat) : Int)))) := hS.2.2.2.2.2.2.2.1
          have s8 : vals 8 = .int .i64 (((P.lst (X &&& P.places 0 g.owner g.owner.length)).length : Nat) : Int) := hS.2.2.2.2.2.2.2.2.1
          have s9 : vals 9 = .int .i64 0 := hS.2.2.2.2.2.2.2.2.2.1
          clear hS
          have hb := below_of_grown (Rk.grown_of hgk)
          have HWE := Lib.hid (show bm < wd.heap.size from (own_lt HM.out bm rfl).2)
          replace HS := Lib.hid (HS.out.on hb)
          replace W := Lib.hid (W.out.trans (hb.mono W.out.size))
          replace HKX := Lib.hid (HKX.out.trans (kx_below_of hb |> fun k => kx_more k HKX.out.size (fun x hx => .inl hx)))
          replace BQg := Lib.hid (BQg.out.keep (grown_of_below hb none))
          replace BQr := Lib.hid (BQr.out.keep (grown_of_below hb none))
          replace BQ7 := Lib.hid (BQ7.out.keep (grown_of_below hb none))
          replace BQc := Lib.hid (BQc.out.keep (grown_of_below hb none))
          replace HR_ := Lib.hid (own_grown HR_.out (grown_of_below hb none))
          replace HM := Lib.hid (own_grown HM.out (grown_of_below hb none))
          clear hb hgk
          obtain ⟨ln, hln⟩ : ∃ k, (P.lst (X &&& P.places 0 g.owner g.owner.length)).length = k := ⟨_, rfl⟩
          rw [hln] at s7 s8 hl8
          have HLL := Lib.hid hln
          have hl256 : ln ≤ 256 := by rw [← hln]; unfold P.lst; exact Nat.le_trans (List.length_filter_le _ _) (by simp)
          refine hG ?_
          clear hG
          simp only [Nat.reduceAdd, Rg.putAll, Act.put, List.setIfInBounds_toArray, List.set_cons_succ, List.set_cons_zero, s7, s8, s9]
          clear s7 s8 s9
          by_cases hnil : P.lst (X &&& P.places 0 g.owner g.owner.length) = []
          · have hl0 : ln = 0 := by rw [← hln, hnil]; rfl
            clear hl8 hln hnil hl256
            rw [hl0] at HLL ⊢
            clear hl0
            go_wp2_with fail
            go_loopw [53] (fun iv wq => ∃ k : Nat, k ≤ 0 ∧ iv = .int .i64 (k : Int) ∧ Rk.Keeps (KX we.heap.size [bm]) we wq ∧ wq.ownsRow w.heap.size 3 1 (.slice (some ⟨bm, 0, none⟩) n n) n ((P.rowOf n (mvK (X &&& P.places 0 g.owner g.owner.length) c1 k)).map (Value.int .i64))) (fun iv _ => 0 - (intOf iv).toNat)
            case atStart => exact ⟨0, Nat.zero_le _, rfl, Rk.Keeps.refl _ _, by rw [mvK_zero]; exact HM.out⟩
            case round =>
              obtain ⟨k, hk, rfl, hkp, hmr⟩ := hrel
              have HKP := Lib.hid hkp
              have HMR := Lib.hid hmr
              have hk0 : (0 : Int) ≤ (k : Int) := Int.natCast_nonneg _
              have NB : Hid (qg ≠ bm ∧ qr ≠ bm ∧ q7 ≠ bm ∧ qc ≠ bm ∧ qs ≠ bm ∧ pc ≠ bm) := Lib.hid (by have h1 := HBM.out; have h2 := HQW.out; omega)
              replace BQg := Lib.hid (kx_box HKP.out BQg.out BQg.out.lt (by simp [NB.out.1]))
              replace BQr := Lib.hid (kx_box HKP.out BQr.out BQr.out.lt (by simp [NB.out.2.1]))
              replace BQ7 := Lib.hid (kx_box HKP.out BQ7.out BQ7.out.lt (by simp [NB.out.2.2.1]))
              replace BQc := Lib.hid (kx_box HKP.out BQc.out BQc.out.lt (by simp [NB.out.2.2.2.1]))
              replace W := Lib.hid (W.out.trans (kx_below HKP.out (fun x hx => by have h1 := List.mem_singleton.1 hx; have h2 := HBM.out; have h3 := HLW.out; omega) W.out.size (Nat.le_refl _)))
              replace HS : Hid (Sl w wr qs pc n n (.slice (some ⟨ba, oa, none⟩) n ka) (.slice (some ⟨bb, ob, none⟩) n kb) (.slice (some ⟨bc_, oc, none⟩) n kc) c1 d1) := Lib.hid ⟨kx_box HKP.out HS.out.box HS.out.box.lt (by simp [NB.out.2.2.2.2.1]), kx_own HS.out.row HKP.out (fun b hb => by injection hb with hb; subst hb; exact ⟨HS.out.plo.2, by simp [NB.out.2.2.2.2.2]⟩), W.out, HS.out.lo⟩
              replace HR_ := Lib.hid (kx_own HR_.out HKP.out (fun b hb => ⟨(own_lt HR_.out b hb).2, by have h1 := HRB.out b hb; simp; omega⟩))
              have HKX2 : Hid (Rk.Keeps (KX wo.heap.size [qc]) wo wr) := Lib.hid (HKX.out.trans (kx_more HKP.out HKX.out.size (fun x hx => .inr (by have h1 := List.mem_singleton.1 hx; have h2 := HBM.out; omega))))
              clear hkp hmr
              have fk : decide ((k : Int) < 0) = false := decide_eq_false (by omega)
              have HMF := Lib.hid (show P.rowOf n (mvK (X &&& P.places 0 g.owner g.owner.length) c1 k) = P.rowOf n (mvF g 0 X c1) from mvK_all HN.out hmany (by have := HLL.out; omega))
              have HRW : Hid (ROWS wr w.heap.size n g 0 X c1 (.slice ra (P.lst X).length rk) bm) := Lib.hid ⟨HR_.out, by rw [← HMF.out]; exact HMR.out, HRB.out⟩
              go_wp2_with fail
              go_roundw
              case rel => exact ⟨1, by omega, by first | rfl | go_num, .inr (.inl ⟨rfl, _, bm, BQc.out, HRW.out⟩), HS.out, BQg.out, BQr.out, BQ7.out, W.out⟩
              case measure => simp [intOf]
          · obtain ⟨bl, rfl, hlo, hbl, hcl⟩ := hl8.resolve_left hnil
            have HLC := Lib.hid hcl
            have HBL : Hid (bl < we.heap.size ∧ bl ∉ [bm]) := Lib.hid ⟨hbl, by have h1 := HWE.out; simp; omega⟩
            clear hl8 hln hnil hlo hbl hcl
            go_wp2_with fail
            go_loopw [53] (fun iv wq => ∃ k : Nat, k ≤ ln ∧ iv = .int .i64 (k : Int) ∧ Rk.Keeps (KX we.heap.size [bm]) we wq ∧ wq.ownsRow w.heap.size 3 1 (.slice (some ⟨bm, 0, none⟩) n n) n ((P.rowOf n (mvK (X &&& P.places 0 g.owner g.owner.length) c1 k)).map (Value.int .i64))) (fun iv _ => ln - (intOf iv).toNat)
            case atStart => exact ⟨0, Nat.zero_le _, rfl, Rk.Keeps.refl _ _, by rw [mvK_zero]; exact HM.out⟩
            case round =>
              obtain ⟨k, hk, rfl, hkp, hmr⟩ := hrel
              have HKP := Lib.hid hkp
              have HMR := Lib.hid hmr
              have hk0 : (0 : Int) ≤ (k : Int) := Int.natCast_nonneg _
              have NB : Hid (qg ≠ bm ∧ qr ≠ bm ∧ q7 ≠ bm ∧ qc ≠ bm ∧ qs ≠ bm ∧ pc ≠ bm) := Lib.hid (by have h1 := HBM.out; have h2 := HQW.out; omega)
              replace BQg := Lib.hid (kx_box HKP.out BQg.out BQg.out.lt (by simp [NB.out.1]))
              replace BQr := Lib.hid (kx_box HKP.out BQr.out BQr.out.lt (by simp [NB.out.2.1]))
              replace BQ7 := Lib.hid (kx_box HKP.out BQ7.out BQ7.out.lt (by simp [NB.out.2.2.1]))
              replace BQc := Lib.hid (kx_box HKP.out BQc.out BQc.out.lt (by simp [NB.out.2.2.2.1]))
              replace W := Lib.hid (W.out.trans (kx_below HKP.out (fun x hx => by have h1 := List.mem_singleton.1 hx; have h2 := HBM.out; have h3 := HLW.out; omega) W.out.size (Nat.le_refl _)))
              replace HS : Hid (Sl w wr qs pc n n (.slice (some ⟨ba, oa, none⟩) n ka) (.slice (some ⟨bb, ob, none⟩) n kb) (.slice (some ⟨bc_, oc, none⟩) n kc) c1 d1) := Lib.hid ⟨kx_box HKP.out HS.out.box HS.out.box.lt (by simp [NB.out.2.2.2.2.1]), kx_own HS.out.row HKP.out (fun b hb => by injection hb with hb; subst hb; exact ⟨HS.out.plo.2, by simp [NB.out.2.2.2.2.2]⟩), W.out, HS.out.lo⟩
              replace HR_ := Lib.hid (kx_own HR_.out HKP.out (fun b hb => ⟨(own_lt HR_.out b hb).2, by have h1 := HRB.out b hb; simp; omega⟩))
              have HKX2 : Hid (Rk.Keeps (KX wo.heap.size [qc]) wo wr) := Lib.hid (HKX.out.trans (kx_more HKP.out HKX.out.size (fun x hx => .inr (by have h1 := List.mem_singleton.1 hx; have h2 := HBM.out; omega))))
              clear hkp hmr
              by_cases hlt : k < ln
              · have fk : decide ((k : Int) < (ln : Int)) = true := decide_eq_true (by omega)
                have hki : (k : Int) < (ln : Int) := by omega
                have hc := kx_cell HKP.out (HLC.out k hlt) HBL.out.1 HBL.out.1 HBL.out.2
                obtain ⟨x, hx⟩ : ∃ x, (P.lst (X &&& P.places 0 g.owner g.owner.length)).getD k 0 = x := ⟨_, rfl⟩
                rw [hx] at hc
                have hmem : x ∈ P.lst (X &&& P.places 0 g.owner g.owner.length) := by rw [← hx, List.getD_eq_getElem?_getD, List.getElem?_eq_getElem (by rw [HLL.out]; exact hlt)]; exact List.getElem_mem _
                have hxn : x < n := by
                  have h1 := (P.mem_lst _ _).1 hmem
                  rw [BitVec.getLsbD_and, Bool.and_eq_true] at h1
                  exact HXY.out.1 x h1.1
                have HX := Lib.hid hx
                have hx0 : (0 : Int) ≤ (x : Int) := Int.natCast_nonneg _
                have hxi : (x : Int) < (n : Int) := by omega
                clear hx hmem
                obtain ⟨y, hy⟩ : ∃ y, c1.getD x (-1) = y := ⟨_, rfl⟩
                have HYC := Lib.hid (show wr.cell? ⟨pc, x, none⟩ = some (.int .i64 y) by rw [← hy]; exact (HS.out.cellc hxn).1)
                have HMS := Lib.hid (show P.rowOf n (mvK (X &&& P.places 0 g.owner g.owner.length) c1 (k + 1)) = (P.rowOf n (mvK (X &&& P.places 0 g.owner g.owner.length) c1 k)).set x y from by rw [← hy, ← HX.out]; exact mvK_set (by rw [HLL.out]; exact hlt))
                clear hy
                go_wp2_with fail
                clear hc
                go_upto_region 15 with (fail)
                refine Rt.wp_region_tail 1 (fun idx => match idx with | 0 => (fun v _ _ => v = (.int .i64 0)) | 1 => (fun v _ _ => v = (.pointer (some ⟨qc, 2, none⟩))) | 2 => (fun v _ _ => v = (.pointer (some ⟨qc, 2, none⟩))) | 3 => (fun v _ _ => v = (.slice (some ⟨bm, 0, none⟩) n n)) | 4 => (fun v _ _ => v = (.int .i64 (x : Int))) | 5 => (fun v _ _ => v = (.pointer (some ⟨qs, 3, none⟩))) | 6 => (fun v _ _ => v = (.slice (some ⟨pc, 0, none⟩) n n)) | 7 => (fun v _ _ => v = (.int .i64 (x : Int))) | 8 => (fun v _ _ => v = (.pointer (some ⟨pc, x, none⟩))) | 9 => (fun v _ _ => v = (.int .i64 y)) | 10 => (fun v _ _ => v = (.pointer (some ⟨bm, x, none⟩))) | _ => fun _ _ _ => True) (fun _ _ _ _ => True) (Rk.allK) 99 (by kernel_rfl) (by rfl) (by kernel_rfl) (by rfl) ?_ ?_ ?_ ?_
                · refine ⟨?_, ?_, ?_, ?_, ?_, ?_, ?_, ?_, ?_, ?_, ?_, trivial⟩
                  · intro A w' K vals h hn hT hgk hK0
                    have r0 : A.tmps[9]?.getD undef = .int .i64 0 := Rg.slot h.1
                    clear h hn hT hgk
                    simp [Oper.wp, execOp, go_sem, r0]
                    exact hK0 _ _ (Rk.Keeps.refl _ _) rfl trivial
                  · intro A w' K vals h hn hT hgk hK0
                    have r0 : A.tmps[8]?.getD undef = .pointer (some ⟨qc, 0, none⟩) := Rg.slot h.1
                    clear h hn hT hgk
                    simp [Oper.wp, execOp, go_sem, r0]
                    exact hK0 _ _ (Rk.Keeps.refl _ _) rfl trivial
                  · intro A w' K vals h hn hT hgk hK0
                    have r0 : A.tmps[58]?.getD undef = vals 1 := Rg.slot h.1
                    have s0 : vals 1 = (.pointer (some ⟨qc, 2, none⟩)) := hn.1
                    have r1 : A.tmps[57]?.getD undef = vals 0 := Rg.slot h.2.1
                    have s1 : vals 0 = (.int .i64 0) := hn.2.1
                    clear h hn hT hgk
                    simp [Oper.wp, execOp, go_sem, r0, r1, s0, s1]
                    exact hK0 _ _ (Rk.Keeps.refl _ _) rfl trivial
                  · intro A w' K vals h hn hT hgk hK0
                    have r0 : A.tmps[59]?.getD undef = vals 2 := Rg.slot (h.1)
                    have r1 : vals 2 = (.pointer (some ⟨qc, 2, none⟩)) := hn.1
                    have c : w'.cell? ⟨qc, 2, none⟩ = some (.slice (some ⟨bm, 0, none⟩) n n) := (BQc.out.keep (Rk.grown_of hgk)).cell 2 _ rfl
                    clear h hn hT hgk
                    simp [Oper.wp, execOp, go_sem, r0, r1, c]
                    exact hK0 _ _ (Rk.Keeps.refl _ _) rfl trivial
                  · intro A w' K vals h hn hT hgk hK0
                    have r0 : A.tmps[11]?.getD undef = .int .i64 (x : Int) := Rg.slot h.1
                    clear h hn hT hgk
                    simp [Oper.wp, execOp, go_sem, r0]
                    exact hK0 _ _ (Rk.Keeps.refl _ _) rfl trivial
                  · intro A w' K vals h hn hT hgk hK0
                    have r0 : A.tmps[6]?.getD undef = .pointer (some ⟨qs, 0, none⟩) := Rg.slot h.1
                    clear h hn hT hgk
                    simp [Oper.wp, execOp, go_sem, r0]
                    exact hK0 _ _ (Rk.Keeps.refl _ _) rfl trivial
                  · intro A w' K vals h hn hT hgk hK0
                    have r0 : A.tmps[62]?.getD undef = vals 5 := Rg.slot (h.1)
                    have r1 : vals 5 = (.pointer (some ⟨qs, 3, none⟩)) := hn.1
                    have c : w'.cell? ⟨qs, 3, none⟩ = some (.slice (some ⟨pc, 0, none⟩) n n) := (HS.out.box.keep (Rk.grown_of hgk)).cell 3 _ rfl
                    clear h hn hT hgk
                    simp [Oper.wp, execOp, go_sem, r0, r1, c]
                    exact hK0 _ _ (Rk.Keeps.refl _ _) rfl trivial
                  · intro A w' K vals h hn hT hgk hK0
                    have r0 : A.tmps[11]?.getD undef = .int .i64 (x : Int) := Rg.slot h.1
                    clear h hn hT hgk
                    simp [Oper.wp, execOp, go_sem, r0]
                    exact hK0 _ _ (Rk.Keeps.refl _ _) rfl trivial
                  · intro A w' K vals h hn hT hgk hK0
                    have r0 : A.tmps[63]?.getD undef = vals 6 := Rg.slot h.1
                    have s0 : vals 6 = (.slice (some ⟨pc, 0, none⟩) n n) := hn.1
                    have r1 : A.tmps[64]?.getD undef = vals 7 := Rg.slot h.2.1
                    have s1 : vals 7 = (.int .i64 (x : Int)) := hn.2.1
                    clear h hn hT hgk
                    simp [Oper.wp, execOp, go_sem, r0, r1, s0, s1, hxi, hx0]
                    exact hK0 _ _ (Rk.Keeps.refl _ _) rfl trivial
                  · intro A w' K vals h hn hT hgk hK0
                    have r0 : A.tmps[65]?.getD undef = vals 8 := Rg.slot (h.1)
                    have r1 : vals 8 = (.pointer (some ⟨pc, x, none⟩)) := hn.1
                    have c : w'.cell? ⟨pc, x, none⟩ = some (.int .i64 y) := (Rk.grown_of hgk).cell HYC.out (by simp)
                    clear h hn hT hgk
                    simp [Oper.wp, execOp, go_sem, r0, r1, c]
                    exact hK0 _ _ (Rk.Keeps.refl _ _) rfl trivial
                  · intro A w' K vals h hn hT hgk hK0
                    have r0 : A.tmps[60]?.getD undef = vals 3 := Rg.slot h.1
                    have s0 : vals 3 = (.slice (some ⟨bm, 0, none⟩) n n) := hn.1
                    have r1 : A.tmps[61]?.getD undef = vals 4 := Rg.slot h.2.1
                    have s1 : vals 4 = (.int .i64 (x : Int)) := hn.2.1
                    clear h hn hT hgk
                    simp [Oper.wp, execOp, go_sem, r0, r1, s0, s1, hxi, hx0]
                    exact hK0 _ _ (Rk.Keeps.refl _ _) rfl trivial
                · refine ⟨?_, ?_, ?_, ?_, ?_, ?_, ?_, ?_, ?_, ?_, ?_, trivial⟩
                  · exact fun _ _ _ _ _ _ h => h
                  · exact fun _ _ _ _ _ _ h => h
                  · exact fun _ _ _ _ _ _ h => h
                  · exact fun _ _ _ _ _ _ h => h
                  · exact fun _ _ _ _ _ _ h => h
                  · exact fun _ _ _ _ _ _ h => h
                  · exact fun _ _ _ _ _ _ h => h
                  · exact fun _ _ _ _ _ _ h => h
                  · exact fun _ _ _ _ _ _ h => h
                  · exact fun _ _ _ _ _ _ h => h
                  · exact fun _ _ _ _ _ _ h => h
                · exact fun _ _ _ _ _ _ h => h
                · intro vals w8 G hgk hS hG
                  have s9 : vals 9 = (.int .i64 y) := hS.2.2.2.2.2.2.2.2.2.1
                  have s10 : vals 10 = (.pointer (some ⟨bm, x, none⟩)) := hS.2.2.2.2.2.2.2.2.2.2.1
                  clear hS
                  have hb := below_of_grown (Rk.grown_of hgk)
                  have HKP8 := Lib.hid (HKP.out.trans (kx_more (kx_below_of (N := w8.heap.size) (X := [bm]) hb) (by have h1 := HKP.out.size; have h2 := hb.size; omega) (fun x hx => .inl hx)))
                  have HMR8 := Lib.hid (own_grown HMR.out (grown_of_below hb none))
                  clear hb hgk
                  refine hG ?_
                  clear hG
                  simp only [List.take, List.drop, List.length, Nat.reduceSub, Nat.reduceAdd, Rg.putAll, Act.put, List.setIfInBounds_toArray, List.set_cons_succ, List.set_cons_zero, s9, s10]
                  clear s9 s10
                  have cm := HMR8.out.cellAt x (by omega)
                  obtain ⟨mo, hmo⟩ : ∃ u, w8.cell? ⟨bm, x, none⟩ = some u := ⟨_, cm.trans (List.getElem?_eq_getElem (by rw [HMR8.out.1]; omega))⟩
                  have fm := HMR8.out.frozenAt x
                  clear cm
                  have HMR9 := Lib.hid (show (w8.setCell ⟨bm, x, none⟩ (.int .i64 y)).ownsRow w.heap.size 3 1 (.slice (some ⟨bm, 0, none⟩) n n) n ((P.rowOf n (mvK (X &&& P.places 0 g.owner g.owner.length) c1 (k + 1))).map (Value.int .i64)) by rw [HMS.out, List.map_set]; exact (HMR8.out.stored x (.int .i64 y)).1)
                  have HKP9 := Lib.hid (HKP8.out.trans (kx_set (X := [bm]) (x := bm) w8 (.inl (by simp)) x (.int .i64 y)))
                  go_wp2_with fail
                  clear hmo fm
                  go_roundw
                  case rel => exact ⟨k + 1, by omega, by first | rfl | go_num, HKP9.out, HMR9.out⟩
                  case measure => simp [intOf]; omega
              · have fk : decide ((k : Int) < (ln : Int)) = false := decide_eq_false (by omega)
                have HMF := Lib.hid (show P.rowOf n (mvK (X &&& P.places 0 g.owner g.owner.length) c1 k) = P.rowOf n (mvF g 0 X c1) from mvK_all HN.out hmany (by have := HLL.out; omega))
                have HRW : Hid (ROWS wr w.heap.size n g 0 X c1 (.slice ra (P.lst X).length rk) bm) := Lib.hid ⟨HR_.out, by rw [← HMF.out]; exact HMR.out, HRB.out⟩
                go_wp2_with fail
                go_roundw
                case rel => exact ⟨1, by omega, by first | rfl | go_num, .inr (.inl ⟨rfl, _, bm, BQc.out, HRW.out⟩), HS.out, BQg.out, BQr.out, BQ7.out, W.out⟩
                case measure => simp [intOf]
      · have BQc := Lib.hid hbc
        clear hbc hk
        obtain ⟨wo, hwo⟩ : ∃ wo : World, wo = wr := ⟨_, rfl⟩
        rw [← hwo] at HS BQg BQr BQ7 BQc W ⊢
        have HKX : Hid (Rk.Keeps (KX wo.heap.size [qc]) wo wo) := Lib.hid (Rk.Keeps.refl _ _)
        have HQO := Lib.hid BQc.out
        rw [← hwo] at hrow0
        have HROW0 := Lib.hid hrow0
        have HB0 := Lib.hid (show b0 < wo.heap.size from (own_lt hrow0.2.1 b0 rfl).2)
        clear hrow0
        clear hwo
        have HQW : Hid (qg < wo.heap.size ∧ qr < wo.heap.size ∧ q7 < wo.heap.size ∧ qc < wo.heap.size ∧ qs < wo.heap.size ∧ pc < wo.heap.size) := Lib.hid ⟨BQg.out.lt, BQr.out.lt, BQ7.out.lt, BQc.out.lt, HS.out.box.lt, HS.out.plo.2⟩
        have HLW := Lib.hid W.out.size
        have hbb := BQ7.out
        have pc0 : wo.cell? ⟨q7, 0, none⟩ = some (.int .u64 (P.wrd X 0)) := hbb.cell 0 _ rfl
        have pc1 : wo.cell? ⟨q7, 1, none⟩ = some (.int .u64 (P.wrd X 1)) := hbb.cell 1 _ rfl
        have pc2 : wo.cell? ⟨q7, 2, none⟩ = some (.int .u64 (P.wrd X 2)) := hbb.cell 2 _ rfl
        have pc3 : wo.cell? ⟨q7, 3, none⟩ = some (.int .u64 (P.wrd X 3)) := hbb.cell 3 _ rfl
        have pc4 : wo.cell? ⟨q7, 4, none⟩ = some (.int .u64 (P.wrd Y 0)) := hbb.cell 4 _ rfl
        have pc5 : wo.cell? ⟨q7, 5, none⟩ = some (.int .u64 (P.wrd Y 1)) := hbb.cell 5 _ rfl
        have pc6 : wo.cell? ⟨q7, 6, none⟩ = some (.int .u64 (P.wrd Y 2)) := hbb.cell 6 _ rfl
        have pc7 : wo.cell? ⟨q7, 7, none⟩ = some (.int .u64 (P.wrd Y 3)) := hbb.cell 7 _ rfl
        clear hbb
        go_wp2_with fail
        clear pc0 pc1 pc2 pc3 pc4 pc5 pc6 pc7
        refine (list_any Y wo (T.out.on W.out)).mono ?_
        rintro e wa ⟨lv, rfl, hown, hb⟩
        obtain ⟨ra, rk, rfl, -⟩ := own_at hown
        have HR_ := Lib.hid (show wa.ownsRow w.heap.size 3 1 (.slice ra (P.lst Y).length rk) (P.lst Y).length ((lstI Y).map (Value.int .i64)) by rw [lstI_vals]; exact own_more hown W.out.size)
        have HRL := Lib.hid (own_lt hown)
        replace HS := Lib.hid (HS.out.on hb)
        replace W := Lib.hid (W.out.trans (hb.mono W.out.size))
        replace HKX := Lib.hid (HKX.out.trans (kx_below_of hb |> fun k => kx_more k HKX.out.size (fun x hx => .inl hx)))
        replace BQg := Lib.hid (BQg.out.keep (grown_of_below hb none))
        replace BQr := Lib.hid (BQr.out.keep (grown_of_below hb none))
        replace BQ7 := Lib.hid (BQ7.out.keep (grown_of_below hb none))
        replace BQc := Lib.hid (BQc.out.keep (grown_of_below hb none))
        clear hb hown
        have hbo := BQc.out
        have cc0 : wa.cell? ⟨qc, 0, none⟩ = some r0 := hbo.cell 0 _ rfl
        have cc1 : wa.cell? ⟨qc, 1, none⟩ = some (.slice none 0 0) := hbo.cell 1 _ rfl
        have cc2 : wa.cell? ⟨qc, 2, none⟩ = some (.slice (some ⟨b0, 0, none⟩) n n) := hbo.cell 2 _ rfl
        have cc3 : wa.cell? ⟨qc, 3, none⟩ = some (.slice none 0 0) := hbo.cell 3 _ rfl
        have cf0 : wa.frozen? ⟨qc, 0, none⟩ = false := hbo.frozen 0
        have cf1 : wa.frozen? ⟨qc, 1, none⟩ = false := hbo.frozen 1
        have cf2 : wa.frozen? ⟨qc, 2, none⟩ = false := hbo.frozen 2
        have cf3 : wa.frozen? ⟨qc, 3, none⟩ = false := hbo.frozen 3
        clear hbo
        have BZ : Box (wa.setCell ⟨qc, 1, none⟩ (.slice ra (P.lst Y).length rk)) qc 32 #[r0, .slice ra (P.lst Y).length rk, .slice (some ⟨b0, 0, none⟩) n n, .slice none 0 0] := BQc.out.set 1 (.slice ra (P.lst Y).length rk)
        have hko : Rk.Keeps (KN [qc]) wa (wa.setCell ⟨qc, 1, none⟩ (.slice ra (P.lst Y).length rk)) := kn_set _ _ _ _
        have hkx : Rk.Keeps (KX wo.heap.size [qc]) wa (wa.setCell ⟨qc, 1, none⟩ (.slice ra (P.lst Y).length rk)) := kx_set _ (.inl (by simp)) _ _
        replace HS := Lib.hid (HS.out.kn hko NQc.out.1.symm NQc.out.2.symm (by have h1 := LEg.out; have h2 := LTgr.out; have h3 := Lq7.out; have h4 := Lqc.out; omega))
        replace W := Lib.hid (W.out.trans (kn_below hko (by have h1 := LEg.out; have h2 := LTgr.out; have h3 := Lq7.out; have h4 := Lqc.out; omega) W.out.size))
        replace BQg := Lib.hid (kn_box hko BQg.out (by have hne : qg ≠ qc := (by have h1 := LEg.out; have h2 := LTgr.out; have h3 := Lq7.out; have h4 := Lqc.out; omega); simp [hne]))
        replace BQr := Lib.hid (kn_box hko BQr.out (by have hne : qr ≠ qc := (by have h1 := LEg.out; have h2 := LTgr.out; have h3 := Lq7.out; have h4 := Lqc.out; omega); simp [hne]))
        replace BQ7 := Lib.hid (kn_box hko BQ7.out (by have hne : q7 ≠ qc := (by have h1 := LEg.out; have h2 := LTgr.out; have h3 := Lq7.out; have h4 := Lqc.out; omega); simp [hne]))
        replace HKX := Lib.hid (HKX.out.trans hkx)
        replace HR_ := Lib.hid (kn_own HR_.out hko (fun e => own_box HR_.out BQc.out (by decide) e))
        replace BQc := Lib.hid BZ
        clear hko hkx BZ
        go_upto_region 11 with (fail)
        clear cc0 cc1 cc2 cc3 cf0 cf1 cf2 cf3
        generalize (wa.setCell ⟨qc, 1, none⟩ (.slice ra (P.lst Y).length rk)) = wb at HS W HKX BQg BQr BQ7 BQc HR_ ⊢
        have hbb := BQg.out
        have gc0 : wb.cell? ⟨qg, 0, none⟩ = some (.slice (some ⟨ba, oa, none⟩) n ka) := hbb.cell 0 _ rfl
        have gc1 : wb.cell? ⟨qg, 1, none⟩ = some (.slice (some ⟨bb, ob, none⟩) n kb) := hbb.cell 1 _ rfl
        have gc2 : wb.cell? ⟨qg, 2, none⟩ = some (.slice (some ⟨bc_, oc, none⟩) n kc) := hbb.cell 2 _ rfl
        clear hbb
        go_wp2_with fail
        clear gc0 gc1 gc2
        refine (filled_any n hmany wb).mono ?_
        rintro e wc ⟨bm, rfl, ho, hb⟩
        have HM := Lib.hid (show wc.ownsRow w.heap.size 3 1 (.slice (some ⟨bm, 0, none⟩) n n) n ((P.rowOf n (fun _ => -1)).map (Value.int .i64)) by unfold OwnI at ho; rw [P.rowOf_len] at ho; exact own_more ho W.out.size)
        have HBM : Hid (wo.heap.size ≤ bm ∧ wb.heap.size ≤ bm) := Lib.hid ⟨Nat.le_trans HKX.out.size (own_lt ho bm rfl).1, (own_lt ho bm rfl).1⟩
        have HRB := Lib.hid (show ∀ x, (.slice ra (P.lst Y).length rk : Value).ownBlock = some x → x < bm from fun x hx => Nat.lt_of_lt_of_le (own_lt HR_.out x hx).2 HBM.out.2)
        replace HS := Lib.hid (HS.out.on hb)
        replace W := Lib.hid (W.out.trans (hb.mono W.out.size))
        replace HKX := Lib.hid (HKX.out.trans (kx_below_of hb |> fun k => kx_more k HKX.out.size (fun x hx => .inl hx)))
        replace BQg := Lib.hid (BQg.out.keep (grown_of_below hb none))
        replace BQr := Lib.hid (BQr.out.keep (grown_of_below hb none))
        replace BQ7 := Lib.hid (BQ7.out.keep (grown_of_below hb none))
        replace BQc := Lib.hid (BQc.out.keep (grown_of_below hb none))
        replace HR_ := Lib.hid (own_grown HR_.out (grown_of_below hb none))
        clear hb ho
        have hbo := BQc.out
        have cc0 : wc.cell? ⟨qc, 0, none⟩ = some r0 := hbo.cell 0 _ rfl
        have cc1 : wc.cell? ⟨qc, 1, none⟩ = some (.slice ra (P.lst Y).length rk) := hbo.cell 1 _ rfl
        have cc2 : wc.cell? ⟨qc, 2, none⟩ = some (.slice (some ⟨b0, 0, none⟩) n n) := hbo.cell 2 _ rfl
        have cc3 : wc.cell? ⟨qc, 3, none⟩ = some (.slice none 0 0) := hbo.cell 3 _ rfl
        have cf0 : wc.frozen? ⟨qc, 0, none⟩ = false := hbo.frozen 0
        have cf1 : wc.frozen? ⟨qc, 1, none⟩ = false := hbo.frozen 1
        have cf2 : wc.frozen? ⟨qc, 2, none⟩ = false := hbo.frozen 2
        have cf3 : wc.frozen? ⟨qc, 3, none⟩ = false := hbo.frozen 3
        clear hbo
        have BZ : Box (wc.setCell ⟨qc, 3, none⟩ (.slice (some ⟨bm, 0, none⟩) n n)) qc 32 #[r0, .slice ra (P.lst Y).length rk, .slice (some ⟨b0, 0, none⟩) n n, .slice (some ⟨bm, 0, none⟩) n n] := BQc.out.set 3 (.slice (some ⟨bm, 0, none⟩) n n)
        have hko : Rk.Keeps (KN [qc]) wc (wc.setCell ⟨qc, 3, none⟩ (.slice (some ⟨bm, 0, none⟩) n n)) := kn_set _ _ _ _
        have hkx : Rk.Keeps (KX wo.heap.size [qc]) wc (wc.setCell ⟨qc, 3, none⟩ (.slice (some ⟨bm, 0, none⟩) n n)) := kx_set _ (.inl (by simp)) _ _
        replace HS := Lib.hid (HS.out.kn hko NQc.out.1.symm NQc.out.2.symm (by have h1 := LEg.out; have h2 := LTgr.out; have h3 := Lq7.out; have h4 := Lqc.out; omega))
        replace W := Lib.hid (W.out.trans (kn_below hko (by have h1 := LEg.out; have h2 := LTgr.out; have h3 := Lq7.out; have h4 := Lqc.out; omega) W.out.size))
        replace BQg := Lib.hid (kn_box hko BQg.out (by have hne : qg ≠ qc := (by have h1 := LEg.out; have h2 := LTgr.out; have h3 := Lq7.out; have h4 := Lqc.out; omega); simp [hne]))
        replace BQr := Lib.hid (kn_box hko BQr.out (by have hne : qr ≠ qc := (by have h1 := LEg.out; have h2 := LTgr.out; have h3 := Lq7.out; have h4 := Lqc.out; omega); simp [hne]))
        replace BQ7 := Lib.hid (kn_box hko BQ7.out (by have hne : q7 ≠ qc := (by have h1 := LEg.out; have h2 := LTgr.out; have h3 := Lq7.out; have h4 := Lqc.out; omega); simp [hne]))
        replace HKX := Lib.hid (HKX.out.trans hkx)
        replace HR_ := Lib.hid (kn_own HR_.out hko (fun e => own_box HR_.out BQc.out (by decide) e))
        replace HM := Lib.hid (kn_own HM.out hko (fun e => own_box HM.out BQc.out (by decide) e))
        replace BQc := Lib.hid BZ
        clear hko hkx BZ
        go_upto_region 12 with (fail)
        clear cc0 cc1 cc2 cc3 cf0 cf1 cf2 cf3
        generalize (wc.setCell ⟨qc, 3, none⟩ (.slice (some ⟨bm, 0, none⟩) n n)) = wd at HS W HKX BQg BQr BQ7 BQc HR_ HM ⊢
        refine Rz.wp_region (fun idx => match idx with | 0 => (fun v _ _ => v = (.int .i64 1)) | 1 => (fun v _ _ => v = (.pointer (some ⟨q7, 4, none⟩))) | 2 => (fun v _ _ => v = .agg #[.int .u64 (P.wrd Y 0), .int .u64 (P.wrd Y 1), .int .u64 (P.wrd Y 2), .int .u64 (P.wrd Y 3)]) | 3 => (fun v _ _ => v = .agg #[.slice (some ⟨ba, oa, none⟩) n ka, .slice (some ⟨bb, ob, none⟩) n kb, .slice (some ⟨bc_, oc, none⟩) n kc]) | 4 => (fun v _ _ => v = (.int .i64 1)) | 5 => (fun v _ _ => v = .agg #[.int .u64 (P.wrd (P.places 1 g.owner g.owner.length) 0), .int .u64 (P.wrd (P.places 1 g.owner g.owner.length) 1), .int .u64 (P.wrd (P.places 1 g.owner g.owner.length) 2), .int .u64 (P.wrd (P.places 1 g.owner g.owner.length) 3)]) | 6 => (fun v _ _ => v = .agg #[.int .u64 (P.wrd (Y &&& P.places 1 g.owner g.owner.length) 0), .int .u64 (P.wrd (Y &&& P.places 1 g.owner g.owner.length) 1), .int .u64 (P.wrd (Y &&& P.places 1 g.owner g.owner.length) 2), .int .u64 (P.wrd (Y &&& P.places 1 g.owner g.owner.length) 3)]) | 7 => (fun v _ w' => (∃ ao kl, v = .slice ao (P.lst (Y &&& P.places 1 g.owner g.owner.length)).length kl ∧ (P.lst (Y &&& P.places 1 g.owner g.owner.length) = [] ∨ ∃ b, ao = some ⟨b, 0, none⟩ ∧ wd.heap.size ≤ b ∧ b < w'.heap.size ∧ ∀ j, j < (P.lst (Y &&& P.places 1 g.owner g.owner.length)).length → w'.cell? ⟨b, j, none⟩ = some (.int .i64 (((P.lst (Y &&& P.places 1 g.owner g.owner.length)).getD j 0 : Nat) : Int))))) | 8 => (fun v _ _ => v = .int .i64 (((P.lst (Y &&& P.places 1 g.owner g.owner.length)).length : Nat) : Int)) | 9 => (fun v _ _ => v = (.int .i64 0)) | _ => fun _ _ _ => True) (fun _ _ _ _ => True) (Rk.allK) 99 (by kernel_rfl) (by kernel_rfl) (by rfl) ?_ ?_ ?_ ?_
        · refine ⟨?_, ?_, ?_, ?_, ?_, ?_, ?_, ?_, ?_, ?_, trivial⟩
          · intro A w' K vals h hn hT hgk hK0
            have r0 : A.tmps[9]?.getD undef = .int .i64 1 := Rg.slot h.1
            clear h hn hT hgk
            simp [Oper.wp, execOp, go_sem, r0]
            exact hK0 _ _ (Rk.Keeps.refl _ _) rfl trivial
          · intro A w' K vals h hn hT hgk hK0
            have r0 : A.tmps[7]?.getD undef = .pointer (some ⟨q7, 0, none⟩) := Rg.slot h.1
            have r1 : A.tmps[44]?.getD undef = vals 0 := Rg.slot h.2.1
            have s1 : vals 0 = (.int .i64 1) := hn.1
            clear h hn hT hgk
            simp [Oper.wp, execOp, go_sem, r0, r1, s1]
            exact hK0 _ _ (Rk.Keeps.refl _ _) rfl trivial
          · intro A w' K vals h hn hT hgk hK0
            have r0 : A.tmps[45]?.getD undef = vals 1 := Rg.slot h.1
            have r1 : vals 1 = (.pointer (some ⟨q7, 4, none⟩)) := hn.1
            have bs := BQ7.out.keep (Rk.grown_of hgk)
            have cc0 : w'.cell? ⟨q7, 0, none⟩ = some (.int .u64 (P.wrd X 0)) := bs.cell 0 _ rfl
            have cc1 : w'.cell? ⟨q7, 1, none⟩ = some (.int .u64 (P.wrd X 1)) := bs.cell 1 _ rfl
            have cc2 : w'.cell? ⟨q7, 2, none⟩ = some (.int .u64 (P.wrd X 2)) := bs.cell 2 _ rfl
            have cc3 : w'.cell? ⟨q7, 3, none⟩ = some (.int .u64 (P.wrd X 3)) := bs.cell 3 _ rfl
            have cc4 : w'.cell? ⟨q7, 4, none⟩ = some (.int .u64 (P.wrd Y 0)) := bs.cell 4 _ rfl
            have cc5 : w'.cell? ⟨q7, 5, none⟩ = some (.int .u64 (P.wrd Y 1)) := bs.cell 5 _ rfl
            have cc6 : w'.cell? ⟨q7, 6, none⟩ = some (.int .u64 (P.wrd Y 2)) := bs.cell 6 _ rfl
            have cc7 : w'.cell? ⟨q7, 7, none⟩ = some (.int .u64 (P.wrd Y 3)) := bs.cell 7 _ rfl
            clear h hn hT hgk bs
            simp [Oper.wp, execOp, go_sem, r0, r1, cc4, cc5, cc6, cc7]
            exact hK0 _ _ (Rk.Keeps.refl _ _) rfl trivial
          · intro A w' K vals h hn hT hgk hK0
            have r0 : A.tmps[1]?.getD undef = (.pointer (some ⟨qg, 0, none⟩)) := Rg.slot h.1
            have bs := BQg.out.keep (Rk.grown_of hgk)
            have cc0 : w'.cell? ⟨qg, 0, none⟩ = some (.slice (some ⟨ba, oa, none⟩) n ka) := bs.cell 0 _ rfl
            have cc1 : w'.cell? ⟨qg, 1, none⟩ = some (.slice (some ⟨bb, ob, none⟩) n kb) := bs.cell 1 _ rfl
            have cc2 : w'.cell? ⟨qg, 2, none⟩ = some (.slice (some ⟨bc_, oc, none⟩) n kc) := bs.cell 2 _ rfl
            clear h hn hT hgk bs
            simp [Oper.wp, execOp, go_sem, r0, cc0, cc1, cc2]
            exact hK0 _ _ (Rk.Keeps.refl _ _) rfl trivial
          · intro A w' K vals h hn hT hgk hK0
            have r0 : A.tmps[9]?.getD undef = .int .i64 1 := Rg.slot h.1
            clear h hn hT hgk
            simp [Oper.wp, execOp, go_sem, r0]
            exact hK0 _ _ (Rk.Keeps.refl _ _) rfl trivial
          · intro A w' K vals h hn hT hgk hK0
            have r0 : A.tmps[47]?.getD undef = vals 3 := Rg.slot h.2.1
            have r1 : A.tmps[48]?.getD undef = vals 4 := Rg.slot h.2.2.1
            have s0 : vals 3 = .agg #[.slice (some ⟨ba, oa, none⟩) n ka, .slice (some ⟨bb, ob, none⟩) n kb, .slice (some ⟨bc_, oc, none⟩) n kc] := hn.1
            have s1 : vals 4 = .int .i64 1 := hn.2.1
            have hb := W.out.trans ((below_of_grown (Rk.grown_of hgk)).mono W.out.size)
            clear h hn hT hgk
            simp [Oper.wp, go_sem, r0, r1, s0, s1]
            refine (own_any g _ 1 w' (HV.out.on hb)).mono ?_
            rintro e w'' ⟨rfl, hb⟩
            exact hK0 _ _ (Rk.keep_of (grown_of_below hb _)) rfl trivial
          · intro A w' K vals h hn hT hgk hK0
            have r0 : A.tmps[46]?.getD undef = vals 2 := Rg.slot h.2.1
            have r1 : A.tmps[49]?.getD undef = vals 5 := Rg.slot h.2.2.1
            have s0 : vals 2 = .agg #[.int .u64 (P.wrd Y 0), .int .u64 (P.wrd Y 1), .int .u64 (P.wrd Y 2), .int .u64 (P.wrd Y 3)] := hn.1
            have s1 : vals 5 = .agg #[.int .u64 (P.wrd (P.places 1 g.owner g.owner.length) 0), .int .u64 (P.wrd (P.places 1 g.owner g.owner.length) 1), .int .u64 (P.wrd (P.places 1 g.owner g.owner.length) 2), .int .u64 (P.wrd (P.places 1 g.owner g.owner.length) 3)] := hn.2.1
            clear h hn hT hgk
            simp [Oper.wp, go_sem, r0, r1, s0, s1]
            refine (and_any _ _ w').mono ?_
            rintro e w'' ⟨rfl, hb⟩
            exact hK0 _ _ (Rk.keep_of (grown_of_below hb _)) rfl trivial
          · intro A w' K vals h hn hT hgk hK0
            have r0 : A.tmps[50]?.getD undef = vals 6 := Rg.slot h.2.1
            have s0 : vals 6 = .agg #[.int .u64 (P.wrd (Y &&& P.places 1 g.owner g.owner.length) 0), .int .u64 (P.wrd (Y &&& P.places 1 g.owner g.owner.length) 1), .int .u64 (P.wrd (Y &&& P.places 1 g.owner g.owner.length) 2), .int .u64 (P.wrd (Y &&& P.places 1 g.owner g.owner.length) 3)] := hn.1
            have hsz := hgk.size
            have hb := W.out.trans ((below_of_grown (Rk.grown_of hgk)).mono W.out.size)
            clear h hn hT hgk
            simp [Oper.wp, go_sem, r0, s0]
            refine (list_any (Y &&& P.places 1 g.owner g.owner.length) w' (T.out.on hb)).mono ?_
            rintro e w'' ⟨lv, rfl, hown, hb⟩
            exact hK0 _ _ (Rk.keep_of (grown_of_below hb _)) (lists_at hown hsz) trivial
          · intro A w' K vals h hn hT hgk hK0
            have r0 : A.tmps[51]?.getD undef = vals 7 := Rg.slot h.1
            obtain ⟨ao, kl, s0, -⟩ : (∃ ao kl, vals 7 = .slice ao (P.lst (Y &&& P.places 1 g.owner g.owner.length)).length kl ∧ (P.lst (Y &&& P.places 1 g.owner g.owner.length) = [] ∨ ∃ b, ao = some ⟨b, 0, none⟩ ∧ wd.heap.size ≤ b ∧ b < w'.heap.size ∧ ∀ j, j < (P.lst (Y &&& P.places 1 g.owner g.owner.length)).length → w'.cell? ⟨b, j, none⟩ = some (.int .i64 (((P.lst (Y &&& P.places 1 g.owner g.owner.length)).getD j 0 : Nat) : Int)))) := hn.1
            clear h hn hT hgk
            simp [Oper.wp, go_sem, r0, s0]
            exact hK0 _ _ (Rk.Keeps.refl _ _) rfl trivial
          · intro A w' K vals h hn hT hgk hK0
            clear h hn hT hgk
            simp [Oper.wp, execOp, go_sem]
            exact hK0 _ _ (Rk.Keeps.refl _ _) rfl trivial
        · refine ⟨?_, ?_, ?_, ?_, ?_, ?_, ?_, ?_, ?_, ?_, trivial⟩
          · exact fun _ _ _ _ _ _ h => h
          · exact fun _ _ _ _ _ _ h => h
          · exact fun _ _ _ _ _ _ h => h
          · exact fun _ _ _ _ _ _ h => h
          · exact fun _ _ _ _ _ _ h => h
          · exact fun _ _ _ _ _ _ h => h
          · exact fun _ _ _ _ _ _ h => h
          · exact fun _ _ _ _ _ h hl => by
              obtain ⟨ao, kl, h1, h2⟩ := hl
              refine ⟨ao, kl, h1, h2.imp id ?_⟩
              rintro ⟨b, h3, h4, h5, h6⟩
              exact ⟨b, h3, h4, Nat.lt_of_lt_of_le h5 h.size, fun j hj => (Rk.grown_of h).cell (h6 j hj) (by simp)⟩
          · exact fun _ _ _ _ _ _ h => h
          · exact fun _ _ _ _ _ _ h => h
        · exact fun _ _ _ _ _ _ h => h
        · intro vals we G hgk hS hG
          obtain ⟨ao, kl, s7, hl8⟩ : (∃ ao kl, vals 7 = .slice ao (P.lst (Y &&& P.places 1 g.owner g.owner.length)).length kl ∧ (P.lst (Y &&& P.places 1 g.owner g.owner.length) = [] ∨ ∃ b, ao = some ⟨b, 0, none⟩ ∧ wd.heap.size ≤ b ∧ b < we.heap.size ∧ ∀ j, j < (P.lst (Y &&& P.places 1 g.owner g.owner.length)).length → we.cell? ⟨b, j, none⟩ = some (.int .i64 (((P.lst (Y &&& P.places 1 g.owner g.owner.length)).getD j 0 : Nat) : Int)))) := hS.2.2.2.2.2.2.2.1
          have s8 : vals 8 = .int .i64 (((P.lst (Y &&& P.places 1 g.owner g.owner.length)).length : Nat) : Int) := hS.2.2.2.2.2.2.2.2.1
          have s9 : vals 9 = .int .i64 0 := hS.2.2.2.2.2.2.2.2.2.1
          clear hS
          have hb := below_of_grown (Rk.grown_of hgk)
          have HWE := Lib.hid (show bm < wd.heap.size from (own_lt HM.out bm rfl).2)
          replace HS := Lib.hid (HS.out.on hb)
          replace W := Lib.hid (W.out.trans (hb.mono W.out.size))
          replace HKX := Lib.hid (HKX.out.trans (kx_below_of hb |> fun k => kx_more k HKX.out.size (fun x hx => .inl hx)))
          replace BQg := Lib.hid (BQg.out.keep (grown_of_below hb none))
          replace BQr := Lib.hid (BQr.out.keep (grown_of_below hb none))
          replace BQ7 := Lib.hid (BQ7.out.keep (grown_of_below hb none))
          replace BQc := Lib.hid (BQc.out.keep (grown_of_below hb none))
          replace HR_ := Lib.hid (own_grown HR_.out (grown_of_below hb none))
          replace HM := Lib.hid (own_grown HM.out (grown_of_below hb none))
          clear hb hgk
          obtain ⟨ln, hln⟩ : ∃ k, (P.lst (Y &&& P.places 1 g.owner g.owner.length)).length = k := ⟨_, rfl⟩
          rw [hln] at s7 s8 hl8
          have HLL := Lib.hid hln
          have hl256 : ln ≤ 256 := by rw [← hln]; unfold P.lst; exact Nat.le_trans (List.length_filter_le _ _) (by simp)
          refine hG ?_
          clear hG
          simp only [Nat.reduceAdd, Rg.putAll, Act.put, List.setIfInBounds_toArray, List.set_cons_succ, List.set_cons_zero, s7, s8, s9]
          clear s7 s8 s9
          by_cases hnil : P.lst (Y &&& P.places 1 g.owner g.owner.length) = []
          · have hl0 : ln = 0 := by rw [← hln, hnil]; rfl
            clear hl8 hln hnil hl256
            rw [hl0] at HLL ⊢
            clear hl0
            go_wp2_with fail
            go_loopw [53] (fun iv wq => ∃ k : Nat, k ≤ 0 ∧ iv = .int .i64 (k : Int) ∧ Rk.Keeps (KX we.heap.size [bm]) we wq ∧ wq.ownsRow w.heap.size 3 1 (.slice (some ⟨bm, 0, none⟩) n n) n ((P.rowOf n (mvK (Y &&& P.places 1 g.owner g.owner.length) c1 k)).map (Value.int .i64))) (fun iv _ => 0 - (intOf iv).toNat)
            case atStart => exact ⟨0, Nat.zero_le _, rfl, Rk.Keeps.refl _ _, by rw [mvK_zero]; exact HM.out⟩
            case round =>
              obtain ⟨k, hk, rfl, hkp, hmr⟩ := hrel
              have HKP := Lib.hid hkp
              have HMR := Lib.hid hmr
              have hk0 : (0 : Int) ≤ (k : Int) := Int.natCast_nonneg _
              have NB : Hid (qg ≠ bm ∧ qr ≠ bm ∧ q7 ≠ bm ∧ qc ≠ bm ∧ qs ≠ bm ∧ pc ≠ bm) := Lib.hid (by have h1 := HBM.out; have h2 := HQW.out; omega)
              replace BQg := Lib.hid (kx_box HKP.out BQg.out BQg.out.lt (by simp [NB.out.1]))
              replace BQr := Lib.hid (kx_box HKP.out BQr.out BQr.out.lt (by simp [NB.out.2.1]))
              replace BQ7 := Lib.hid (kx_box HKP.out BQ7.out BQ7.out.lt (by simp [NB.out.2.2.1]))
              replace BQc := Lib.hid (kx_box HKP.out BQc.out BQc.out.lt (by simp [NB.out.2.2.2.1]))
              replace W := Lib.hid (W.out.trans (kx_below HKP.out (fun x hx => by have h1 := List.mem_singleton.1 hx; have h2 := HBM.out; have h3 := HLW.out; omega) W.out.size (Nat.le_refl _)))
              replace HS : Hid (Sl w wr qs pc n n (.slice (some ⟨ba, oa, none⟩) n ka) (.slice (some ⟨bb, ob, none⟩) n kb) (.slice (some ⟨bc_, oc, none⟩) n kc) c1 d1) := Lib.hid ⟨kx_box HKP.out HS.out.box HS.out.box.lt (by simp [NB.out.2.2.2.2.1]), kx_own HS.out.row HKP.out (fun b hb => by injection hb with hb; subst hb; exact ⟨HS.out.plo.2, by simp [NB.out.2.2.2.2.2]⟩), W.out, HS.out.lo⟩
              replace HR_ := Lib.hid (kx_own HR_.out HKP.out (fun b hb => ⟨(own_lt HR_.out b hb).2, by have h1 := HRB.out b hb; simp; omega⟩))
              have HKX2 : Hid (Rk.Keeps (KX wo.heap.size [qc]) wo wr) := Lib.hid (HKX.out.trans (kx_more HKP.out HKX.out.size (fun x hx => .inr (by have h1 := List.mem_singleton.1 hx; have h2 := HBM.out; omega))))
              clear hkp hmr
              have fk : decide ((k : Int) < 0) = false := decide_eq_false (by omega)
              have HMF := Lib.hid (show P.rowOf n (mvK (Y &&& P.places 1 g.owner g.owner.length) c1 k) = P.rowOf n (mvF g 1 Y c1) from mvK_all HN.out hmany (by have := HLL.out; omega))
              have HRW : Hid (ROWS wr w.heap.size n g 1 Y c1 (.slice ra (P.lst Y).length rk) bm) := Lib.hid ⟨HR_.out, by rw [← HMF.out]; exact HMR.out, HRB.out⟩
              have HB01 := Lib.hid (show b0 < bm ∧ ∀ x, (Value.slice ra (P.lst Y).length rk).ownBlock = some x → b0 < x from ⟨by have h1 := HB0.out; have h2 := HBM.out; omega, fun x hx => by have h1 := HB0.out; have h2 := (HRL.out x hx).1; omega⟩)
              have HRW0 := Lib.hid (HROW0.out.kx HKX2.out HQO.out)
              go_wp2_with fail
              go_roundw
              case rel => exact ⟨2, by omega, by first | rfl | go_num, .inr (.inr ⟨rfl, r0, b0, _, bm, BQc.out, HRW0.out, HRW.out, HB01.out.1, HB01.out.2⟩), HS.out, BQg.out, BQr.out, BQ7.out, W.out⟩
              case measure => simp [intOf]
          · obtain ⟨bl, rfl, hlo, hbl, hcl⟩ := hl8.resolve_left hnil
            have HLC := Lib.hid hcl
            have HBL : Hid (bl < we.heap.size ∧ bl ∉ [bm]) := Lib.hid ⟨hbl, by have h1 := HWE.out; simp; omega⟩
            clear hl8 hln hnil hlo hbl hcl
            go_wp2_with fail
            go_loopw [53] (fun iv wq => ∃ k : Nat, k ≤ ln ∧ iv = .int .i64 (k : Int) ∧ Rk.Keeps (KX we.heap.size [bm]) we wq ∧ wq.ownsRow w.heap.size 3 1 (.slice (some ⟨bm, 0, none⟩) n n) n ((P.rowOf n (mvK (Y &&& P.places 1 g.owner g.owner.length) c1 k)).map (Value.int .i64))) (fun iv _ => ln - (intOf iv).toNat)
            case atStart => exact ⟨0, Nat.zero_le _, rfl, Rk.Keeps.refl _ _, by rw [mvK_zero]; exact HM.out⟩
            case round =>
              obtain ⟨k, hk, rfl, hkp, hmr⟩ := hrel
              have HKP := Lib.hid hkp
              have HMR := Lib.hid hmr
              have hk0 : (0 : Int) ≤ (k : Int) := Int.natCast_nonneg _
              have NB : Hid (qg ≠ bm ∧ qr ≠ bm ∧ q7 ≠ bm ∧ qc ≠ bm ∧ qs ≠ bm ∧ pc ≠ bm) := Lib.hid (by have h1 := HBM.out; have h2 := HQW.out; omega)
              replace BQg := Lib.hid (kx_box HKP.out BQg.out BQg.out.lt (by simp [NB.out.1]))
              replace BQr := Lib.hid (kx_box HKP.out BQr.out BQr.out.lt (by simp [NB.out.2.1]))
              replace BQ7 := Lib.hid (kx_box HKP.out BQ7.out BQ7.out.lt (by simp [NB.out.2.2.1]))
              replace BQc := Lib.hid (kx_box HKP.out BQc.out BQc.out.lt (by simp [NB.out.2.2.2.1]))
              replace W := Lib.hid (W.out.trans (kx_below HKP.out (fun x hx => by have h1 := List.mem_singleton.1 hx; have h2 := HBM.out; have h3 := HLW.out; omega) W.out.size (Nat.le_refl _)))
              replace HS : Hid (Sl w wr qs pc n n (.slice (some ⟨ba, oa, none⟩) n ka) (.slice (some ⟨bb, ob, none⟩) n kb) (.slice (some ⟨bc_, oc, none⟩) n kc) c1 d1) := Lib.hid ⟨kx_box HKP.out HS.out.box HS.out.box.lt (by simp [NB.out.2.2.2.2.1]), kx_own HS.out.row HKP.out (fun b hb => by injection hb with hb; subst hb; exact ⟨HS.out.plo.2, by simp [NB.out.2.2.2.2.2]⟩), W.out, HS.out.lo⟩
              replace HR_ := Lib.hid (kx_own HR_.out HKP.out (fun b hb => ⟨(own_lt HR_.out b hb).2, by have h1 := HRB.out b hb; simp; omega⟩))
              have HKX2 : Hid (Rk.Keeps (KX wo.heap.size [qc]) wo wr) := Lib.hid (HKX.out.trans (kx_more HKP.out HKX.out.size (fun x hx => .inr (by have h1 := List.mem_singleton.1 hx; have h2 := HBM.out; omega))))
              clear hkp hmr
              by_cases hlt : k < ln
              · have fk : decide ((k : Int) < (ln : Int)) = true := decide_eq_true (by omega)
                have hki : (k : Int) < (ln : Int) := by omega
                have hc := kx_cell HKP.out (HLC.out k hlt) HBL.out.1 HBL.out.1 HBL.out.2
                obtain ⟨x, hx⟩ : ∃ x, (P.lst (Y &&& P.places 1 g.owner g.owner.length)).getD k 0 = x := ⟨_, rfl⟩
                rw [hx] at hc
                have hmem : x ∈ P.lst (Y &&& P.places 1 g.owner g.owner.length) := by rw [← hx, List.getD_eq_getElem?_getD, List.getElem?_eq_getElem (by rw [HLL.out]; exact hlt)]; exact List.getElem_mem _
                have hxn : x < n := by
                  have h1 := (P.mem_lst _ _).1 hmem
                  rw [BitVec.getLsbD_and, Bool.and_eq_true] at h1
                  exact HXY.out.2 x h1.1
                have HX := Lib.hid hx
                have hx0 : (0 : Int) ≤ (x : Int) := Int.natCast_nonneg _
                have hxi : (x : Int) < (n : Int) := by omega
                clear hx hmem
                obtain ⟨y, hy⟩ : ∃ y, c1.getD x (-1) = y := ⟨_, rfl⟩
                have HYC := Lib.hid (show wr.cell? ⟨pc, x, none⟩ = some (.int .i64 y) by rw [← hy]; exact (HS.out.cellc hxn).1)
                have HMS := Lib.hid (show P.rowOf n (mvK (Y &&& P.places 1 g.owner g.owner.length) c1 (k + 1)) = (P.rowOf n (mvK (Y &&& P.places 1 g.owner g.owner.length) c1 k)).set x y from by rw [← hy, ← HX.out]; exact mvK_set (by rw [HLL.out]; exact hlt))
                clear hy
                go_wp2_with fail
                clear hc
                go_upto_region 15 with (fail)
                refine Rt.wp_region_tail 1 (fun idx => match idx with | 0 => (fun v _ _ => v = (.int .i64 1)) | 1 => (fun v _ _ => v = (.pointer (some ⟨qc, 2, none⟩))) | 2 => (fun v _ _ => v = (.pointer (some ⟨qc, 3, none⟩))) | 3 => (fun v _ _ => v = (.slice (some ⟨bm, 0, none⟩) n n)) | 4 => (fun v _ _ => v = (.int .i64 (x : Int))) | 5 => (fun v _ _ => v = (.pointer (some ⟨qs, 3, none⟩))) | 6 => (fun v _ _ => v = (.slice (some ⟨pc, 0, none⟩) n n)) | 7 => (fun v _ _ => v = (.int .i64 (x : Int))) | 8 => (fun v _ _ => v = (.pointer (some ⟨pc, x, none⟩))) | 9 => (fun v _ _ => v = (.int .i64 y)) | 10 => (fun v _ _ => v = (.pointer (some ⟨bm, x, none⟩))) | _ => fun _ _ _ => True) (fun _ _ _ _ => True) (Rk.allK) 99 (by kernel_rfl) (by rfl) (by kernel_rfl) (by rfl) ?_ ?_ ?_ ?_
                · refine ⟨?_, ?_, ?_, ?_, ?_, ?_, ?_, ?_, ?_, ?_, ?_, trivial⟩
                  · intro A w' K vals h hn hT hgk hK0
                    have r0 : A.tmps[9]?.getD undef = .int .i64 1 := Rg.slot h.1
                    clear h hn hT hgk
                    simp [Oper.wp, execOp, go_sem, r0]
                    exact hK0 _ _ (Rk.Keeps.refl _ _) rfl trivial
                  · intro A w' K vals h hn hT hgk hK0
                    have r0 : A.tmps[8]?.getD undef = .pointer (some ⟨qc, 0, none⟩) := Rg.slot h.1
                    clear h hn hT hgk
                    simp [Oper.wp, execOp, go_sem, r0]
                    exact hK0 _ _ (Rk.Keeps.refl _ _) rfl trivial
                  · intro A w' K vals h hn hT hgk hK0
                    have r0 : A.tmps[58]?.getD undef = vals 1 := Rg.slot h.1
                    have s0 : vals 1 = (.pointer (some ⟨qc, 2, none⟩)) := hn.1
                    have r1 : A.tmps[57]?.getD undef = vals 0 := Rg.slot h.2.1
                    have s1 : vals 0 = (.int .i64 1) := hn.2.1
                    clear h hn hT hgk
                    simp [Oper.wp, execOp, go_sem, r0, r1, s0, s1]
                    exact hK0 _ _ (Rk.Keeps.refl _ _) rfl trivial
                  · intro A w' K vals h hn hT hgk hK0
                    have r0 : A.tmps[59]?.getD undef = vals 2 := Rg.slot (h.1)
                    have r1 : vals 2 = (.pointer (some ⟨qc, 3, none⟩)) := hn.1
                    have c : w'.cell? ⟨qc, 3, none⟩ = some (.slice (some ⟨bm, 0, none⟩) n n) := (BQc.out.keep (Rk.grown_of hgk)).cell 3 _ rfl
                    clear h hn hT hgk
                    simp [Oper.wp, execOp, go_sem, r0, r1, c]
                    exact hK0 _ _ (Rk.Keeps.refl _ _) rfl trivial
                  · intro A w' K vals h hn hT hgk hK0
                    have r0 : A.tmps[11]?.getD undef = .int .i64 (x : Int) := Rg.slot h.1
                    clear h hn hT hgk
                    simp [Oper.wp, execOp, go_sem, r0]
                    exact hK0 _ _ (Rk.Keeps.refl _ _) rfl trivial
                  · intro A w' K vals h hn hT hgk hK0
                    have r0 : A.tmps[6]?.getD undef = .pointer (some ⟨qs, 0, none⟩) := Rg.slot h.1
                    clear h hn hT hgk
                    simp [Oper.wp, execOp, go_sem, r0]
                    exact hK0 _ _ (Rk.Keeps.refl _ _) rfl trivial
                  · intro A w' K vals h hn hT hgk hK0
                    have r0 : A.tmps[62]?.getD undef = vals 5 := Rg.slot (h.1)
                    have r1 : vals 5 = (.pointer (some ⟨qs, 3, none⟩)) := hn.1
                    have c : w'.cell? ⟨qs, 3, none⟩ = some (.slice (some ⟨pc, 0, none⟩) n n) := (HS.out.box.keep (Rk.grown_of hgk)).cell 3 _ rfl
                    clear h hn hT hgk
                    simp [Oper.wp, execOp, go_sem, r0, r1, c]
                    exact hK0 _ _ (Rk.Keeps.refl _ _) rfl trivial
                  · intro A w' K vals h hn hT hgk hK0
                    have r0 : A.tmps[11]?.getD undef = .int .i64 (x : Int) := Rg.slot h.1
                    clear h hn hT hgk
                    simp [Oper.wp, execOp, go_sem, r0]
                    exact hK0 _ _ (Rk.Keeps.refl _ _) rfl trivial
                  · intro A w' K vals h hn hT hgk hK0
                    have r0 : A.tmps[63]?.getD undef = vals 6 := Rg.slot h.1
                    have s0 : vals 6 = (.slice (some ⟨pc, 0, none⟩) n n) := hn.1
                    have r1 : A.tmps[64]?.getD undef = vals 7 := Rg.slot h.2.1
                    have s1 : vals 7 = (.int .i64 (x : Int)) := hn.2.1
                    clear h hn hT hgk
                    simp [Oper.wp, execOp, go_sem, r0, r1, s0, s1, hxi, hx0]
                    exact hK0 _ _ (Rk.Keeps.refl _ _) rfl trivial
                  · intro A w' K vals h hn hT hgk hK0
                    have r0 : A.tmps[65]?.getD undef = vals 8 := Rg.slot (h.1)
                    have r1 : vals 8 = (.pointer (some ⟨pc, x, none⟩)) := hn.1
                    have c : w'.cell? ⟨pc, x, none⟩ = some (.int .i64 y) := (Rk.grown_of hgk).cell HYC.out (by simp)
                    clear h hn hT hgk
                    simp [Oper.wp, execOp, go_sem, r0, r1, c]
                    exact hK0 _ _ (Rk.Keeps.refl _ _) rfl trivial
                  · intro A w' K vals h hn hT hgk hK0
                    have r0 : A.tmps[60]?.getD undef = vals 3 := Rg.slot h.1
                    have s0 : vals 3 = (.slice (some ⟨bm, 0, none⟩) n n) := hn.1
                    have r1 : A.tmps[61]?.getD undef = vals 4 := Rg.slot h.2.1
                    have s1 : vals 4 = (.int .i64 (x : Int)) := hn.2.1
                    clear h hn hT hgk
                    simp [Oper.wp, execOp, go_sem, r0, r1, s0, s1, hxi, hx0]
                    exact hK0 _ _ (Rk.Keeps.refl _ _) rfl trivial
                · refine ⟨?_, ?_, ?_, ?_, ?_, ?_, ?_, ?_, ?_, ?_, ?_, trivial⟩
                  · exact fun _ _ _ _ _ _ h => h
                  · exact fun _ _ _ _ _ _ h => h
                  · exact fun _ _ _ _ _ _ h => h
                  · exact fun _ _ _ _ _ _ h => h
                  · exact fun _ _ _ _ _ _ h => h
                  · exact fun _ _ _ _ _ _ h => h
                  · exact fun _ _ _ _ _ _ h => h
                  · exact fun _ _ _ _ _ _ h => h
                  · exact fun _ _ _ _ _ _ h => h
                  · exact fun _ _ _ _ _ _ h => h
                  · exact fun _ _ _ _ _ _ h => h
                · exact fun _ _ _ _ _ _ h => h
                · intro vals w8 G hgk hS hG
                  have s9 : vals 9 = (.int .i64 y) := hS.2.2.2.2.2.2.2.2.2.1
                  have s10 : vals 10 = (.pointer (some ⟨bm, x, none⟩)) := hS.2.2.2.2.2.2.2.2.2.2.1
                  clear hS
                  have hb := below_of_grown (Rk.grown_of hgk)
                  have HKP8 := Lib.hid (HKP.out.trans (kx_more (kx_below_of (N := w8.heap.size) (X := [bm]) hb) (by have h1 := HKP.out.size; have h2 := hb.size; omega) (fun x hx => .inl hx)))
                  have HMR8 := Lib.hid (own_grown HMR.out (grown_of_below hb none))
                  clear hb hgk
                  refine hG ?_
                  clear hG
                  simp only [List.take, List.drop, List.length, Nat.reduceSub, Nat.reduceAdd, Rg.putAll, Act.put, List.setIfInBounds_toArray, List.set_cons_succ, List.set_cons_zero, s9, s10]
                  clear s9 s10
                  have cm := HMR8.out.cellAt x (by omega)
                  obtain ⟨mo, hmo⟩ : ∃ u, w8.cell? ⟨bm, x, none⟩ = some u := ⟨_, cm.trans (List.getElem?_eq_getElem (by rw [HMR8.out.1]; omega))⟩
                  have fm := HMR8.out.frozenAt x
                  clear cm
                  have HMR9 := Lib.hid (show (w8.setCell ⟨bm, x, none⟩ (.int .i64 y)).ownsRow w.heap.size 3 1 (.slice (some ⟨bm, 0, none⟩) n n) n ((P.rowOf n (mvK (Y &&& P.places 1 g.owner g.owner.length) c1 (k + 1))).map (Value.int .i64)) by rw [HMS.out, List.map_set]; exact (HMR8.out.stored x (.int .i64 y)).1)
                  have HKP9 := Lib.hid (HKP8.out.trans (kx_set (X := [bm]) (x := bm) w8 (.inl (by simp)) x (.int .i64 y)))
                  go_wp2_with fail
                  clear hmo fm
                  go_roundw
                  case rel => exact ⟨k + 1, by omega, by first | rfl | go_num, HKP9.out, HMR9.out⟩
                  case measure => simp [intOf]; omega
              · have fk : decide ((k : Int) < (ln : Int)) = false := decide_eq_false (by omega)
                have HMF := Lib.hid (show P.rowOf n (mvK (Y &&& P.places 1 g.owner g.owner.length) c1 k) = P.rowOf n (mvF g 1 Y c1) from mvK_all HN.out hmany (by have := HLL.out; omega))
                have HRW : Hid (ROWS wr w.heap.size n g 1 Y c1 (.slice ra (P.lst Y).length rk) bm) := Lib.hid ⟨HR_.out, by rw [← HMF.out]; exact HMR.out, HRB.out⟩
                have HB01 := Lib.hid (show b0 < bm ∧ ∀ x, (Value.slice ra (P.lst Y).length rk).ownBlock = some x → b0 < x from ⟨by have h1 := HB0.out; have h2 := HBM.out; omega, fun x hx => by have h1 := HB0.out; have h2 := (HRL.out x hx).1; omega⟩)
                have HRW0 := Lib.hid (HROW0.out.kx HKX2.out HQO.out)
                go_wp2_with fail
                go_roundw
                case rel => exact ⟨2, by omega, by first | rfl | go_num, .inr (.inr ⟨rfl, r0, b0, _, bm, BQc.out, HRW0.out, HRW.out, HB01.out.1, HB01.out.2⟩), HS.out, BQg.out, BQr.out, BQ7.out, W.out⟩
                case measure => simp [intOf]
      · obtain ⟨ra0, rk0, rfl, -⟩ := own_at hrow0.1
        obtain ⟨ra1, rk1, rfl, -⟩ := own_at hrow1.1
        have HROW0 := Lib.hid hrow0
        have HROW1 := Lib.hid hrow1
        have BQc := Lib.hid hbc
        have HB01 := Lib.hid (And.intro hb01 hb1)
        clear hbc hk hrow0 hrow1 hb01 hb1
        go_upto_region 18 with (fail)
        refine Rt.wp_region_tail 1 (fun idx => match idx with | 0 => (fun v _ _ => v = .agg #[.slice ra0 (P.lst X).length rk0, .slice ra1 (P.lst Y).length rk1, .slice (some ⟨b0, 0, none⟩) n n, .slice (some ⟨b1, 0, none⟩) n n]) | 1 => (fun v _ _ => v = (.pointer (some ⟨qs, 4, none⟩))) | 2 => (fun v _ _ => v = (.int .i64 d1)) | 3 => (fun _ _ w' => Box w' qr 32 #[.slice ra0 (P.lst X).length rk0, .slice ra1 (P.lst Y).length rk1, .slice (some ⟨b0, 0, none⟩) n n, .slice (some ⟨b1, 0, none⟩) n n]) | _ => fun _ _ _ => True) (fun _ _ _ _ => True) (KN [qr]) 3 (by kernel_rfl) (by rfl) (by kernel_rfl) (by rfl) ?_ ?_ ?_ ?_
        · refine ⟨?_, ?_, ?_, ?_, trivial⟩
          · intro A w' K vals h hn hT hgk hK0
            have r0' : A.tmps[8]?.getD undef = (.pointer (some ⟨qc, 0, none⟩)) := Rg.slot h.1
            have bs := kn_box hgk BQc.out (by have hne : qc ≠ qr := (by have h1 := LTgr.out; have h2 := Lq7.out; have h3 := Lqc.out; have h4 := NQr.out; omega); simp [hne])
            have cc0 : w'.cell? ⟨qc, 0, none⟩ = some (.slice ra0 (P.lst X).length rk0) := bs.cell 0 _ rfl
            have cc1 : w'.cell? ⟨qc, 1, none⟩ = some (.slice ra1 (P.lst Y).length rk1) := bs.cell 1 _ rfl
            have cc2 : w'.cell? ⟨qc, 2, none⟩ = some (.slice (some ⟨b0, 0, none⟩) n n) := bs.cell 2 _ rfl
            have cc3 : w'.cell? ⟨qc, 3, none⟩ = some (.slice (some ⟨b1, 0, none⟩) n n) := bs.cell 3 _ rfl
            clear h hn hT hgk bs
            simp [Oper.wp, execOp, go_sem, r0', cc0, cc1, cc2, cc3]
            exact hK0 _ _ (Rk.Keeps.refl _ _) rfl trivial
          · intro A w' K vals h hn hT hgk hK0
            have r0 : A.tmps[6]?.getD undef = .pointer (some ⟨qs, 0, none⟩) := Rg.slot h.1
            clear h hn hT hgk
            simp [Oper.wp, execOp, go_sem, r0]
            exact hK0 _ _ (Rk.Keeps.refl _ _) rfl trivial
          · intro A w' K vals h hn hT hgk hK0
            have r0' : A.tmps[71]?.getD undef = vals 1 := Rg.slot (h.1)
            have r1' : vals 1 = (.pointer (some ⟨qs, 4, none⟩)) := hn.1
            have c : w'.cell? ⟨qs, 4, none⟩ = some (.int .i64 d1) := (kn_box hgk HS.out.box (by have hne : qs ≠ qr := (by have h1 := LTgr.out; have h2 := Lq7.out; have h3 := Lqc.out; have h4 := NQr.out; omega); simp [hne])).cell 4 _ rfl
            clear h hn hT hgk
            simp [Oper.wp, execOp, go_sem, r0', r1', c]
            exact hK0 _ _ (Rk.Keeps.refl _ _) rfl trivial
          · intro A w' K vals h hn hT hgk hK0
            have r0' : A.tmps[2]?.getD undef = (.pointer (some ⟨qr, 0, none⟩)) := Rg.slot h.1
            have r1' : A.tmps[70]?.getD undef = vals 0 := Rg.slot h.2.1
            have s0 : vals 0 = .agg #[.slice ra0 (P.lst X).length rk0, .slice ra1 (P.lst Y).length rk1, .slice (some ⟨b0, 0, none⟩) n n, .slice (some ⟨b1, 0, none⟩) n n] := hn.1
            have bs := BQr.out.keep (Rk.grown_of hgk)
            have rc0 : w'.cell? ⟨qr, 0, none⟩ = some (.slice none 0 0) := bs.cell 0 _ rfl
            have rc1 : w'.cell? ⟨qr, 1, none⟩ = some (.slice none 0 0) := bs.cell 1 _ rfl
            have rc2 : w'.cell? ⟨qr, 2, none⟩ = some (.slice none 0 0) := bs.cell 2 _ rfl
            have rc3 : w'.cell? ⟨qr, 3, none⟩ = some (.slice none 0 0) := bs.cell 3 _ rfl
            have rf0 : w'.frozen? ⟨qr, 0, none⟩ = false := bs.frozen 0
            have rf1 : w'.frozen? ⟨qr, 1, none⟩ = false := bs.frozen 1
            have rf2 : w'.frozen? ⟨qr, 2, none⟩ = false := bs.frozen 2
            have rf3 : w'.frozen? ⟨qr, 3, none⟩ = false := bs.frozen 3
            clear h hn hT hgk
            have hK1 := hK0 undef ((((w'.setCell ⟨qr, 0, none⟩ (.slice ra0 (P.lst X).length rk0)).setCell ⟨qr, 1, none⟩ (.slice ra1 (P.lst Y).length rk1)).setCell ⟨qr, 2, none⟩ (.slice (some ⟨b0, 0, none⟩) n n)).setCell ⟨qr, 3, none⟩ (.slice (some ⟨b1, 0, none⟩) n n)) ((((kn_set w' qr 0 _).trans (kn_set _ qr 1 _)).trans (kn_set _ qr 2 _)).trans (kn_set _ qr 3 _)) (box4 bs _ _ _ _) trivial
            clear hK0 bs
            simp [Oper.wp, execOp, go_sem, r0', r1', s0, rc0, rc1, rc2, rc3, rf0, rf1, rf2, rf3]
            exact hK1
        · refine ⟨?_, ?_, ?_, ?_, trivial⟩
          · exact fun _ _ _ _ _ _ h => h
          · exact fun _ _ _ _ _ _ h => h
          · exact fun _ _ _ _ _ _ h => h
          · exact fun _ _ _ _ _ h hb => hb.keep (Rk.grown_of h)
        · exact fun _ _ _ _ _ _ h => h
        · intro vals w9 G hgk hS hG
          have s2 : vals 2 = .int .i64 d1 := hS.2.2.1
          have BZ : Box w9 qr 32 #[.slice ra0 (P.lst X).length rk0, .slice ra1 (P.lst Y).length rk1, .slice (some ⟨b0, 0, none⟩) n n, .slice (some ⟨b1, 0, none⟩) n n] := hS.2.2.2.1
          clear hS
          have HROWA := Lib.hid (HROW0.out.kn hgk BQr.out)
          have HROWB := Lib.hid (HROW1.out.kn hgk BQr.out)
          have WZ := Lib.hid (W.out.trans (kn_below hgk (by have h1 := LEg.out; have h2 := LTgr.out; omega) W.out.size))
          clear hgk
          refine hG ?_
          clear hG
          simp only [List.take, List.drop, List.length, Nat.reduceSub, Nat.reduceAdd, Rg.putAll, Act.put, List.setIfInBounds_toArray, List.set_cons_succ, List.set_cons_zero, s2]
          clear s2
          have zc0 : w9.cell? ⟨qr, 0, none⟩ = some (.slice ra0 (P.lst X).length rk0) := BZ.cell 0 _ rfl
          have zc1 : w9.cell? ⟨qr, 1, none⟩ = some (.slice ra1 (P.lst Y).length rk1) := BZ.cell 1 _ rfl
          have zc2 : w9.cell? ⟨qr, 2, none⟩ = some (.slice (some ⟨b0, 0, none⟩) n n) := BZ.cell 2 _ rfl
          have zc3 : w9.cell? ⟨qr, 3, none⟩ = some (.slice (some ⟨b1, 0, none⟩) n n) := BZ.cell 3 _ rfl
          have HCE := Lib.hid (And.intro zc0 (And.intro zc1 (And.intro zc2 zc3)))
          clear BZ zc0 zc1 zc2 zc3
          go_wp2_with fail
          obtain ⟨zc0, zc1, zc2, zc3⟩ := HCE.out
          refine bodyPost_ret (v := .tuple #[.agg #[.slice ra0 (P.lst X).length rk0, .slice ra1 (P.lst Y).length rk1, .slice (some ⟨b0, 0, none⟩) n n, .slice (some ⟨b1, 0, none⟩) n n], .int .i64 d1]) (by simp [results, Tryd.results6, go_sem, zc0, zc1, zc2, zc3]) rfl ⟨X, Y, c1, d1, _, _, b0, b1, rfl, ⟨HAP.out, HROWA.out, HROWB.out, HB01.out.1, HB01.out.2, HDD.out⟩, WZ.out⟩
end W
end Go.Proofs.YtghdjkpndhcplaaDoor
end
