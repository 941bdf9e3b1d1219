/- All positions, taken apart: the solver's walk. -/
import Derived.Test.YtpjmboonaciplaaDoorApart
import Derived.Deep.Cut
import Derived.Lib.Hide
import Derived.Deep.QuietTactic
import Derived.BigQuiet
import Derived.StillTailTactics
import Derived.Laws.EntriesVeiled
namespace Go.Proofs.YtpjmboonaciplaaDoor
open Go.RowKit
namespace W

end W
namespace P
theorem full_bits {g : G} (hr : g.Right) {n : Nat} (hn : g.owner.length = n) : (∀ i, Bit (full (n : Int)) i ↔ i < n) ∧ Goes g (Bit (full (n : Int))) := by
  have hm := hr.many
  have hb : ∀ i, Bit (full (n : Int)) i ↔ i < n := fun i => by
    unfold Bit
    rcases Nat.lt_or_ge i 256 with hi | hi
    · rw [getLsbD_full, decide_eq_true_eq]
      omega
    · rw [BitVec.getLsbD_of_ge _ _ hi]
      constructor
      · intro h; cases h
      · intro h; omega
  refine ⟨hb, fun i hi => ?_⟩
  have hin := (hb i).1 hi
  have hne := (hr.at i (by omega)).2.2.2.1
  obtain ⟨z, hz⟩ := List.exists_mem_of_ne_nil _ hne
  have := hr.moves_in (by omega : i < g.owner.length) z hz
  obtain ⟨j, rfl⟩ := Int.eq_ofNat_of_zero_le this.1
  exact ⟨j, hz, (hb j).2 (by omega)⟩
end P
namespace W
set_option maxRecDepth 100000 in
set_option maxHeartbeats 8000000 in
theorem solvem_any (g : P.G) (hr : g.Right) (n : Nat) (hn : g.owner.length = n) (w0 : World) (ba oa ka bb ob kb bc_ oc kc : Nat) (hv : GameV w0 (.agg #[.slice (some ⟨ba, oa, none⟩) n ka, .slice (some ⟨bb, ob, none⟩) n kb, .slice (some ⟨bc_, oc, none⟩) n kc]) g) (hT : Tab w0) (qs pc kq : Nat) (c : List Int) (w : World) (hS : Sl w0 w qs pc n kq (.slice (some ⟨ba, oa, none⟩) n ka) (.slice (some ⟨bb, ob, none⟩) n kb) (.slice (some ⟨bc_, oc, none⟩) n kc) c 0) :
    Calls Tryd.prog 32 #[.pointer (some ⟨qs, 0, none⟩)] w fun e w' => ∃ X Y c1 d1, e = .returned (.agg #[.int .u64 (P.wrd X 0), .int .u64 (P.wrd X 1), .int .u64 (P.wrd X 2), .int .u64 (P.wrd X 3), .int .u64 (P.wrd Y 0), .int .u64 (P.wrd Y 1), .int .u64 (P.wrd Y 2), .int .u64 (P.wrd Y 3)]) ∧ P.Ap g 0 (P.full (n : Int)) X Y c c1 ∧ Sl w0 w' qs pc n kq (.slice (some ⟨ba, oa, none⟩) n ka) (.slice (some ⟨bb, ob, none⟩) n kb) (.slice (some ⟨bc_, oc, none⟩) n kc) c1 d1 ∧ SlK qs pc w w' ∧ 1 ≤ d1 ∧ d1 ≤ (n : Int) + 1 := by
  have HFU := Lib.hid (show (∀ i, P.Bit (P.full (n : Int)) i → i < n) ∧ P.Goes g (P.Bit (P.full (n : Int))) from ⟨fun i hi => ((P.full_bits hr hn).1 i).1 hi, (P.full_bits hr hn).2⟩)
  have HV := Lib.hid hv
  have T := Lib.hid hT
  have HR := Lib.hid hr
  have HN := Lib.hid hn
  have hop := hr.prio
  have hmp := hr.moves
  have hmany := hr.many
  have h0 := hr.pos
  rw [hn] at hop hmp hmany h0
  have HPN := Lib.hid hop
  obtain ⟨xba, xoa, xka, xbb, xob, xkb, xbc, xoc, xkc, e0, hca, hcb, hcc⟩ := hv.open_ hn hop hmp h0
  injection e0 with e0
  obtain ⟨⟨⟨rfl, rfl⟩, rfl⟩, ⟨⟨rfl, rfl⟩, rfl⟩, ⟨rfl, rfl⟩, rfl⟩ : (((ba = xba ∧ oa = xoa) ∧ ka = xka) ∧ ((bb = xbb ∧ ob = xob) ∧ kb = xkb) ∧ (bc_ = xbc ∧ oc = xoc) ∧ kc = xkc) := by simpa using e0
  have HCA := Lib.hid hca
  have HCB := Lib.hid hcb
  have HCC := Lib.hid hcc
  clear e0 hca hcb hcc hv hT hr hn hop hmp
  have HS := Lib.hid hS
  have HQ2 : Hid (qs < w.heap.size ∧ pc < w.heap.size ∧ w0.heap.size ≤ w.heap.size) := Lib.hid ⟨hS.box.lt, hS.plo.2, hS.low.size⟩
  clear hS
  have hmf : ∀ (fn : Fn) (first cap : Array Value) (w : World), (Instr.makeFunc fn first cap).run Tryd.prog w = .ok (.func fn first cap) w := fun _ _ _ _ => rfl
  go_enter Tryd.func32, Tryd.ntmps32
  go_upto_region 3 with (fail)
  have bx0 : Box (((w.alloc (.cells #[.pointer (some ⟨qs, 0, none⟩)] 74)).alloc (.cells #[.int .u64 0, .int .u64 0, .int .u64 0, .int .u64 0, .int .u64 0, .int .u64 0, .int .u64 0, .int .u64 0] 60)).alloc (.cells #[.func (.func 45) #[] #[.pointer (some ⟨w.heap.size, 0, none⟩), .pointer (some ⟨w.heap.size + 1 + 1, 0, none⟩)]] 75)) (w.heap.size) 74 #[.pointer (some ⟨qs, 0, none⟩)] := Box.alloc (Box.alloc (Box.new w 74 #[.pointer (some ⟨qs, 0, none⟩)]) (.cells #[.int .u64 0, .int .u64 0, .int .u64 0, .int .u64 0, .int .u64 0, .int .u64 0, .int .u64 0, .int .u64 0] 60)) (.cells #[.func (.func 45) #[] #[.pointer (some ⟨w.heap.size, 0, none⟩), .pointer (some ⟨w.heap.size + 1 + 1, 0, none⟩)]] 75)
  have bx1 : Box (((w.alloc (.cells #[.pointer (some ⟨qs, 0, none⟩)] 74)).alloc (.cells #[.int .u64 0, .int .u64 0, .int .u64 0, .int .u64 0, .int .u64 0, .int .u64 0, .int .u64 0, .int .u64 0] 60)).alloc (.cells #[.func (.func 45) #[] #[.pointer (some ⟨w.heap.size, 0, none⟩), .pointer (some ⟨w.heap.size + 1 + 1, 0, none⟩)]] 75)) (w.heap.size + 1) 60 #[.int .u64 0, .int .u64 0, .int .u64 0, .int .u64 0, .int .u64 0, .int .u64 0, .int .u64 0, .int .u64 0] := by
    have := Box.alloc (Box.new (w.alloc (.cells #[.pointer (some ⟨qs, 0, none⟩)] 74)) 60 #[.int .u64 0, .int .u64 0, .int .u64 0, .int .u64 0, .int .u64 0, .int .u64 0, .int .u64 0, .int .u64 0]) (.cells #[.func (.func 45) #[] #[.pointer (some ⟨w.heap.size, 0, none⟩), .pointer (some ⟨w.heap.size + 1 + 1, 0, none⟩)]] 75)
    simpa using this
  have bx2 : Box (((w.alloc (.cells #[.pointer (some ⟨qs, 0, none⟩)] 74)).alloc (.cells #[.int .u64 0, .int .u64 0, .int .u64 0, .int .u64 0, .int .u64 0, .int .u64 0, .int .u64 0, .int .u64 0] 60)).alloc (.cells #[.func (.func 45) #[] #[.pointer (some ⟨w.heap.size, 0, none⟩), .pointer (some ⟨w.heap.size + 1 + 1, 0, none⟩)]] 75)) (w.heap.size + 1 + 1) 75 #[.func (.func 45) #[] #[.pointer (some ⟨w.heap.size, 0, none⟩), .pointer (some ⟨w.heap.size + 1 + 1, 0, none⟩)]] := by
    have := Box.new ((w.alloc (.cells #[.pointer (some ⟨qs, 0, none⟩)] 74)).alloc (.cells #[.int .u64 0, .int .u64 0, .int .u64 0, .int .u64 0, .int .u64 0, .int .u64 0, .int .u64 0, .int .u64 0] 60)) 75 #[.func (.func 45) #[] #[.pointer (some ⟨w.heap.size, 0, none⟩), .pointer (some ⟨w.heap.size + 1 + 1, 0, none⟩)]]
    simpa using this
  have hbq : Below w.heap.size w (((w.alloc (.cells #[.pointer (some ⟨qs, 0, none⟩)] 74)).alloc (.cells #[.int .u64 0, .int .u64 0, .int .u64 0, .int .u64 0, .int .u64 0, .int .u64 0, .int .u64 0, .int .u64 0] 60)).alloc (.cells #[.func (.func 45) #[] #[.pointer (some ⟨w.heap.size, 0, none⟩), .pointer (some ⟨w.heap.size + 1 + 1, 0, none⟩)]] 75)) := (((Below.refl _ w).alloc (Nat.le_refl _) _).alloc (by simp) _).alloc (by simp; omega) _
  have lt0 : w.heap.size < w.heap.size + 1 := Nat.lt_succ_self _
  have lt1 : w.heap.size + 1 < w.heap.size + 1 + 1 := Nat.lt_succ_self _
  have hle0 : w.heap.size ≤ w.heap.size := Nat.le_refl _
  replace HS := Lib.hid (HS.out.on hbq)
  generalize (((w.alloc (.cells #[.pointer (some ⟨qs, 0, none⟩)] 74)).alloc (.cells #[.int .u64 0, .int .u64 0, .int .u64 0, .int .u64 0, .int .u64 0, .int .u64 0, .int .u64 0, .int .u64 0] 60)).alloc (.cells #[.func (.func 45) #[] #[.pointer (some ⟨w.heap.size, 0, none⟩), .pointer (some ⟨w.heap.size + 1 + 1, 0, none⟩)]] 75)) = w4 at bx0 bx1 bx2 hbq HS ⊢
  have BQv := Lib.hid bx0
  have BQr := Lib.hid bx1
  have BQf := Lib.hid bx2
  have W := Lib.hid hbq
  have LTvr := Lib.hid lt0
  have LTrf := Lib.hid lt1
  have LEv := Lib.hid hle0
  clear hbq hle0 bx0 bx1 bx2 lt0 lt1
  generalize w.heap.size + 1 + 1 = qf at BQf LTrf ⊢
  generalize w.heap.size + 1 = qr at BQr LTrf LTvr ⊢
  obtain ⟨qv, hqv⟩ : ∃ qv, w.heap.size = qv := ⟨_, rfl⟩
  rw [hqv] at BQv LTvr BQf ⊢
  have LEv : Hid (w.heap.size ≤ qv) := Lib.hid (by omega)
  clear hqv
  have NQv : Hid (qv ≠ qs ∧ qv ≠ pc) := Lib.hid (by have h1 := LEv.out; have h2 := HQ2.out; omega)
  have NQr : Hid (qr ≠ qs ∧ qr ≠ pc) := Lib.hid (by have h1 := LEv.out; have h2 := HQ2.out; have h3 := LTvr.out; omega)
  have NQf : Hid (qf ≠ qs ∧ qf ≠ pc) := Lib.hid (by have h1 := LEv.out; have h2 := HQ2.out; have h3 := LTvr.out; have h4 := LTrf.out; omega)
  refine Rt.wp_region_tail 2 (fun idx => match idx with | 0 => (fun v _ _ => v = (.func (.func 45) #[] #[.pointer (some ⟨qv, 0, none⟩), .pointer (some ⟨qf, 0, none⟩)])) | 1 => (fun v _ _ => v = (.pointer (some ⟨qs, 0, none⟩))) | 2 => (fun v _ _ => v = (.pointer (some ⟨qs, 0, none⟩))) | 3 => (fun v _ _ => v = (.pointer (some ⟨qs, 0, none⟩))) | 4 => (fun v _ _ => v = (.pointer (some ⟨qs, 0, none⟩))) | 5 => (fun v _ _ => v = (.slice (some ⟨ba, oa, none⟩) n ka)) | 6 => (fun v _ _ => v = (.int .i64 (n : Int))) | 7 => (fun v _ _ => v = .agg #[.int .u64 (P.wrd (P.full (n : Int)) 0), .int .u64 (P.wrd (P.full (n : Int)) 1), .int .u64 (P.wrd (P.full (n : Int)) 2), .int .u64 (P.wrd (P.full (n : Int)) 3)]) | _ => fun _ _ _ => True) (fun _ _ _ _ => True) (Rk.allK) 99 (by kernel_rfl) (by rfl) (by kernel_rfl) (by rfl) ?_ ?_ ?_ ?_
  · refine ⟨?_, ?_, ?_, ?_, ?_, ?_, ?_, ?_, trivial⟩
    · intro A w' K vals h hn hT hgk hK0
      have r0 : A.tmps[3]?.getD undef = (.pointer (some ⟨qf, 0, none⟩)) := Rg.slot h.1
      have bs := BQf.out.keep (Rk.grown_of hgk)
      have cc0 : w'.cell? ⟨qf, 0, none⟩ = some (.func (.func 45) #[] #[.pointer (some ⟨qv, 0, none⟩), .pointer (some ⟨qf, 0, none⟩)]) := bs.cell 0 _ rfl
      clear h hn hT hgk bs
      simp [Oper.wp, execOp, go_sem, r0, cc0]
      exact hK0 _ _ (Rk.Keeps.refl _ _) rfl trivial
    · intro A w' K vals h hn hT hgk hK0
      have r0 : A.tmps[1]?.getD undef = (.pointer (some ⟨qv, 0, none⟩)) := Rg.slot h.1
      have bs := BQv.out.keep (Rk.grown_of hgk)
      have cc0 : w'.cell? ⟨qv, 0, none⟩ = some (.pointer (some ⟨qs, 0, none⟩)) := bs.cell 0 _ rfl
      clear h hn hT hgk bs
      simp [Oper.wp, execOp, go_sem, r0, cc0]
      exact hK0 _ _ (Rk.Keeps.refl _ _) rfl trivial
    · intro A w' K vals h hn hT hgk hK0
      have r0 : A.tmps[6]?.getD undef = vals 1 := Rg.slot h.1
      have s0 : vals 1 = .pointer (some ⟨qs, 0, none⟩) := hn.1
      clear h hn hT hgk
      simp [Oper.wp, execOp, go_sem, r0, s0]
      exact hK0 _ _ (Rk.Keeps.refl _ _) rfl trivial
    · intro A w' K vals h hn hT hgk hK0
      have r0 : A.tmps[7]?.getD undef = vals 2 := Rg.slot h.1
      have s0 : vals 2 = .pointer (some ⟨qs, 0, none⟩) := hn.1
      clear h hn hT hgk
      simp [Oper.wp, execOp, go_sem, r0, s0]
      exact hK0 _ _ (Rk.Keeps.refl _ _) rfl trivial
    · intro A w' K vals h hn hT hgk hK0
      have r0 : A.tmps[8]?.getD undef = vals 3 := Rg.slot h.1
      have s0 : vals 3 = .pointer (some ⟨qs, 0, none⟩) := hn.1
      clear h hn hT hgk
      simp [Oper.wp, execOp, go_sem, r0, s0]
      exact hK0 _ _ (Rk.Keeps.refl _ _) rfl trivial
    · intro A w' K vals h hn hT hgk hK0
      have r0 : A.tmps[9]?.getD undef = vals 4 := Rg.slot (h.1)
      have r1 : vals 4 = (.pointer (some ⟨qs, 0, none⟩)) := hn.1
      have c : w'.cell? ⟨qs, 0, none⟩ = some (.slice (some ⟨ba, oa, none⟩) n ka) := (HS.out.box.keep (Rk.grown_of hgk)).cell 0 _ rfl
      clear h hn hT hgk
      simp [Oper.wp, execOp, go_sem, r0, r1, c]
      exact hK0 _ _ (Rk.Keeps.refl _ _) rfl trivial
    · intro A w' K vals h hn hT hgk hK0
      have r0 : A.tmps[10]?.getD undef = vals 5 := Rg.slot h.1
      have s0 : vals 5 = (.slice (some ⟨ba, oa, none⟩) n ka) := hn.1
      clear h hn hT hgk
      simp [Oper.wp, go_sem, r0, s0]
      exact hK0 _ _ (Rk.Keeps.refl _ _) rfl trivial
    · intro A w' K vals h hn hT hgk hK0
      have r0 : A.tmps[11]?.getD undef = vals 6 := Rg.slot h.2.1
      have s0 : vals 6 = .int .i64 (n : Int) := hn.1
      clear h hn hT hgk
      simp [Oper.wp, go_sem, r0, s0]
      refine (full_any (n : Int) w').mono ?_
      rintro e w'' ⟨rfl, hb⟩
      exact hK0 _ _ (Rk.keep_of (grown_of_below hb _)) rfl trivial
  · refine ⟨?_, ?_, ?_, ?_, ?_, ?_, ?_, ?_, trivial⟩
    · exact fun _ _ _ _ _ _ h => h
    · exact fun _ _ _ _ _ _ h => h
    · exact fun _ _ _ _ _ _ h => h
    · exact fun _ _ _ _ _ _ h => h
    · exact fun _ _ _ _ _ _ h => h
    · exact fun _ _ _ _ _ _ h => h
    · exact fun _ _ _ _ _ _ h => h
    · exact fun _ _ _ _ _ _ h => h
  · exact fun _ _ _ _ _ _ h => h
  · intro vals w5 G hgk hS hG
    have s0 : vals 0 = .func (.func 45) #[] #[.pointer (some ⟨qv, 0, none⟩), .pointer (some ⟨qf, 0, none⟩)] := hS.1
    have s7 : vals 7 = .agg #[.int .u64 (P.wrd (P.full (n : Int)) 0), .int .u64 (P.wrd (P.full (n : Int)) 1), .int .u64 (P.wrd (P.full (n : Int)) 2), .int .u64 (P.wrd (P.full (n : Int)) 3)] := hS.2.2.2.2.2.2.2.1
    clear hS
    have hb := below_of_grown (Rk.grown_of hgk)
    replace HS := Lib.hid (HS.out.on hb)
    replace W := Lib.hid (W.out.trans (hb.mono W.out.size))
    replace BQv := Lib.hid (BQv.out.keep (Rk.grown_of hgk))
    replace BQr := Lib.hid (BQr.out.keep (Rk.grown_of hgk))
    replace BQf := Lib.hid (BQf.out.keep (Rk.grown_of hgk))
    clear hb hgk
    refine hG ?_
    clear hG
    simp only [List.take, List.drop, List.length, Nat.reduceSub, Nat.reduceAdd, Rg.putAll, Act.put, List.setIfInBounds_toArray, List.set_cons_succ, List.set_cons_zero, s0, s7]
    clear s0 s7
    go_wp2_with fail
    refine (apart_any g HR.out n HN.out w0 ba oa ka bb ob kb bc_ oc kc HV.out T.out qs pc kq qv qf (P.cntS n (P.full (n : Int)) + 1) (P.full (n : Int)) c 0 1 w5 (Nat.lt_succ_self _) HFU.out.1 HFU.out.2 (by decide) (by have := P.cntS_le n (P.full (n : Int)); omega) HS.out BQv.out BQf.out NQv.out NQf.out).mono ?_
    rintro e w6 ⟨X, Y, c1, d1, rfl, hap, hs, hk, h1, h2, h3⟩
    have HAP := Lib.hid hap
    have HDD := Lib.hid (show 1 ≤ d1 ∧ d1 ≤ (n : Int) + 1 from ⟨h2, by have := P.cntS_le n (P.full (n : Int)); omega⟩)
    have HK := Lib.hid ((SlK.of W.out).trans hk)
    replace BQr := Lib.hid (hk.box BQr.out NQr.out.1 NQr.out.2)
    replace HS := Lib.hid hs
    clear hap hs hk h1 h2 h3
    have hbr := BQr.out
    have rc0 : w6.cell? ⟨qr, 0, none⟩ = some (.int .u64 0) := hbr.cell 0 _ rfl
    have rc1 : w6.cell? ⟨qr, 1, none⟩ = some (.int .u64 0) := hbr.cell 1 _ rfl
    have rc2 : w6.cell? ⟨qr, 2, none⟩ = some (.int .u64 0) := hbr.cell 2 _ rfl
    have rc3 : w6.cell? ⟨qr, 3, none⟩ = some (.int .u64 0) := hbr.cell 3 _ rfl
    have rc4 : w6.cell? ⟨qr, 4, none⟩ = some (.int .u64 0) := hbr.cell 4 _ rfl
    have rc5 : w6.cell? ⟨qr, 5, none⟩ = some (.int .u64 0) := hbr.cell 5 _ rfl
    have rc6 : w6.cell? ⟨qr, 6, none⟩ = some (.int .u64 0) := hbr.cell 6 _ rfl
    have rc7 : w6.cell? ⟨qr, 7, none⟩ = some (.int .u64 0) := hbr.cell 7 _ rfl
    have rf0 : w6.frozen? ⟨qr, 0, none⟩ = false := hbr.frozen 0
    have rf1 : w6.frozen? ⟨qr, 1, none⟩ = false := hbr.frozen 1
    have rf2 : w6.frozen? ⟨qr, 2, none⟩ = false := hbr.frozen 2
    have rf3 : w6.frozen? ⟨qr, 3, none⟩ = false := hbr.frozen 3
    have rf4 : w6.frozen? ⟨qr, 4, none⟩ = false := hbr.frozen 4
    have rf5 : w6.frozen? ⟨qr, 5, none⟩ = false := hbr.frozen 5
    have rf6 : w6.frozen? ⟨qr, 6, none⟩ = false := hbr.frozen 6
    have rf7 : w6.frozen? ⟨qr, 7, none⟩ = false := hbr.frozen 7
    clear hbr
    have BZ : Box ((((((((w6.setCell ⟨qr, 0, none⟩ (.int .u64 (P.wrd X 0))).setCell ⟨qr, 1, none⟩ (.int .u64 (P.wrd X 1))).setCell ⟨qr, 2, none⟩ (.int .u64 (P.wrd X 2))).setCell ⟨qr, 3, none⟩ (.int .u64 (P.wrd X 3))).setCell ⟨qr, 4, none⟩ (.int .u64 (P.wrd Y 0))).setCell ⟨qr, 5, none⟩ (.int .u64 (P.wrd Y 1))).setCell ⟨qr, 6, none⟩ (.int .u64 (P.wrd Y 2))).setCell ⟨qr, 7, none⟩ (.int .u64 (P.wrd Y 3))) qr 60 #[.int .u64 (P.wrd X 0), .int .u64 (P.wrd X 1), .int .u64 (P.wrd X 2), .int .u64 (P.wrd X 3), .int .u64 (P.wrd Y 0), .int .u64 (P.wrd Y 1), .int .u64 (P.wrd Y 2), .int .u64 (P.wrd Y 3)] := box8 BQr.out _ _ _ _ _ _ _ _
    have hko : Rk.Keeps (KN [qr]) w6 ((((((((w6.setCell ⟨qr, 0, none⟩ (.int .u64 (P.wrd X 0))).setCell ⟨qr, 1, none⟩ (.int .u64 (P.wrd X 1))).setCell ⟨qr, 2, none⟩ (.int .u64 (P.wrd X 2))).setCell ⟨qr, 3, none⟩ (.int .u64 (P.wrd X 3))).setCell ⟨qr, 4, none⟩ (.int .u64 (P.wrd Y 0))).setCell ⟨qr, 5, none⟩ (.int .u64 (P.wrd Y 1))).setCell ⟨qr, 6, none⟩ (.int .u64 (P.wrd Y 2))).setCell ⟨qr, 7, none⟩ (.int .u64 (P.wrd Y 3))) := (((((((kn_set w6 qr 0 _).trans (kn_set _ qr 1 _)).trans (kn_set _ qr 2 _)).trans (kn_set _ qr 3 _)).trans (kn_set _ qr 4 _)).trans (kn_set _ qr 5 _)).trans (kn_set _ qr 6 _)).trans (kn_set _ qr 7 _)
    replace HS := Lib.hid (HS.out.kn hko NQr.out.1.symm NQr.out.2.symm (by have h1 := LEv.out; have h2 := LTvr.out; have h3 := HQ2.out; omega))
    replace HK := Lib.hid (HK.out.one hko (by have h1 := LEv.out; have h2 := LTvr.out; omega))
    replace BQr := Lib.hid BZ
    clear hko BZ
    go_wp2_with fail
    generalize ((((((((w6.setCell ⟨qr, 0, none⟩ (.int .u64 (P.wrd X 0))).setCell ⟨qr, 1, none⟩ (.int .u64 (P.wrd X 1))).setCell ⟨qr, 2, none⟩ (.int .u64 (P.wrd X 2))).setCell ⟨qr, 3, none⟩ (.int .u64 (P.wrd X 3))).setCell ⟨qr, 4, none⟩ (.int .u64 (P.wrd Y 0))).setCell ⟨qr, 5, none⟩ (.int .u64 (P.wrd Y 1))).setCell ⟨qr, 6, none⟩ (.int .u64 (P.wrd Y 2))).setCell ⟨qr, 7, none⟩ (.int .u64 (P.wrd Y 3))) = w7 at HS HK BQr ⊢
    clear rc0 rc1 rc2 rc3 rc4 rc5 rc6 rc7 rf0 rf1 rf2 rf3 rf4 rf5 rf6 rf7
    have zc0 : w7.cell? ⟨qr, 0, none⟩ = some (.int .u64 (P.wrd X 0)) := BQr.out.cell 0 _ rfl
    have zc1 : w7.cell? ⟨qr, 1, none⟩ = some (.int .u64 (P.wrd X 1)) := BQr.out.cell 1 _ rfl
    have zc2 : w7.cell? ⟨qr, 2, none⟩ = some (.int .u64 (P.wrd X 2)) := BQr.out.cell 2 _ rfl
    have zc3 : w7.cell? ⟨qr, 3, none⟩ = some (.int .u64 (P.wrd X 3)) := BQr.out.cell 3 _ rfl
    have zc4 : w7.cell? ⟨qr, 4, none⟩ = some (.int .u64 (P.wrd Y 0)) := BQr.out.cell 4 _ rfl
    have zc5 : w7.cell? ⟨qr, 5, none⟩ = some (.int .u64 (P.wrd Y 1)) := BQr.out.cell 5 _ rfl
    have zc6 : w7.cell? ⟨qr, 6, none⟩ = some (.int .u64 (P.wrd Y 2)) := BQr.out.cell 6 _ rfl
    have zc7 : w7.cell? ⟨qr, 7, none⟩ = some (.int .u64 (P.wrd Y 3)) := BQr.out.cell 7 _ rfl
    refine bodyPost_ret (v := .agg #[.int .u64 (P.wrd X 0), .int .u64 (P.wrd X 1), .int .u64 (P.wrd X 2), .int .u64 (P.wrd X 3), .int .u64 (P.wrd Y 0), .int .u64 (P.wrd Y 1), .int .u64 (P.wrd Y 2), .int .u64 (P.wrd Y 3)]) (by simp [results, Tryd.results32, go_sem, zc0, zc1, zc2, zc3, zc4, zc5, zc6, zc7]) rfl ⟨X, Y, c1, d1, rfl, HAP.out, HS.out, HK.out, HDD.out.1, HDD.out.2⟩
end W
end Go.Proofs.YtpjmboonaciplaaDoor
