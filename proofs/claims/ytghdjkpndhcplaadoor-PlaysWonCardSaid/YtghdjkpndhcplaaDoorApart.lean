/- Taking a part apart: the solver's recursion. -/
import Derived.Test.YtghdjkpndhcplaaDoorSlA
import Derived.Test.YtghdjkpndhcplaaDoorRegionZ
import Derived.Deep.Cut
import Derived.Lib.Hide
import Derived.Deep.QuietTactic
import Derived.BigQuiet
import Derived.StillTailTactics
import Derived.Laws.EntriesVeiled
namespace Go.Proofs.YtghdjkpndhcplaaDoor
open Go.RowKit
namespace W

set_option maxRecDepth 100000 in
set_option maxHeartbeats 8000000 in
theorem apart_any (g : P.G) (hr : g.Right) (n : Nat) (hn : g.owner.length = n) (w0 : World) (ba oa ka bb ob kb bc_ oc kc : Nat) (hv : GameV w0 (.agg #[.slice (some ⟨ba, oa, none⟩) n ka, .slice (some ⟨bb, ob, none⟩) n kb, .slice (some ⟨bc_, oc, none⟩) n kc]) g) (hT : Tab w0) (qs pc kq qv qf : Nat) : ∀ (u : Nat) (I : BitVec 256) (c : List Int) (d dep : Int) (w : World), P.cntS n I < u → (∀ i, P.Bit I i → i < n) → P.Goes g (P.Bit I) → 0 ≤ dep → dep + (P.cntS n I : Nat) ≤ 1000 → Sl w0 w qs pc n kq (.slice (some ⟨ba, oa, none⟩) n ka) (.slice (some ⟨bb, ob, none⟩) n kb) (.slice (some ⟨bc_, oc, none⟩) n kc) c d → Box w qv 65 #[.pointer (some ⟨qs, 0, none⟩)] → Box w qf 66 #[.func (.func 21) #[] #[.pointer (some ⟨qv, 0, none⟩), .pointer (some ⟨qf, 0, none⟩)]] → qv ≠ qs ∧ qv ≠ pc → qf ≠ qs ∧ qf ≠ pc →
      Calls Tryd.prog 21 #[.agg #[.int .u64 (P.wrd I 0), .int .u64 (P.wrd I 1), .int .u64 (P.wrd I 2), .int .u64 (P.wrd I 3)], .int .i64 dep, .pointer (some ⟨qv, 0, none⟩), .pointer (some ⟨qf, 0, none⟩)] w (fun e w' => ∃ X Y c' d', e = .returned (.agg #[.int .u64 (P.wrd X 0), .int .u64 (P.wrd X 1), .int .u64 (P.wrd X 2), .int .u64 (P.wrd X 3), .int .u64 (P.wrd Y 0), .int .u64 (P.wrd Y 1), .int .u64 (P.wrd Y 2), .int .u64 (P.wrd Y 3)]) ∧ P.Ap g 0 I X Y c c' ∧ Sl w0 w' qs pc n kq (.slice (some ⟨ba, oa, none⟩) n ka) (.slice (some ⟨bb, ob, none⟩) n kb) (.slice (some ⟨bc_, oc, none⟩) n kc) c' d' ∧ SlK qs pc w w' ∧ d ≤ d' ∧ dep ≤ d' ∧ (d' ≤ d ∨ d' ≤ dep + (P.cntS n I : Nat))) := by
  have HV := Lib.hid hv
  have T := Lib.hid hT
  have HR := Lib.hid hr
  have HN := Lib.hid hn
  have hop := hr.prio
  have hmp := hr.moves
  have hmany := hr.many
  have h0 := hr.pos
  rw [hn] at hop hmp hmany h0
  have HPN := Lib.hid hop
  obtain ⟨xba, xoa, xka, xbb, xob, xkb, xbc, xoc, xkc, e0, hca, hcb, hcc⟩ := hv.open_ hn hop hmp h0
  injection e0 with e0
  obtain ⟨⟨⟨rfl, rfl⟩, rfl⟩, ⟨⟨rfl, rfl⟩, rfl⟩, ⟨rfl, rfl⟩, rfl⟩ : (((ba = xba ∧ oa = xoa) ∧ ka = xka) ∧ ((bb = xbb ∧ ob = xob) ∧ kb = xkb) ∧ (bc_ = xbc ∧ oc = xoc) ∧ kc = xkc) := by simpa using e0
  have HCA := Lib.hid hca
  have HCB := Lib.hid hcb
  have HCC := Lib.hid hcc
  clear e0 hca hcb hcc hv hT hr hn hop hmp
  intro u
  induction u with
  | zero => exact fun I c d dep w h => absurd h (Nat.not_lt_zero _)
  | succ u ih =>
    intro I c d dep w hu hI hg hd0 hd1 hS hbv hbf hnv hnf
    have IH := Lib.hid ih
    have HU := Lib.hid hu
    have HI := Lib.hid hI
    have HG := Lib.hid hg
    have HS := Lib.hid hS
    have BV := Lib.hid hbv
    have BF := Lib.hid hbf
    have NV := Lib.hid hnv
    have NF := Lib.hid hnf
    have HD1 := Lib.hid hd1
    have HQ2 : Hid (qs < w.heap.size ∧ pc < w.heap.size ∧ qv < w.heap.size ∧ qf < w.heap.size ∧ w0.heap.size ≤ w.heap.size) := Lib.hid ⟨hS.box.lt, hS.plo.2, hbv.lt, hbf.lt, hS.low.size⟩
    have hd2 : dep ≤ 1000 := by omega
    have hcl := hS.len
    have HCL := Lib.hid hcl
    clear ih hu hI hg hS hbv hbf hnv hnf hd1 hcl
    obtain ⟨d2, hd2q⟩ : ∃ z, (if d < dep then dep else d) = z := ⟨_, rfl⟩
    have HMX := Lib.hid hd2q
    clear hd2q
    go_enter Tryd.func21, Tryd.ntmps21
    go_upto_region 1 with (fail)
    have bx0 : Box ((w.alloc (.cells #[.int .u64 (P.wrd I 0), .int .u64 (P.wrd I 1), .int .u64 (P.wrd I 2), .int .u64 (P.wrd I 3)] 37)).alloc (.cells #[.int .u64 0, .int .u64 0, .int .u64 0, .int .u64 0, .int .u64 0, .int .u64 0, .int .u64 0, .int .u64 0] 50)) (w.heap.size) 37 #[.int .u64 (P.wrd I 0), .int .u64 (P.wrd I 1), .int .u64 (P.wrd I 2), .int .u64 (P.wrd I 3)] := Box.alloc (Box.new w 37 #[.int .u64 (P.wrd I 0), .int .u64 (P.wrd I 1), .int .u64 (P.wrd I 2), .int .u64 (P.wrd I 3)]) (.cells #[.int .u64 0, .int .u64 0, .int .u64 0, .int .u64 0, .int .u64 0, .int .u64 0, .int .u64 0, .int .u64 0] 50)
    have bx1 : Box ((w.alloc (.cells #[.int .u64 (P.wrd I 0), .int .u64 (P.wrd I 1), .int .u64 (P.wrd I 2), .int .u64 (P.wrd I 3)] 37)).alloc (.cells #[.int .u64 0, .int .u64 0, .int .u64 0, .int .u64 0, .int .u64 0, .int .u64 0, .int .u64 0, .int .u64 0] 50)) (w.heap.size + 1) 50 #[.int .u64 0, .int .u64 0, .int .u64 0, .int .u64 0, .int .u64 0, .int .u64 0, .int .u64 0, .int .u64 0] := by
      have := Box.new (w.alloc (.cells #[.int .u64 (P.wrd I 0), .int .u64 (P.wrd I 1), .int .u64 (P.wrd I 2), .int .u64 (P.wrd I 3)] 37)) 50 #[.int .u64 0, .int .u64 0, .int .u64 0, .int .u64 0, .int .u64 0, .int .u64 0, .int .u64 0, .int .u64 0]
      simpa using this
    have hbq : Below w.heap.size w ((w.alloc (.cells #[.int .u64 (P.wrd I 0), .int .u64 (P.wrd I 1), .int .u64 (P.wrd I 2), .int .u64 (P.wrd I 3)] 37)).alloc (.cells #[.int .u64 0, .int .u64 0, .int .u64 0, .int .u64 0, .int .u64 0, .int .u64 0, .int .u64 0, .int .u64 0] 50)) := ((Below.refl _ w).alloc (Nat.le_refl _) _).alloc (by simp) _
    have lt0 : w.heap.size < w.heap.size + 1 := Nat.lt_succ_self _
    have hle0 : w.heap.size ≤ w.heap.size := Nat.le_refl _
    replace HS := Lib.hid (HS.out.on hbq)
    replace BV := Lib.hid (BV.out.keep (grown_of_below hbq none))
    replace BF := Lib.hid (BF.out.keep (grown_of_below hbq none))
    generalize ((w.alloc (.cells #[.int .u64 (P.wrd I 0), .int .u64 (P.wrd I 1), .int .u64 (P.wrd I 2), .int .u64 (P.wrd I 3)] 37)).alloc (.cells #[.int .u64 0, .int .u64 0, .int .u64 0, .int .u64 0, .int .u64 0, .int .u64 0, .int .u64 0, .int .u64 0] 50)) = w2 at bx0 bx1 hbq HS BV BF ⊢
    have BQi := Lib.hid bx0
    have BQr := Lib.hid bx1
    have W := Lib.hid hbq
    have LTir := Lib.hid lt0
    have LEi := Lib.hid hle0
    clear hbq hle0 bx0 bx1 lt0
    generalize w.heap.size + 1 = qr at BQr LTir ⊢
    obtain ⟨qi, hqi⟩ : ∃ qi, w.heap.size = qi := ⟨_, rfl⟩
    rw [hqi] at BQi LTir ⊢
    have LEi : Hid (w.heap.size ≤ qi) := Lib.hid (by omega)
    clear hqi
    have NQi : Hid (qi ≠ qs ∧ qi ≠ pc) := Lib.hid (by have h1 := LEi.out; have h2 := HQ2.out; omega)
    have NQr : Hid (qr ≠ qs ∧ qr ≠ pc) := Lib.hid (by have h1 := LEi.out; have h2 := HQ2.out; have h3 := LTir.out; omega)
    refine Rt.wp_region_tail 1 (fun idx => match idx with | 0 => (fun v _ _ => v = (.pointer (some ⟨qs, 0, none⟩))) | 1 => (fun v _ _ => v = (.pointer (some ⟨qs, 0, none⟩))) | 2 => (fun v _ _ => v = (.pointer (some ⟨qs, 0, none⟩))) | 3 => (fun v _ _ => v = (.pointer (some ⟨qs, 4, none⟩))) | 4 => (fun v _ _ => v = (.int .i64 d)) | 5 => (fun v _ _ => v = (.int .i64 dep)) | 6 => (fun v _ _ => v = (.int .i64 d2)) | 7 => (fun v _ _ => v = (.pointer (some ⟨qs, 0, none⟩))) | 8 => (fun v _ _ => v = (.pointer (some ⟨qs, 4, none⟩))) | _ => fun _ _ _ => True) (fun _ _ _ _ => True) (Rk.allK) 99 (by kernel_rfl) (by rfl) (by kernel_rfl) (by rfl) ?_ ?_ ?_ ?_
    · refine ⟨?_, ?_, ?_, ?_, ?_, ?_, ?_, ?_, ?_, trivial⟩
      · intro A w' K vals h hn hT hgk hK0
        have r0 : A.tmps[2]?.getD undef = (.pointer (some ⟨qv, 0, none⟩)) := Rg.slot h.1
        have c0 := (BV.out.keep (Rk.grown_of hgk)).cell 0 _ rfl
        clear h hn hT hgk
        simp [Oper.wp, execOp, go_sem, r0, c0]
        exact hK0 _ _ (Rk.Keeps.refl _ _) rfl trivial
      · intro A w' K vals h hn hT hgk hK0
        have r0 : A.tmps[2]?.getD undef = (.pointer (some ⟨qv, 0, none⟩)) := Rg.slot h.1
        have c0 := (BV.out.keep (Rk.grown_of hgk)).cell 0 _ rfl
        clear h hn hT hgk
        simp [Oper.wp, execOp, go_sem, r0, c0]
        exact hK0 _ _ (Rk.Keeps.refl _ _) rfl trivial
      · intro A w' K vals h hn hT hgk hK0
        have r0 : A.tmps[13]?.getD undef = vals 1 := Rg.slot h.1
        have s0 : vals 1 = .pointer (some ⟨qs, 0, none⟩) := hn.1
        clear h hn hT hgk
        simp [Oper.wp, execOp, go_sem, r0, s0]
        exact hK0 _ _ (Rk.Keeps.refl _ _) rfl trivial
      · intro A w' K vals h hn hT hgk hK0
        have r0 : A.tmps[14]?.getD undef = vals 2 := Rg.slot h.1
        have s0 : vals 2 = .pointer (some ⟨qs, 0, none⟩) := hn.1
        clear h hn hT hgk
        simp [Oper.wp, execOp, go_sem, r0, s0]
        exact hK0 _ _ (Rk.Keeps.refl _ _) rfl trivial
      · intro A w' K vals h hn hT hgk hK0
        have r0 : A.tmps[15]?.getD undef = vals 3 := Rg.slot (h.1)
        have r1 : vals 3 = (.pointer (some ⟨qs, 4, none⟩)) := hn.1
        have c : w'.cell? ⟨qs, 4, none⟩ = some (.int .i64 d) := (HS.out.box.keep (Rk.grown_of hgk)).cell 4 _ rfl
        clear h hn hT hgk
        simp [Oper.wp, execOp, go_sem, r0, r1, c]
        exact hK0 _ _ (Rk.Keeps.refl _ _) rfl trivial
      · intro A w' K vals h hn hT hgk hK0
        have r0 : A.tmps[1]?.getD undef = .int .i64 dep := Rg.slot h.1
        clear h hn hT hgk
        simp [Oper.wp, execOp, go_sem, r0]
        exact hK0 _ _ (Rk.Keeps.refl _ _) rfl trivial
      · intro A w' K vals h hn hT hgk hK0
        have r0 : A.tmps[16]?.getD undef = vals 4 := Rg.slot h.1
        have s0 : vals 4 = (.int .i64 d) := hn.1
        have r1 : A.tmps[17]?.getD undef = vals 5 := Rg.slot h.2.1
        have s1 : vals 5 = (.int .i64 dep) := hn.2.1
        clear h hn hT hgk
        simp [Oper.wp, go_sem, r0, r1, s0, s1, HMX.out]
        exact hK0 _ _ (Rk.Keeps.refl _ _) rfl trivial
      · intro A w' K vals h hn hT hgk hK0
        have r0 : A.tmps[12]?.getD undef = vals 0 := Rg.slot h.1
        have s0 : vals 0 = .pointer (some ⟨qs, 0, none⟩) := hn.1
        clear h hn hT hgk
        simp [Oper.wp, execOp, go_sem, r0, s0]
        exact hK0 _ _ (Rk.Keeps.refl _ _) rfl trivial
      · intro A w' K vals h hn hT hgk hK0
        have r0 : A.tmps[19]?.getD undef = vals 7 := Rg.slot h.1
        have s0 : vals 7 = .pointer (some ⟨qs, 0, none⟩) := hn.1
        clear h hn hT hgk
        simp [Oper.wp, execOp, go_sem, r0, s0]
        exact hK0 _ _ (Rk.Keeps.refl _ _) rfl trivial
    · refine ⟨?_, ?_, ?_, ?_, ?_, ?_, ?_, ?_, ?_, trivial⟩
      · exact fun _ _ _ _ _ _ h => h
      · exact fun _ _ _ _ _ _ h => h
      · exact fun _ _ _ _ _ _ h => h
      · exact fun _ _ _ _ _ _ h => h
      · exact fun _ _ _ _ _ _ h => h
      · exact fun _ _ _ _ _ _ h => h
      · exact fun _ _ _ _ _ _ h => h
      · exact fun _ _ _ _ _ _ h => h
      · exact fun _ _ _ _ _ _ h => h
    · exact fun _ _ _ _ _ _ h => h
    · intro vals w3 G hgk hS hG
      have s6 : vals 6 = .int .i64 d2 := hS.2.2.2.2.2.2.1
      have s8 : vals 8 = (.pointer (some ⟨qs, 4, none⟩)) := hS.2.2.2.2.2.2.2.2.1
      clear hS
      have hb := below_of_grown (Rk.grown_of hgk)
      replace HS := Lib.hid (HS.out.on hb)
      have HK : Hid (SlK qs pc w w3) := Lib.hid ((SlK.of W.out).trans (SlK.of hb))
      replace BV := Lib.hid (BV.out.keep (Rk.grown_of hgk))
      replace BF := Lib.hid (BF.out.keep (Rk.grown_of hgk))
      replace BQi := Lib.hid (BQi.out.keep (Rk.grown_of hgk))
      replace BQr := Lib.hid (BQr.out.keep (Rk.grown_of hgk))
      clear hb hgk
      refine hG ?_
      clear hG
      simp only [List.take, List.drop, List.length, Nat.reduceSub, Nat.reduceAdd, Rg.putAll, Act.put, List.setIfInBounds_toArray, List.set_cons_succ, List.set_cons_zero, s6, s8]
      clear s6 s8
      have hbb := HS.out.box
      have sc0 : w3.cell? ⟨qs, 0, none⟩ = some (.slice (some ⟨ba, oa, none⟩) n ka) := hbb.cell 0 _ rfl
      have sc1 : w3.cell? ⟨qs, 1, none⟩ = some (.slice (some ⟨bb, ob, none⟩) n kb) := hbb.cell 1 _ rfl
      have sc2 : w3.cell? ⟨qs, 2, none⟩ = some (.slice (some ⟨bc_, oc, none⟩) n kc) := hbb.cell 2 _ rfl
      have sc3 : w3.cell? ⟨qs, 3, none⟩ = some (.slice (some ⟨pc, 0, none⟩) n kq) := hbb.cell 3 _ rfl
      have sc4 : w3.cell? ⟨qs, 4, none⟩ = some (.int .i64 d) := hbb.cell 4 _ rfl
      clear hbb
      have sf4 := HS.out.box.frozen 4
      have HS3 := Lib.hid (HS.out.deep d2)
      have HK3 := Lib.hid (HK.out.trans (SlK.set (.inl rfl) 4 (.int .i64 d2)))
      have hko : Rk.Keeps (KN [qs]) w3 (w3.setCell ⟨qs, 4, none⟩ (.int .i64 d2)) := kn_set w3 qs 4 (.int .i64 d2)
      have BV := Lib.hid (kn_box hko BV.out (by simp [NV.out.1]))
      have BF := Lib.hid (kn_box hko BF.out (by simp [NF.out.1]))
      have BQi := Lib.hid (kn_box hko BQi.out (by simp [NQi.out.1]))
      have BQr := Lib.hid (kn_box hko BQr.out (by simp [NQr.out.1]))
      clear hko
      go_upto_region 2 with (fail)
      clear sc0 sc1 sc2 sc3 sc4 sf4 HS HK
      have HS := HS3
      have HK := HK3
      clear HS3 HK3
      generalize (w3.setCell ⟨qs, 4, none⟩ (.int .i64 d2)) = w4 at HS HK BV BF BQi BQr ⊢
      by_cases hI0 : I = 0#256
      · have he : ∀ w, (binOp .eql 37 (.agg #[.int .u64 (P.wrd I 0), .int .u64 (P.wrd I 1), .int .u64 (P.wrd I 2), .int .u64 (P.wrd I 3)]) (.agg #[.int .u64 0, .int .u64 0, .int .u64 0, .int .u64 0])).run Tryd.prog w = .ok (.bool true) w := fun w => by
          have h := set_eq I 0#256 w
          have e : ∀ k, P.wrd 0#256 k = 0 := P.wrd_zero
          rw [decide_eq_true hI0, e, e, e, e] at h
          exact h
        have HI0 := Lib.hid hI0
        clear hI0
        have hbb := BQi.out
        have ic0 : w4.cell? ⟨qi, 0, none⟩ = some (.int .u64 (P.wrd I 0)) := hbb.cell 0 _ rfl
        have ic1 : w4.cell? ⟨qi, 1, none⟩ = some (.int .u64 (P.wrd I 1)) := hbb.cell 1 _ rfl
        have ic2 : w4.cell? ⟨qi, 2, none⟩ = some (.int .u64 (P.wrd I 2)) := hbb.cell 2 _ rfl
        have ic3 : w4.cell? ⟨qi, 3, none⟩ = some (.int .u64 (P.wrd I 3)) := hbb.cell 3 _ rfl
        clear hbb
        have hbr := BQr.out
        have rc0 : w4.cell? ⟨qr, 0, none⟩ = some (.int .u64 0) := hbr.cell 0 _ rfl
        have rc1 : w4.cell? ⟨qr, 1, none⟩ = some (.int .u64 0) := hbr.cell 1 _ rfl
        have rc2 : w4.cell? ⟨qr, 2, none⟩ = some (.int .u64 0) := hbr.cell 2 _ rfl
        have rc3 : w4.cell? ⟨qr, 3, none⟩ = some (.int .u64 0) := hbr.cell 3 _ rfl
        have rc4 : w4.cell? ⟨qr, 4, none⟩ = some (.int .u64 0) := hbr.cell 4 _ rfl
        have rc5 : w4.cell? ⟨qr, 5, none⟩ = some (.int .u64 0) := hbr.cell 5 _ rfl
        have rc6 : w4.cell? ⟨qr, 6, none⟩ = some (.int .u64 0) := hbr.cell 6 _ rfl
        have rc7 : w4.cell? ⟨qr, 7, none⟩ = some (.int .u64 0) := hbr.cell 7 _ rfl
        have rf0 : w4.frozen? ⟨qr, 0, none⟩ = false := hbr.frozen 0
        have rf1 : w4.frozen? ⟨qr, 1, none⟩ = false := hbr.frozen 1
        have rf2 : w4.frozen? ⟨qr, 2, none⟩ = false := hbr.frozen 2
        have rf3 : w4.frozen? ⟨qr, 3, none⟩ = false := hbr.frozen 3
        have rf4 : w4.frozen? ⟨qr, 4, none⟩ = false := hbr.frozen 4
        have rf5 : w4.frozen? ⟨qr, 5, none⟩ = false := hbr.frozen 5
        have rf6 : w4.frozen? ⟨qr, 6, none⟩ = false := hbr.frozen 6
        have rf7 : w4.frozen? ⟨qr, 7, none⟩ = false := hbr.frozen 7
        clear hbr
        have BZ : Box ((((((((w4.setCell ⟨qr, 0, none⟩ (.int .u64 0)).setCell ⟨qr, 1, none⟩ (.int .u64 0)).setCell ⟨qr, 2, none⟩ (.int .u64 0)).setCell ⟨qr, 3, none⟩ (.int .u64 0)).setCell ⟨qr, 4, none⟩ (.int .u64 0)).setCell ⟨qr, 5, none⟩ (.int .u64 0)).setCell ⟨qr, 6, none⟩ (.int .u64 0)).setCell ⟨qr, 7, none⟩ (.int .u64 0)) qr 50 #[.int .u64 0, .int .u64 0, .int .u64 0, .int .u64 0, .int .u64 0, .int .u64 0, .int .u64 0, .int .u64 0] := box8 BQr.out _ _ _ _ _ _ _ _
        have hko : Rk.Keeps (KN [qr]) w4 ((((((((w4.setCell ⟨qr, 0, none⟩ (.int .u64 0)).setCell ⟨qr, 1, none⟩ (.int .u64 0)).setCell ⟨qr, 2, none⟩ (.int .u64 0)).setCell ⟨qr, 3, none⟩ (.int .u64 0)).setCell ⟨qr, 4, none⟩ (.int .u64 0)).setCell ⟨qr, 5, none⟩ (.int .u64 0)).setCell ⟨qr, 6, none⟩ (.int .u64 0)).setCell ⟨qr, 7, none⟩ (.int .u64 0)) := (((((((kn_set w4 qr 0 _).trans (kn_set _ qr 1 _)).trans (kn_set _ qr 2 _)).trans (kn_set _ qr 3 _)).trans (kn_set _ qr 4 _)).trans (kn_set _ qr 5 _)).trans (kn_set _ qr 6 _)).trans (kn_set _ qr 7 _)
        replace HS := Lib.hid (HS.out.kn hko NQr.out.1.symm NQr.out.2.symm (by have h1 := LEi.out; have h2 := HQ2.out; have h3 := LTir.out; omega))
        replace HK := Lib.hid (HK.out.one hko (by have h1 := LEi.out; have h3 := LTir.out; omega))
        clear hko
        have zc0 : (((((((((w4.setCell ⟨qr, 0, none⟩ (.int .u64 0)).setCell ⟨qr, 1, none⟩ (.int .u64 0)).setCell ⟨qr, 2, none⟩ (.int .u64 0)).setCell ⟨qr, 3, none⟩ (.int .u64 0)).setCell ⟨qr, 4, none⟩ (.int .u64 0)).setCell ⟨qr, 5, none⟩ (.int .u64 0)).setCell ⟨qr, 6, none⟩ (.int .u64 0)).setCell ⟨qr, 7, none⟩ (.int .u64 0))).cell? ⟨qr, 0, none⟩ = some (.int .u64 0) := BZ.cell 0 _ rfl
        have zc1 : (((((((((w4.setCell ⟨qr, 0, none⟩ (.int .u64 0)).setCell ⟨qr, 1, none⟩ (.int .u64 0)).setCell ⟨qr, 2, none⟩ (.int .u64 0)).setCell ⟨qr, 3, none⟩ (.int .u64 0)).setCell ⟨qr, 4, none⟩ (.int .u64 0)).setCell ⟨qr, 5, none⟩ (.int .u64 0)).setCell ⟨qr, 6, none⟩ (.int .u64 0)).setCell ⟨qr, 7, none⟩ (.int .u64 0))).cell? ⟨qr, 1, none⟩ = some (.int .u64 0) := BZ.cell 1 _ rfl
        have zc2 : (((((((((w4.setCell ⟨qr, 0, none⟩ (.int .u64 0)).setCell ⟨qr, 1, none⟩ (.int .u64 0)).setCell ⟨qr, 2, none⟩ (.int .u64 0)).setCell ⟨qr, 3, none⟩ (.int .u64 0)).setCell ⟨qr, 4, none⟩ (.int .u64 0)).setCell ⟨qr, 5, none⟩ (.int .u64 0)).setCell ⟨qr, 6, none⟩ (.int .u64 0)).setCell ⟨qr, 7, none⟩ (.int .u64 0))).cell? ⟨qr, 2, none⟩ = some (.int .u64 0) := BZ.cell 2 _ rfl
        have zc3 : (((((((((w4.setCell ⟨qr, 0, none⟩ (.int .u64 0)).setCell ⟨qr, 1, none⟩ (.int .u64 0)).setCell ⟨qr, 2, none⟩ (.int .u64 0)).setCell ⟨qr, 3, none⟩ (.int .u64 0)).setCell ⟨qr, 4, none⟩ (.int .u64 0)).setCell ⟨qr, 5, none⟩ (.int .u64 0)).setCell ⟨qr, 6, none⟩ (.int .u64 0)).setCell ⟨qr, 7, none⟩ (.int .u64 0))).cell? ⟨qr, 3, none⟩ = some (.int .u64 0) := BZ.cell 3 _ rfl
        have zc4 : (((((((((w4.setCell ⟨qr, 0, none⟩ (.int .u64 0)).setCell ⟨qr, 1, none⟩ (.int .u64 0)).setCell ⟨qr, 2, none⟩ (.int .u64 0)).setCell ⟨qr, 3, none⟩ (.int .u64 0)).setCell ⟨qr, 4, none⟩ (.int .u64 0)).setCell ⟨qr, 5, none⟩ (.int .u64 0)).setCell ⟨qr, 6, none⟩ (.int .u64 0)).setCell ⟨qr, 7, none⟩ (.int .u64 0))).cell? ⟨qr, 4, none⟩ = some (.int .u64 0) := BZ.cell 4 _ rfl
        have zc5 : (((((((((w4.setCell ⟨qr, 0, none⟩ (.int .u64 0)).setCell ⟨qr, 1, none⟩ (.int .u64 0)).setCell ⟨qr, 2, none⟩ (.int .u64 0)).setCell ⟨qr, 3, none⟩ (.int .u64 0)).setCell ⟨qr, 4, none⟩ (.int .u64 0)).setCell ⟨qr, 5, none⟩ (.int .u64 0)).setCell ⟨qr, 6, none⟩ (.int .u64 0)).setCell ⟨qr, 7, none⟩ (.int .u64 0))).cell? ⟨qr, 5, none⟩ = some (.int .u64 0) := BZ.cell 5 _ rfl
        have zc6 : (((((((((w4.setCell ⟨qr, 0, none⟩ (.int .u64 0)).setCell ⟨qr, 1, none⟩ (.int .u64 0)).setCell ⟨qr, 2, none⟩ (.int .u64 0)).setCell ⟨qr, 3, none⟩ (.int .u64 0)).setCell ⟨qr, 4, none⟩ (.int .u64 0)).setCell ⟨qr, 5, none⟩ (.int .u64 0)).setCell ⟨qr, 6, none⟩ (.int .u64 0)).setCell ⟨qr, 7, none⟩ (.int .u64 0))).cell? ⟨qr, 6, none⟩ = some (.int .u64 0) := BZ.cell 6 _ rfl
        have zc7 : (((((((((w4.setCell ⟨qr, 0, none⟩ (.int .u64 0)).setCell ⟨qr, 1, none⟩ (.int .u64 0)).setCell ⟨qr, 2, none⟩ (.int .u64 0)).setCell ⟨qr, 3, none⟩ (.int .u64 0)).setCell ⟨qr, 4, none⟩ (.int .u64 0)).setCell ⟨qr, 5, none⟩ (.int .u64 0)).setCell ⟨qr, 6, none⟩ (.int .u64 0)).setCell ⟨qr, 7, none⟩ (.int .u64 0))).cell? ⟨qr, 7, none⟩ = some (.int .u64 0) := BZ.cell 7 _ rfl
        clear BZ
        have HCE := Lib.hid (And.intro zc0 (And.intro zc1 (And.intro zc2 (And.intro zc3 (And.intro zc4 (And.intro zc5 (And.intro zc6 zc7)))))))
        clear zc0 zc1 zc2 zc3 zc4 zc5 zc6 zc7
        go_wp2_with fail
        obtain ⟨zc0, zc1, zc2, zc3, zc4, zc5, zc6, zc7⟩ := HCE.out
        refine bodyPost_ret (v := .agg #[.int .u64 0, .int .u64 0, .int .u64 0, .int .u64 0, .int .u64 0, .int .u64 0, .int .u64 0, .int .u64 0]) (by simp [results, Tryd.results21, go_sem, zc0, zc1, zc2, zc3, zc4, zc5, zc6, zc7]) rfl ⟨0#256, 0#256, c, d2, by have e : ∀ k, P.wrd 0#256 k = 0 := P.wrd_zero; rw [e, e, e, e], by rw [HI0.out]; exact P.Ap.none g 0 c, HS.out, HK.out, (by have := HMX.out; split at this <;> omega), (by have := HMX.out; split at this <;> omega), (by have := HMX.out; split at this <;> omega)⟩
      · have he : ∀ w, (binOp .eql 37 (.agg #[.int .u64 (P.wrd I 0), .int .u64 (P.wrd I 1), .int .u64 (P.wrd I 2), .int .u64 (P.wrd I 3)]) (.agg #[.int .u64 0, .int .u64 0, .int .u64 0, .int .u64 0])).run Tryd.prog w = .ok (.bool false) w := fun w => by
          have h := set_eq I 0#256 w
          have e : ∀ k, P.wrd 0#256 k = 0 := P.wrd_zero
          rw [decide_eq_false hI0, e, e, e, e] at h
          exact h
        have HI0 := Lib.hid hI0
        clear hI0
        have hv0 := BV.out.cell 0 _ rfl
        have hbb := BQi.out
        have ic0 : w4.cell? ⟨qi, 0, none⟩ = some (.int .u64 (P.wrd I 0)) := hbb.cell 0 _ rfl
        have ic1 : w4.cell? ⟨qi, 1, none⟩ = some (.int .u64 (P.wrd I 1)) := hbb.cell 1 _ rfl
        have ic2 : w4.cell? ⟨qi, 2, none⟩ = some (.int .u64 (P.wrd I 2)) := hbb.cell 2 _ rfl
        have ic3 : w4.cell? ⟨qi, 3, none⟩ = some (.int .u64 (P.wrd I 3)) := hbb.cell 3 _ rfl
        clear hbb
        go_wp2_with fail
        clear hv0 ic0 ic1 ic2 ic3
        refine (top_any g HR.out n HN.out w0 ba oa ka bb ob kb bc_ oc kc HV.out T.out qs pc kq c d2 w4 HS.out I HI.out HI0.out).mono ?_
        rintro e w5 ⟨z, To, rfl, hTo, hup, hex, hz0, hb⟩
        have HTO := Lib.hid hTo
        have HUP := Lib.hid hup
        have HEX := Lib.hid hex
        replace HS := Lib.hid (HS.out.on hb)
        replace HK := Lib.hid (HK.out.trans (SlK.of hb))
        replace BV := Lib.hid (BV.out.keep (grown_of_below hb none))
        replace BF := Lib.hid (BF.out.keep (grown_of_below hb none))
        replace BQi := Lib.hid (BQi.out.keep (grown_of_below hb none))
        replace BQr := Lib.hid (BQr.out.keep (grown_of_below hb none))
        clear hb hTo hup hex
        rcases (show z % 2 = 0 ∨ z % 2 = 1 by omega) with hp | hp
        · rw [hp]
          go_upto_region 5 with (fail)
          have hal := World.grownBy_alloc w5 (.cells #[.int .u64 (P.wrd To 0), .int .u64 (P.wrd To 1), .int .u64 (P.wrd To 2), .int .u64 (P.wrd To 3)] 37) none
          have bq : Box (w5.alloc (.cells #[.int .u64 (P.wrd To 0), .int .u64 (P.wrd To 1), .int .u64 (P.wrd To 2), .int .u64 (P.wrd To 3)] 37)) w5.heap.size 37 #[.int .u64 (P.wrd To 0), .int .u64 (P.wrd To 1), .int .u64 (P.wrd To 2), .int .u64 (P.wrd To 3)] := Box.new _ _ _
          have hlt : qr < w5.heap.size := BQr.out.lt
          have hnq := HS.out.ne_q (Nat.le_refl w5.heap.size)
          replace HS := Lib.hid (HS.out.on (below_of_grown hal))
          replace HK := Lib.hid (HK.out.trans (SlK.of (below_of_grown hal)))
          replace BV := Lib.hid (BV.out.keep hal)
          replace BF := Lib.hid (BF.out.keep hal)
          replace BQi := Lib.hid (BQi.out.keep hal)
          replace BQr := Lib.hid (BQr.out.keep hal)
          clear hal
          generalize (w5.alloc (.cells #[.int .u64 (P.wrd To 0), .int .u64 (P.wrd To 1), .int .u64 (P.wrd To 2), .int .u64 (P.wrd To 3)] 37)) = w6 at bq HS HK BV BF BQi BQr ⊢
          obtain ⟨q7, hq⟩ : ∃ q, w5.heap.size = q := ⟨_, rfl⟩
          rw [hq] at bq hlt hnq ⊢
          have BQT := Lib.hid bq
          have Lq7 : Hid (qr < q7) := Lib.hid hlt
          have NQT : Hid (q7 ≠ qs ∧ q7 ≠ pc) := Lib.hid hnq
          clear bq hlt hnq hq
          have hv0 := BV.out.cell 0 _ rfl
          have hbb := BQi.out
          have ic0 : w6.cell? ⟨qi, 0, none⟩ = some (.int .u64 (P.wrd I 0)) := hbb.cell 0 _ rfl
          have ic1 : w6.cell? ⟨qi, 1, none⟩ = some (.int .u64 (P.wrd I 1)) := hbb.cell 1 _ rfl
          have ic2 : w6.cell? ⟨qi, 2, none⟩ = some (.int .u64 (P.wrd I 2)) := hbb.cell 2 _ rfl
          have ic3 : w6.cell? ⟨qi, 3, none⟩ = some (.int .u64 (P.wrd I 3)) := hbb.cell 3 _ rfl
          clear hbb
          have hbb := BQT.out
          have tc0 : w6.cell? ⟨q7, 0, none⟩ = some (.int .u64 (P.wrd To 0)) := hbb.cell 0 _ rfl
          have tc1 : w6.cell? ⟨q7, 1, none⟩ = some (.int .u64 (P.wrd To 1)) := hbb.cell 1 _ rfl
          have tc2 : w6.cell? ⟨q7, 2, none⟩ = some (.int .u64 (P.wrd To 2)) := hbb.cell 2 _ rfl
          have tc3 : w6.cell? ⟨q7, 3, none⟩ = some (.int .u64 (P.wrd To 3)) := hbb.cell 3 _ rfl
          clear hbb
          go_wp2_with fail
          clear hv0 ic0 ic1 ic2 ic3 tc0 tc1 tc2 tc3
          refine (force_any g HR.out n HN.out w0 ba oa ka bb ob kb bc_ oc kc HV.out T.out qs pc kq c d2 w6 HS.out 0 (by decide) I To).mono ?_
          rintro e w7 ⟨rfl, m, hm, hs, hk⟩
          replace BV := Lib.hid (hk.box BV.out NV.out.1 NV.out.2)
          replace BF := Lib.hid (hk.box BF.out NF.out.1 NF.out.2)
          replace BQi := Lib.hid (hk.box BQi.out NQi.out.1 NQi.out.2)
          replace BQr := Lib.hid (hk.box BQr.out NQr.out.1 NQr.out.2)
          replace BQT := Lib.hid (hk.box BQT.out NQT.out.1 NQT.out.2)
          replace HK := Lib.hid (HK.out.trans hk)
          replace HS := Lib.hid hs
          have HM := Lib.hid hm
          have HNX := Lib.hid (show (∀ j, P.Bit (I &&& ~~~(P.attOf g I 0 To)) j → j < n) ∧ P.Goes g (P.Bit (I &&& ~~~(P.attOf g I 0 To))) ∧ P.cntS n (I &&& ~~~(P.attOf g I 0 To)) + 1 ≤ P.cntS n I by
            obtain ⟨i, hi⟩ := HEX.out
            have h := P.ap_next HR.out (p := 0) (by decide) (fun j hj => by rw [HN.out]; exact HI.out j hj) HG.out hm ((HTO.out i).1 hi).1 hi
            rw [HN.out] at h
            exact h)
          clear hm hs hk
          go_upto_region 6 with (fail)
          have hal := World.grownBy_alloc w7 (.cells #[.int .u64 (P.wrd (P.attOf g I 0 To) 0), .int .u64 (P.wrd (P.attOf g I 0 To) 1), .int .u64 (P.wrd (P.attOf g I 0 To) 2), .int .u64 (P.wrd (P.attOf g I 0 To) 3)] 37) none
          have bq : Box (w7.alloc (.cells #[.int .u64 (P.wrd (P.attOf g I 0 To) 0), .int .u64 (P.wrd (P.attOf g I 0 To) 1), .int .u64 (P.wrd (P.attOf g I 0 To) 2), .int .u64 (P.wrd (P.attOf g I 0 To) 3)] 37)) w7.heap.size 37 #[.int .u64 (P.wrd (P.attOf g I 0 To) 0), .int .u64 (P.wrd (P.attOf g I 0 To) 1), .int .u64 (P.wrd (P.attOf g I 0 To) 2), .int .u64 (P.wrd (P.attOf g I 0 To) 3)] := Box.new _ _ _
          have hlt : q7 < w7.heap.size := BQT.out.lt
          have hnq := HS.out.ne_q (Nat.le_refl w7.heap.size)
          replace HS := Lib.hid (HS.out.on (below_of_grown hal))
          replace HK := Lib.hid (HK.out.trans (SlK.of (below_of_grown hal)))
          replace BV := Lib.hid (BV.out.keep hal)
          replace BF := Lib.hid (BF.out.keep hal)
          replace BQi := Lib.hid (BQi.out.keep hal)
          replace BQr := Lib.hid (BQr.out.keep hal)
          replace BQT := Lib.hid (BQT.out.keep hal)
          clear hal
          generalize (w7.alloc (.cells #[.int .u64 (P.wrd (P.attOf g I 0 To) 0), .int .u64 (P.wrd (P.attOf g I 0 To) 1), .int .u64 (P.wrd (P.attOf g I 0 To) 2), .int .u64 (P.wrd (P.attOf g I 0 To) 3)] 37)) = w8 at bq HS HK BV BF BQi BQr BQT ⊢
          obtain ⟨q9, hq⟩ : ∃ q, w7.heap.size = q := ⟨_, rfl⟩
          rw [hq] at bq hlt hnq ⊢
          have BQA := Lib.hid bq
          have Lq9 : Hid (q7 < q9) := Lib.hid hlt
          have NQA : Hid (q9 ≠ qs ∧ q9 ≠ pc) := Lib.hid hnq
          clear bq hlt hnq hq
          have HQ8 : Hid (qs < w8.heap.size ∧ pc < w8.heap.size) := Lib.hid ⟨HS.out.box.lt, HS.out.plo.2⟩
          refine Rt.wp_region_tail 1 (fun idx => match idx with | 0 => (fun v _ _ => v = (.func (.func 21) #[] #[.pointer (some ⟨qv, 0, none⟩), .pointer (some ⟨qf, 0, none⟩)])) | 1 => (fun v _ _ => v = .agg #[.int .u64 (P.wrd I 0), .int .u64 (P.wrd I 1), .int .u64 (P.wrd I 2), .int .u64 (P.wrd I 3)]) | 2 => (fun v _ _ => v = .agg #[.int .u64 (P.wrd (P.attOf g I 0 To) 0), .int .u64 (P.wrd (P.attOf g I 0 To) 1), .int .u64 (P.wrd (P.attOf g I 0 To) 2), .int .u64 (P.wrd (P.attOf g I 0 To) 3)]) | 3 => (fun v _ _ => v = .agg #[.int .u64 (P.wrd (I &&& ~~~(P.attOf g I 0 To)) 0), .int .u64 (P.wrd (I &&& ~~~(P.attOf g I 0 To)) 1), .int .u64 (P.wrd (I &&& ~~~(P.attOf g I 0 To)) 2), .int .u64 (P.wrd (I &&& ~~~(P.attOf g I 0 To)) 3)]) | 4 => (fun v _ _ => v = (.int .i64 dep)) | 5 => (fun v _ _ => v = (.int .i64 (dep + 1))) | 6 => (fun v _ w' => (∃ X Y c1 d1, v = .agg #[.int .u64 (P.wrd X 0), .int .u64 (P.wrd X 1), .int .u64 (P.wrd X 2), .int .u64 (P.wrd X 3), .int .u64 (P.wrd Y 0), .int .u64 (P.wrd Y 1), .int .u64 (P.wrd Y 2), .int .u64 (P.wrd Y 3)] ∧ P.Ap g 0 (I &&& ~~~(P.attOf g I 0 To)) X Y (P.frc c m) c1 ∧ Sl w0 w' qs pc n kq (.slice (some ⟨ba, oa, none⟩) n ka) (.slice (some ⟨bb, ob, none⟩) n kb) (.slice (some ⟨bc_, oc, none⟩) n kc) c1 d1 ∧ d2 ≤ d1 ∧ dep + 1 ≤ d1 ∧ (d1 ≤ d2 ∨ d1 ≤ dep + 1 + (P.cntS n (I &&& ~~~(P.attOf g I 0 To)) : Nat)))) | 7 => (fun v _ w' => ∃ q, v = .pointer (some ⟨q, 0, none⟩) ∧ w8.heap.size ≤ q ∧ Box w' q 50 #[.int .u64 0, .int .u64 0, .int .u64 0, .int .u64 0, .int .u64 0, .int .u64 0, .int .u64 0, .int .u64 0]) | _ => fun _ _ _ => True) (fun _ _ _ _ => True) (KN [qs, pc]) 6 (by kernel_rfl) (by rfl) (by kernel_rfl) (by rfl) ?_ ?_ ?_ ?_
          · refine ⟨?_, ?_, ?_, ?_, ?_, ?_, ?_, ?_, trivial⟩
            · intro A w' K vals h hn hT hgk hK0
              have r0 : A.tmps[3]?.getD undef = (.pointer (some ⟨qf, 0, none⟩)) := Rg.slot h.1
              have bs := kn_box hgk BF.out (by simp [NF.out.1, NF.out.2])
              have cc0 : w'.cell? ⟨qf, 0, none⟩ = some (.func (.func 21) #[] #[.pointer (some ⟨qv, 0, none⟩), .pointer (some ⟨qf, 0, none⟩)]) := bs.cell 0 _ rfl
              clear h hn hT hgk bs
              simp [Oper.wp, execOp, go_sem, r0, cc0]
              exact hK0 _ _ (Rk.Keeps.refl _ _) rfl trivial
            · intro A w' K vals h hn hT hgk hK0
              have r0 : A.tmps[4]?.getD undef = (.pointer (some ⟨qi, 0, none⟩)) := Rg.slot h.1
              have bs := kn_box hgk BQi.out (by simp [NQi.out.1, NQi.out.2])
              have cc0 : w'.cell? ⟨qi, 0, none⟩ = some (.int .u64 (P.wrd I 0)) := bs.cell 0 _ rfl
              have cc1 : w'.cell? ⟨qi, 1, none⟩ = some (.int .u64 (P.wrd I 1)) := bs.cell 1 _ rfl
              have cc2 : w'.cell? ⟨qi, 2, none⟩ = some (.int .u64 (P.wrd I 2)) := bs.cell 2 _ rfl
              have cc3 : w'.cell? ⟨qi, 3, none⟩ = some (.int .u64 (P.wrd I 3)) := bs.cell 3 _ rfl
              clear h hn hT hgk bs
              simp [Oper.wp, execOp, go_sem, r0, cc0, cc1, cc2, cc3]
              exact hK0 _ _ (Rk.Keeps.refl _ _) rfl trivial
            · intro A w' K vals h hn hT hgk hK0
              have r0 : A.tmps[9]?.getD undef = (.pointer (some ⟨q9, 0, none⟩)) := Rg.slot h.1
              have bs := kn_box hgk BQA.out (by simp [NQA.out.1, NQA.out.2])
              have cc0 : w'.cell? ⟨q9, 0, none⟩ = some (.int .u64 (P.wrd (P.attOf g I 0 To) 0)) := bs.cell 0 _ rfl
              have cc1 : w'.cell? ⟨q9, 1, none⟩ = some (.int .u64 (P.wrd (P.attOf g I 0 To) 1)) := bs.cell 1 _ rfl
              have cc2 : w'.cell? ⟨q9, 2, none⟩ = some (.int .u64 (P.wrd (P.attOf g I 0 To) 2)) := bs.cell 2 _ rfl
              have cc3 : w'.cell? ⟨q9, 3, none⟩ = some (.int .u64 (P.wrd (P.attOf g I 0 To) 3)) := bs.cell 3 _ rfl
              clear h hn hT hgk bs
              simp [Oper.wp, execOp, go_sem, r0, cc0, cc1, cc2, cc3]
              exact hK0 _ _ (Rk.Keeps.refl _ _) rfl trivial
            · intro A w' K vals h hn hT hgk hK0
              have r0 : A.tmps[37]?.getD undef = vals 1 := Rg.slot h.2.1
              have r1 : A.tmps[38]?.getD undef = vals 2 := Rg.slot h.2.2.1
              have s0 : vals 1 = .agg #[.int .u64 (P.wrd I 0), .int .u64 (P.wrd I 1), .int .u64 (P.wrd I 2), .int .u64 (P.wrd I 3)] := hn.1
              have s1 : vals 2 = .agg #[.int .u64 (P.wrd (P.attOf g I 0 To) 0), .int .u64 (P.wrd (P.attOf g I 0 To) 1), .int .u64 (P.wrd (P.attOf g I 0 To) 2), .int .u64 (P.wrd (P.attOf g I 0 To) 3)] := hn.2.1
              clear h hn hT hgk
              simp [Oper.wp, go_sem, r0, r1, s0, s1]
              refine (minus_any _ _ w').mono ?_
              rintro e w'' ⟨rfl, hb⟩
              exact hK0 _ _ (Rk.keep_of (grown_of_below hb _)) rfl trivial
            · intro A w' K vals h hn hT hgk hK0
              have r0 : A.tmps[1]?.getD undef = .int .i64 dep := Rg.slot h.1
              clear h hn hT hgk
              simp [Oper.wp, execOp, go_sem, r0]
              exact hK0 _ _ (Rk.Keeps.refl _ _) rfl trivial
            · intro A w' K vals h hn hT hgk hK0
              have r0 : A.tmps[40]?.getD undef = vals 4 := Rg.slot h.1
              have s0 : vals 4 = (.int .i64 dep) := hn.1
              clear h hn hT hgk
              have hw : IntKind.i64.wrap (dep + 1) = dep + 1 := by rw [IntKind.wrap_i64]; omega
              simp [Oper.wp, execOp, go_sem, r0, s0, hw]
              exact hK0 _ _ (Rk.Keeps.refl _ _) rfl trivial
            · intro A w' K vals h hn hT hgk hK0
              have r0 : A.tmps[36]?.getD undef = vals 0 := Rg.slot h.1
              have r1 : A.tmps[39]?.getD undef = vals 3 := Rg.slot h.2.1
              have r2 : A.tmps[41]?.getD undef = vals 5 := Rg.slot h.2.2.1
              have s0 : vals 0 = .func (.func 21) #[] #[.pointer (some ⟨qv, 0, none⟩), .pointer (some ⟨qf, 0, none⟩)] := hn.1
              have s1 : vals 3 = .agg #[.int .u64 (P.wrd (I &&& ~~~(P.attOf g I 0 To)) 0), .int .u64 (P.wrd (I &&& ~~~(P.attOf g I 0 To)) 1), .int .u64 (P.wrd (I &&& ~~~(P.attOf g I 0 To)) 2), .int .u64 (P.wrd (I &&& ~~~(P.attOf g I 0 To)) 3)] := hn.2.1
              have s2 : vals 5 = .int .i64 (dep + 1) := hn.2.2.1
              have hs := HS.out.on (below_of_grown (Rk.grown_of hgk))
              have hbv := BV.out.keep (Rk.grown_of hgk)
              have hbf := BF.out.keep (Rk.grown_of hgk)
              clear h hn hT hgk
              simp [Oper.wp, go_sem, r0, r1, r2, s0, s1, s2]
              refine (IH.out (I &&& ~~~(P.attOf g I 0 To)) (P.frc c m) d2 (dep + 1) w' (by have h1 := HU.out; have h2 := HNX.out.2.2; omega) HNX.out.1 HNX.out.2.1 (by omega) (by have h1 := HD1.out; have h2 := HNX.out.2.2; omega) hs hbv hbf NV.out NF.out).mono ?_
              rintro e w'' ⟨X, Y, c1, d1, rfl, hap, hs, hk, h1, h2, h3⟩
              exact hK0 _ _ hk.kn ⟨X, Y, c1, d1, rfl, hap, hs, h1, h2, h3⟩ trivial
            · intro A w' K vals h hn hT hgk hK0
              have hsz := hgk.size
              clear h hn hT
              simp [Oper.wp, execOp, go_sem]
              exact hK0 _ _ (Rk.keep_of (World.grownBy_alloc _ _ _)) ⟨_, rfl, hsz, Box.new _ _ _⟩ trivial
          · refine ⟨?_, ?_, ?_, ?_, ?_, ?_, ?_, ?_, trivial⟩
            · exact fun _ _ _ _ _ _ h => h
            · exact fun _ _ _ _ _ _ h => h
            · exact fun _ _ _ _ _ _ h => h
            · exact fun _ _ _ _ _ _ h => h
            · exact fun _ _ _ _ _ _ h => h
            · exact fun _ _ _ _ _ _ h => h
            · exact fun _ _ _ _ _ h ⟨X, Y, c1, d1, h1, h2, h3, h4⟩ => ⟨X, Y, c1, d1, h1, h2, h3.on (below_of_grown (Rk.grown_of h)), h4⟩
            · exact fun _ _ _ _ _ h ⟨q, h1, h2, h3⟩ => ⟨q, h1, h2, kn_box h h3 (by have := HQ8.out; simp; omega)⟩
          · exact fun _ _ _ _ _ _ h => h
          · intro vals w9 G hgk hS hG
            obtain ⟨X, Y, c1, d1, s6, hap, hs, hd3, hd4, hd5⟩ : (∃ X Y c1 d1, vals 6 = .agg #[.int .u64 (P.wrd X 0), .int .u64 (P.wrd X 1), .int .u64 (P.wrd X 2), .int .u64 (P.wrd X 3), .int .u64 (P.wrd Y 0), .int .u64 (P.wrd Y 1), .int .u64 (P.wrd Y 2), .int .u64 (P.wrd Y 3)] ∧ P.Ap g 0 (I &&& ~~~(P.attOf g I 0 To)) X Y (P.frc c m) c1 ∧ Sl w0 w9 qs pc n kq (.slice (some ⟨ba, oa, none⟩) n ka) (.slice (some ⟨bb, ob, none⟩) n kb) (.slice (some ⟨bc_, oc, none⟩) n kc) c1 d1 ∧ d2 ≤ d1 ∧ dep + 1 ≤ d1 ∧ (d1 ≤ d2 ∨ d1 ≤ dep + 1 + (P.cntS n (I &&& ~~~(P.attOf g I 0 To)) : Nat))) := hS.2.2.2.2.2.2.1
            obtain ⟨q10, s7, hq10, hb10⟩ : ∃ q, vals 7 = .pointer (some ⟨q, 0, none⟩) ∧ w8.heap.size ≤ q ∧ Box w9 q 50 #[.int .u64 0, .int .u64 0, .int .u64 0, .int .u64 0, .int .u64 0, .int .u64 0, .int .u64 0, .int .u64 0] := hS.2.2.2.2.2.2.2.1
            clear hS
            have hk := kn_slk hgk
            have HAP := Lib.hid hap
            have HDD := Lib.hid (And.intro hd3 (And.intro hd4 hd5))
            have Lq10 : Hid (q9 < q10) := Lib.hid (Nat.lt_of_lt_of_le BQA.out.lt hq10)
            have NQp : Hid (q10 ≠ qs ∧ q10 ≠ pc) := Lib.hid (by have := HQ8.out; omega)
            have BQp := Lib.hid hb10
            replace BV := Lib.hid (hk.box BV.out NV.out.1 NV.out.2)
            replace BF := Lib.hid (hk.box BF.out NF.out.1 NF.out.2)
            replace BQi := Lib.hid (hk.box BQi.out NQi.out.1 NQi.out.2)
            replace BQr := Lib.hid (hk.box BQr.out NQr.out.1 NQr.out.2)
            replace BQT := Lib.hid (hk.box BQT.out NQT.out.1 NQT.out.2)
            replace BQA := Lib.hid (hk.box BQA.out NQA.out.1 NQA.out.2)
            replace HK := Lib.hid (HK.out.trans hk)
            replace HS := Lib.hid hs
            clear hgk hk hap hs hd3 hd4 hd5 hq10 hb10
            refine hG ?_
            clear hG
            simp only [List.take, List.drop, List.length, Nat.reduceSub, Nat.reduceAdd, Rg.putAll, Act.put, List.setIfInBounds_toArray, List.set_cons_succ, List.set_cons_zero, s6, s7]
            clear s6 s7
            have hbo := BQp.out
            have rc0 : w9.cell? ⟨q10, 0, none⟩ = some (.int .u64 0) := hbo.cell 0 _ rfl
            have rc1 : w9.cell? ⟨q10, 1, none⟩ = some (.int .u64 0) := hbo.cell 1 _ rfl
            have rc2 : w9.cell? ⟨q10, 2, none⟩ = some (.int .u64 0) := hbo.cell 2 _ rfl
            have rc3 : w9.cell? ⟨q10, 3, none⟩ = some (.int .u64 0) := hbo.cell 3 _ rfl
            have rc4 : w9.cell? ⟨q10, 4, none⟩ = some (.int .u64 0) := hbo.cell 4 _ rfl
            have rc5 : w9.cell? ⟨q10, 5, none⟩ = some (.int .u64 0) := hbo.cell 5 _ rfl
            have rc6 : w9.cell? ⟨q10, 6, none⟩ = some (.int .u64 0) := hbo.cell 6 _ rfl
            have rc7 : w9.cell? ⟨q10, 7, none⟩ = some (.int .u64 0) := hbo.cell 7 _ rfl
            have rf0 : w9.frozen? ⟨q10, 0, none⟩ = false := hbo.frozen 0
            have rf1 : w9.frozen? ⟨q10, 1, none⟩ = false := hbo.frozen 1
            have rf2 : w9.frozen? ⟨q10, 2, none⟩ = false := hbo.frozen 2
            have rf3 : w9.frozen? ⟨q10, 3, none⟩ = false := hbo.frozen 3
            have rf4 : w9.frozen? ⟨q10, 4, none⟩ = false := hbo.frozen 4
            have rf5 : w9.frozen? ⟨q10, 5, none⟩ = false := hbo.frozen 5
            have rf6 : w9.frozen? ⟨q10, 6, none⟩ = false := hbo.frozen 6
            have rf7 : w9.frozen? ⟨q10, 7, none⟩ = false := hbo.frozen 7
            clear hbo
            have BZ : Box ((((((((w9.setCell ⟨q10, 0, none⟩ (.int .u64 (P.wrd X 0))).setCell ⟨q10, 1, none⟩ (.int .u64 (P.wrd X 1))).setCell ⟨q10, 2, none⟩ (.int .u64 (P.wrd X 2))).setCell ⟨q10, 3, none⟩ (.int .u64 (P.wrd X 3))).setCell ⟨q10, 4, none⟩ (.int .u64 (P.wrd Y 0))).setCell ⟨q10, 5, none⟩ (.int .u64 (P.wrd Y 1))).setCell ⟨q10, 6, none⟩ (.int .u64 (P.wrd Y 2))).setCell ⟨q10, 7, none⟩ (.int .u64 (P.wrd Y 3))) q10 50 #[.int .u64 (P.wrd X 0), .int .u64 (P.wrd X 1), .int .u64 (P.wrd X 2), .int .u64 (P.wrd X 3), .int .u64 (P.wrd Y 0), .int .u64 (P.wrd Y 1), .int .u64 (P.wrd Y 2), .int .u64 (P.wrd Y 3)] := box8 BQp.out _ _ _ _ _ _ _ _
            have hko : Rk.Keeps (KN [q10]) w9 ((((((((w9.setCell ⟨q10, 0, none⟩ (.int .u64 (P.wrd X 0))).setCell ⟨q10, 1, none⟩ (.int .u64 (P.wrd X 1))).setCell ⟨q10, 2, none⟩ (.int .u64 (P.wrd X 2))).setCell ⟨q10, 3, none⟩ (.int .u64 (P.wrd X 3))).setCell ⟨q10, 4, none⟩ (.int .u64 (P.wrd Y 0))).setCell ⟨q10, 5, none⟩ (.int .u64 (P.wrd Y 1))).setCell ⟨q10, 6, none⟩ (.int .u64 (P.wrd Y 2))).setCell ⟨q10, 7, none⟩ (.int .u64 (P.wrd Y 3))) := (((((((kn_set w9 q10 0 _).trans (kn_set _ q10 1 _)).trans (kn_set _ q10 2 _)).trans (kn_set _ q10 3 _)).trans (kn_set _ q10 4 _)).trans (kn_set _ q10 5 _)).trans (kn_set _ q10 6 _)).trans (kn_set _ q10 7 _)
            replace HS := Lib.hid (HS.out.kn hko NQp.out.1.symm NQp.out.2.symm (by have h1 := LEi.out; have h2 := HQ2.out; have h3 := LTir.out; have h4 := Lq7.out; have h5 := Lq9.out; have h6 := Lq10.out; omega))
            replace HK := Lib.hid (HK.out.one hko (by have h1 := LEi.out; have h2 := HQ2.out; have h3 := LTir.out; have h4 := Lq7.out; have h5 := Lq9.out; have h6 := Lq10.out; omega))
            replace BV := Lib.hid (kn_box hko BV.out (by have hne : qv ≠ q10 := (by have h1 := LEi.out; have h2 := HQ2.out; have h3 := LTir.out; have h4 := Lq7.out; have h5 := Lq9.out; have h6 := Lq10.out; omega); simp [hne]))
            replace BF := Lib.hid (kn_box hko BF.out (by have hne : qf ≠ q10 := (by have h1 := LEi.out; have h2 := HQ2.out; have h3 := LTir.out; have h4 := Lq7.out; have h5 := Lq9.out; have h6 := Lq10.out; omega); simp [hne]))
            replace BQi := Lib.hid (kn_box hko BQi.out (by have hne : qi ≠ q10 := (by have h1 := LEi.out; have h2 := HQ2.out; have h3 := LTir.out; have h4 := Lq7.out; have h5 := Lq9.out; have h6 := Lq10.out; omega); simp [hne]))
            replace BQr := Lib.hid (kn_box hko BQr.out (by have hne : qr ≠ q10 := (by have h1 := LEi.out; have h2 := HQ2.out; have h3 := LTir.out; have h4 := Lq7.out; have h5 := Lq9.out; have h6 := Lq10.out; omega); simp [hne]))
            replace BQT := Lib.hid (kn_box hko BQT.out (by have hne : q7 ≠ q10 := (by have h1 := LEi.out; have h2 := HQ2.out; have h3 := LTir.out; have h4 := Lq7.out; have h5 := Lq9.out; have h6 := Lq10.out; omega); simp [hne]))
            replace BQA := Lib.hid (kn_box hko BQA.out (by have hne : q9 ≠ q10 := (by have h1 := LEi.out; have h2 := HQ2.out; have h3 := LTir.out; have h4 := Lq7.out; have h5 := Lq9.out; have h6 := Lq10.out; omega); simp [hne]))
            replace BQp := Lib.hid BZ
            clear hko BZ
            go_upto_region 7 with (fail)
            generalize ((((((((w9.setCell ⟨q10, 0, none⟩ (.int .u64 (P.wrd X 0))).setCell ⟨q10, 1, none⟩ (.int .u64 (P.wrd X 1))).setCell ⟨q10, 2, none⟩ (.int .u64 (P.wrd X 2))).setCell ⟨q10, 3, none⟩ (.int .u64 (P.wrd X 3))).setCell ⟨q10, 4, none⟩ (.int .u64 (P.wrd Y 0))).setCell ⟨q10, 5, none⟩ (.int .u64 (P.wrd Y 1))).setCell ⟨q10, 6, none⟩ (.int .u64 (P.wrd Y 2))).setCell ⟨q10, 7, none⟩ (.int .u64 (P.wrd Y 3))) = w10 at HS HK BQp BV BF BQi BQr BQT BQA ⊢
            clear rc0 rf0 rc1 rf1 rc2 rf2 rc3 rf3 rc4 rf4 rc5 rf5 rc6 rf6 rc7 rf7
            by_cases hL : Y = 0#256
            · have hf : ∀ w, (binOp .eql 37 (.agg #[.int .u64 (P.wrd Y 0), .int .u64 (P.wrd Y 1), .int .u64 (P.wrd Y 2), .int .u64 (P.wrd Y 3)]) (.agg #[.int .u64 0, .int .u64 0, .int .u64 0, .int .u64 0])).run Tryd.prog w = .ok (.bool true) w := fun w => by
                have h := set_eq Y 0#256 w
                have e : ∀ k, P.wrd 0#256 k = 0 := P.wrd_zero
                rw [decide_eq_true hL, e, e, e, e] at h
                exact h
              have HL := Lib.hid hL
              clear hL
              have hbb := BQp.out
              have pc0 : w10.cell? ⟨q10, 0, none⟩ = some (.int .u64 (P.wrd X 0)) := hbb.cell 0 _ rfl
              have pc1 : w10.cell? ⟨q10, 1, none⟩ = some (.int .u64 (P.wrd X 1)) := hbb.cell 1 _ rfl
              have pc2 : w10.cell? ⟨q10, 2, none⟩ = some (.int .u64 (P.wrd X 2)) := hbb.cell 2 _ rfl
              have pc3 : w10.cell? ⟨q10, 3, none⟩ = some (.int .u64 (P.wrd X 3)) := hbb.cell 3 _ rfl
              have pc4 : w10.cell? ⟨q10, 4, none⟩ = some (.int .u64 (P.wrd Y 0)) := hbb.cell 4 _ rfl
              have pc5 : w10.cell? ⟨q10, 5, none⟩ = some (.int .u64 (P.wrd Y 1)) := hbb.cell 5 _ rfl
              have pc6 : w10.cell? ⟨q10, 6, none⟩ = some (.int .u64 (P.wrd Y 2)) := hbb.cell 6 _ rfl
              have pc7 : w10.cell? ⟨q10, 7, none⟩ = some (.int .u64 (P.wrd Y 3)) := hbb.cell 7 _ rfl
              clear hbb
              have hv0 := BV.out.cell 0 _ rfl
              have hbb := BQi.out
              have ic0 : w10.cell? ⟨qi, 0, none⟩ = some (.int .u64 (P.wrd I 0)) := hbb.cell 0 _ rfl
              have ic1 : w10.cell? ⟨qi, 1, none⟩ = some (.int .u64 (P.wrd I 1)) := hbb.cell 1 _ rfl
              have ic2 : w10.cell? ⟨qi, 2, none⟩ = some (.int .u64 (P.wrd I 2)) := hbb.cell 2 _ rfl
              have ic3 : w10.cell? ⟨qi, 3, none⟩ = some (.int .u64 (P.wrd I 3)) := hbb.cell 3 _ rfl
              clear hbb
              have hbb := BQT.out
              have tc0 : w10.cell? ⟨q7, 0, none⟩ = some (.int .u64 (P.wrd To 0)) := hbb.cell 0 _ rfl
              have tc1 : w10.cell? ⟨q7, 1, none⟩ = some (.int .u64 (P.wrd To 1)) := hbb.cell 1 _ rfl
              have tc2 : w10.cell? ⟨q7, 2, none⟩ = some (.int .u64 (P.wrd To 2)) := hbb.cell 2 _ rfl
              have tc3 : w10.cell? ⟨q7, 3, none⟩ = some (.int .u64 (P.wrd To 3)) := hbb.cell 3 _ rfl
              clear hbb
              go_wp2_with fail
              clear hv0 ic0 ic1 ic2 ic3 tc0 tc1 tc2 tc3 pc0 pc1 pc2 pc3 pc4 pc5 pc6 pc7
              refine (stay_any g HR.out n HN.out w0 ba oa ka bb ob kb bc_ oc kc HV.out T.out qs pc kq c1 d1 w10 HS.out 0 I To (fun i hi => HI.out i ((HTO.out i).1 hi).1)).mono ?_
              rintro e w11 ⟨rfl, hs, hk⟩
              replace BQi := Lib.hid (hk.box BQi.out NQi.out.1 NQi.out.2)
              replace BQr := Lib.hid (hk.box BQr.out NQr.out.1 NQr.out.2)
              replace BQp := Lib.hid (hk.box BQp.out NQp.out.1 NQp.out.2)
              replace HK := Lib.hid (HK.out.trans hk)
              replace HS := Lib.hid hs
              clear hk hs
              have hbb := BQi.out
              have ic0 : w11.cell? ⟨qi, 0, none⟩ = some (.int .u64 (P.wrd I 0)) := hbb.cell 0 _ rfl
              have ic1 : w11.cell? ⟨qi, 1, none⟩ = some (.int .u64 (P.wrd I 1)) := hbb.cell 1 _ rfl
              have ic2 : w11.cell? ⟨qi, 2, none⟩ = some (.int .u64 (P.wrd I 2)) := hbb.cell 2 _ rfl
              have ic3 : w11.cell? ⟨qi, 3, none⟩ = some (.int .u64 (P.wrd I 3)) := hbb.cell 3 _ rfl
              clear hbb
              have hbo := BQp.out
              have rc0 : w11.cell? ⟨q10, 0, none⟩ = some (.int .u64 (P.wrd X 0)) := hbo.cell 0 _ rfl
              have rc1 : w11.cell? ⟨q10, 1, none⟩ = some (.int .u64 (P.wrd X 1)) := hbo.cell 1 _ rfl
              have rc2 : w11.cell? ⟨q10, 2, none⟩ = some (.int .u64 (P.wrd X 2)) := hbo.cell 2 _ rfl
              have rc3 : w11.cell? ⟨q10, 3, none⟩ = some (.int .u64 (P.wrd X 3)) := hbo.cell 3 _ rfl
              have rc4 : w11.cell? ⟨q10, 4, none⟩ = some (.int .u64 (P.wrd Y 0)) := hbo.cell 4 _ rfl
              have rc5 : w11.cell? ⟨q10, 5, none⟩ = some (.int .u64 (P.wrd Y 1)) := hbo.cell 5 _ rfl
              have rc6 : w11.cell? ⟨q10, 6, none⟩ = some (.int .u64 (P.wrd Y 2)) := hbo.cell 6 _ rfl
              have rc7 : w11.cell? ⟨q10, 7, none⟩ = some (.int .u64 (P.wrd Y 3)) := hbo.cell 7 _ rfl
              have rf0 : w11.frozen? ⟨q10, 0, none⟩ = false := hbo.frozen 0
              have rf1 : w11.frozen? ⟨q10, 1, none⟩ = false := hbo.frozen 1
              have rf2 : w11.frozen? ⟨q10, 2, none⟩ = false := hbo.frozen 2
              have rf3 : w11.frozen? ⟨q10, 3, none⟩ = false := hbo.frozen 3
              have rf4 : w11.frozen? ⟨q10, 4, none⟩ = false := hbo.frozen 4
              have rf5 : w11.frozen? ⟨q10, 5, none⟩ = false := hbo.frozen 5
              have rf6 : w11.frozen? ⟨q10, 6, none⟩ = false := hbo.frozen 6
              have rf7 : w11.frozen? ⟨q10, 7, none⟩ = false := hbo.frozen 7
              clear hbo
              have BZ : Box ((((w11.setCell ⟨q10, 0, none⟩ (.int .u64 (P.wrd I 0))).setCell ⟨q10, 1, none⟩ (.int .u64 (P.wrd I 1))).setCell ⟨q10, 2, none⟩ (.int .u64 (P.wrd I 2))).setCell ⟨q10, 3, none⟩ (.int .u64 (P.wrd I 3))) q10 50 #[.int .u64 (P.wrd I 0), .int .u64 (P.wrd I 1), .int .u64 (P.wrd I 2), .int .u64 (P.wrd I 3), .int .u64 (P.wrd Y 0), .int .u64 (P.wrd Y 1), .int .u64 (P.wrd Y 2), .int .u64 (P.wrd Y 3)] := box4lo BQp.out _ _ _ _
              have hko : Rk.Keeps (KN [q10]) w11 ((((w11.setCell ⟨q10, 0, none⟩ (.int .u64 (P.wrd I 0))).setCell ⟨q10, 1, none⟩ (.int .u64 (P.wrd I 1))).setCell ⟨q10, 2, none⟩ (.int .u64 (P.wrd I 2))).setCell ⟨q10, 3, none⟩ (.int .u64 (P.wrd I 3))) := (((kn_set w11 q10 0 _).trans (kn_set _ q10 1 _)).trans (kn_set _ q10 2 _)).trans (kn_set _ q10 3 _)
              replace HS := Lib.hid (HS.out.kn hko NQp.out.1.symm NQp.out.2.symm (by have h1 := LEi.out; have h2 := HQ2.out; have h3 := LTir.out; have h4 := Lq7.out; have h5 := Lq9.out; have h6 := Lq10.out; omega))
              replace HK := Lib.hid (HK.out.one hko (by have h1 := LEi.out; have h2 := HQ2.out; have h3 := LTir.out; have h4 := Lq7.out; have h5 := Lq9.out; have h6 := Lq10.out; omega))
              replace BQr := Lib.hid (kn_box hko BQr.out (by have hne : qr ≠ q10 := (by have h1 := LEi.out; have h2 := HQ2.out; have h3 := LTir.out; have h4 := Lq7.out; have h5 := Lq9.out; have h6 := Lq10.out; omega); simp [hne]))
              replace BQp := Lib.hid BZ
              clear hko BZ
              go_upto_region 10 with (fail)
              generalize ((((w11.setCell ⟨q10, 0, none⟩ (.int .u64 (P.wrd I 0))).setCell ⟨q10, 1, none⟩ (.int .u64 (P.wrd I 1))).setCell ⟨q10, 2, none⟩ (.int .u64 (P.wrd I 2))).setCell ⟨q10, 3, none⟩ (.int .u64 (P.wrd I 3))) = w12 at HS HK BQp BQr ⊢
              clear rc0 rf0 rc1 rf1 rc2 rf2 rc3 rf3 rc4 rf4 rc5 rf5 rc6 rf6 rc7 rf7
              clear ic0 ic1 ic2 ic3
              have hbb := BQp.out
              have pc0 : w12.cell? ⟨q10, 0, none⟩ = some (.int .u64 (P.wrd I 0)) := hbb.cell 0 _ rfl
              have pc1 : w12.cell? ⟨q10, 1, none⟩ = some (.int .u64 (P.wrd I 1)) := hbb.cell 1 _ rfl
              have pc2 : w12.cell? ⟨q10, 2, none⟩ = some (.int .u64 (P.wrd I 2)) := hbb.cell 2 _ rfl
              have pc3 : w12.cell? ⟨q10, 3, none⟩ = some (.int .u64 (P.wrd I 3)) := hbb.cell 3 _ rfl
              have pc4 : w12.cell? ⟨q10, 4, none⟩ = some (.int .u64 (P.wrd Y 0)) := hbb.cell 4 _ rfl
              have pc5 : w12.cell? ⟨q10, 5, none⟩ = some (.int .u64 (P.wrd Y 1)) := hbb.cell 5 _ rfl
              have pc6 : w12.cell? ⟨q10, 6, none⟩ = some (.int .u64 (P.wrd Y 2)) := hbb.cell 6 _ rfl
              have pc7 : w12.cell? ⟨q10, 7, none⟩ = some (.int .u64 (P.wrd Y 3)) := hbb.cell 7 _ rfl
              clear hbb
              have hbo := BQr.out
              have rc0 : w12.cell? ⟨qr, 0, none⟩ = some (.int .u64 0) := hbo.cell 0 _ rfl
              have rc1 : w12.cell? ⟨qr, 1, none⟩ = some (.int .u64 0) := hbo.cell 1 _ rfl
              have rc2 : w12.cell? ⟨qr, 2, none⟩ = some (.int .u64 0) := hbo.cell 2 _ rfl
              have rc3 : w12.cell? ⟨qr, 3, none⟩ = some (.int .u64 0) := hbo.cell 3 _ rfl
              have rc4 : w12.cell? ⟨qr, 4, none⟩ = some (.int .u64 0) := hbo.cell 4 _ rfl
              have rc5 : w12.cell? ⟨qr, 5, none⟩ = some (.int .u64 0) := hbo.cell 5 _ rfl
              have rc6 : w12.cell? ⟨qr, 6, none⟩ = some (.int .u64 0) := hbo.cell 6 _ rfl
              have rc7 : w12.cell? ⟨qr, 7, none⟩ = some (.int .u64 0) := hbo.cell 7 _ rfl
              have rf0 : w12.frozen? ⟨qr, 0, none⟩ = false := hbo.frozen 0
              have rf1 : w12.frozen? ⟨qr, 1, none⟩ = false := hbo.frozen 1
              have rf2 : w12.frozen? ⟨qr, 2, none⟩ = false := hbo.frozen 2
              have rf3 : w12.frozen? ⟨qr, 3, none⟩ = false := hbo.frozen 3
              have rf4 : w12.frozen? ⟨qr, 4, none⟩ = false := hbo.frozen 4
              have rf5 : w12.frozen? ⟨qr, 5, none⟩ = false := hbo.frozen 5
              have rf6 : w12.frozen? ⟨qr, 6, none⟩ = false := hbo.frozen 6
              have rf7 : w12.frozen? ⟨qr, 7, none⟩ = false := hbo.frozen 7
              clear hbo
              have BZ : Box ((((((((w12.setCell ⟨qr, 0, none⟩ (.int .u64 (P.wrd I 0))).setCell ⟨qr, 1, none⟩ (.int .u64 (P.wrd I 1))).setCell ⟨qr, 2, none⟩ (.int .u64 (P.wrd I 2))).setCell ⟨qr, 3, none⟩ (.int .u64 (P.wrd I 3))).setCell ⟨qr, 4, none⟩ (.int .u64 (P.wrd Y 0))).setCell ⟨qr, 5, none⟩ (.int .u64 (P.wrd Y 1))).setCell ⟨qr, 6, none⟩ (.int .u64 (P.wrd Y 2))).setCell ⟨qr, 7, none⟩ (.int .u64 (P.wrd Y 3))) qr 50 #[.int .u64 (P.wrd I 0), .int .u64 (P.wrd I 1), .int .u64 (P.wrd I 2), .int .u64 (P.wrd I 3), .int .u64 (P.wrd Y 0), .int .u64 (P.wrd Y 1), .int .u64 (P.wrd Y 2), .int .u64 (P.wrd Y 3)] := box8 BQr.out _ _ _ _ _ _ _ _
              have hko : Rk.Keeps (KN [qr]) w12 ((((((((w12.setCell ⟨qr, 0, none⟩ (.int .u64 (P.wrd I 0))).setCell ⟨qr, 1, none⟩ (.int .u64 (P.wrd I 1))).setCell ⟨qr, 2, none⟩ (.int .u64 (P.wrd I 2))).setCell ⟨qr, 3, none⟩ (.int .u64 (P.wrd I 3))).setCell ⟨qr, 4, none⟩ (.int .u64 (P.wrd Y 0))).setCell ⟨qr, 5, none⟩ (.int .u64 (P.wrd Y 1))).setCell ⟨qr, 6, none⟩ (.int .u64 (P.wrd Y 2))).setCell ⟨qr, 7, none⟩ (.int .u64 (P.wrd Y 3))) := (((((((kn_set w12 qr 0 _).trans (kn_set _ qr 1 _)).trans (kn_set _ qr 2 _)).trans (kn_set _ qr 3 _)).trans (kn_set _ qr 4 _)).trans (kn_set _ qr 5 _)).trans (kn_set _ qr 6 _)).trans (kn_set _ qr 7 _)
              replace HS := Lib.hid (HS.out.kn hko NQr.out.1.symm NQr.out.2.symm (by have h1 := LEi.out; have h2 := HQ2.out; have h3 := LTir.out; have h4 := Lq7.out; have h5 := Lq9.out; have h6 := Lq10.out; omega))
              replace HK := Lib.hid (HK.out.one hko (by have h1 := LEi.out; have h2 := HQ2.out; have h3 := LTir.out; have h4 := Lq7.out; have h5 := Lq9.out; have h6 := Lq10.out; omega))
              replace BQp := Lib.hid (kn_box hko BQp.out (by have hne : q10 ≠ qr := (by have h1 := LEi.out; have h2 := HQ2.out; have h3 := LTir.out; have h4 := Lq7.out; have h5 := Lq9.out; have h6 := Lq10.out; omega); simp [hne]))
              replace BQr := Lib.hid BZ
              clear hko BZ
              go_wp2_with fail
              generalize ((((((((w12.setCell ⟨qr, 0, none⟩ (.int .u64 (P.wrd I 0))).setCell ⟨qr, 1, none⟩ (.int .u64 (P.wrd I 1))).setCell ⟨qr, 2, none⟩ (.int .u64 (P.wrd I 2))).setCell ⟨qr, 3, none⟩ (.int .u64 (P.wrd I 3))).setCell ⟨qr, 4, none⟩ (.int .u64 (P.wrd Y 0))).setCell ⟨qr, 5, none⟩ (.int .u64 (P.wrd Y 1))).setCell ⟨qr, 6, none⟩ (.int .u64 (P.wrd Y 2))).setCell ⟨qr, 7, none⟩ (.int .u64 (P.wrd Y 3))) = w13 at HS HK BQr BQp ⊢
              clear rc0 rf0 rc1 rf1 rc2 rf2 rc3 rf3 rc4 rf4 rc5 rf5 rc6 rf6 rc7 rf7
              clear pc0 pc1 pc2 pc3 pc4 pc5 pc6 pc7
              have zc0 : w13.cell? ⟨qr, 0, none⟩ = some (.int .u64 (P.wrd I 0)) := BQr.out.cell 0 _ rfl
              have zc1 : w13.cell? ⟨qr, 1, none⟩ = some (.int .u64 (P.wrd I 1)) := BQr.out.cell 1 _ rfl
              have zc2 : w13.cell? ⟨qr, 2, none⟩ = some (.int .u64 (P.wrd I 2)) := BQr.out.cell 2 _ rfl
              have zc3 : w13.cell? ⟨qr, 3, none⟩ = some (.int .u64 (P.wrd I 3)) := BQr.out.cell 3 _ rfl
              have zc4 : w13.cell? ⟨qr, 4, none⟩ = some (.int .u64 (P.wrd Y 0)) := BQr.out.cell 4 _ rfl
              have zc5 : w13.cell? ⟨qr, 5, none⟩ = some (.int .u64 (P.wrd Y 1)) := BQr.out.cell 5 _ rfl
              have zc6 : w13.cell? ⟨qr, 6, none⟩ = some (.int .u64 (P.wrd Y 2)) := BQr.out.cell 6 _ rfl
              have zc7 : w13.cell? ⟨qr, 7, none⟩ = some (.int .u64 (P.wrd Y 3)) := BQr.out.cell 7 _ rfl
              refine bodyPost_ret (v := .agg #[.int .u64 (P.wrd I 0), .int .u64 (P.wrd I 1), .int .u64 (P.wrd I 2), .int .u64 (P.wrd I 3), .int .u64 (P.wrd Y 0), .int .u64 (P.wrd Y 1), .int .u64 (P.wrd Y 2), .int .u64 (P.wrd Y 3)]) (by simp [results, Tryd.results21, go_sem, zc0, zc1, zc2, zc3, zc4, zc5, zc6, zc7]) rfl ⟨I, Y, (P.sty g 0 I To c1), d1, rfl, (by rw [HL.out]; exact P.ap_all HR.out (p := 0) (by decide) (fun j hj => by rw [HN.out]; exact HI.out j hj) HG.out HUP.out HTO.out hp (HCL.out.trans HN.out.symm) HM.out (by have h := HAP.out; rw [HL.out] at h; exact h)), HS.out, HK.out, (by have h1 := HMX.out; have h2 := HDD.out; have h3 := HNX.out.2.2; split at h1 <;> omega), (by have h1 := HMX.out; have h2 := HDD.out; have h3 := HNX.out.2.2; split at h1 <;> omega), (by have h1 := HMX.out; have h2 := HDD.out; have h3 := HNX.out.2.2; split at h1 <;> omega)⟩
            · have hf : ∀ w, (binOp .eql 37 (.agg #[.int .u64 (P.wrd Y 0), .int .u64 (P.wrd Y 1), .int .u64 (P.wrd Y 2), .int .u64 (P.wrd Y 3)]) (.agg #[.int .u64 0, .int .u64 0, .int .u64 0, .int .u64 0])).run Tryd.prog w = .ok (.bool false) w := fun w => by
                have h := set_eq Y 0#256 w
                have e : ∀ k, P.wrd 0#256 k = 0 := P.wrd_zero
                rw [decide_eq_false hL, e, e, e, e] at h
                exact h
              have HL := Lib.hid hL
              clear hL
              have hbb := BQp.out
              have pc0 : w10.cell? ⟨q10, 0, none⟩ = some (.int .u64 (P.wrd X 0)) := hbb.cell 0 _ rfl
              have pc1 : w10.cell? ⟨q10, 1, none⟩ = some (.int .u64 (P.wrd X 1)) := hbb.cell 1 _ rfl
              have pc2 : w10.cell? ⟨q10, 2, none⟩ = some (.int .u64 (P.wrd X 2)) := hbb.cell 2 _ rfl
              have pc3 : w10.cell? ⟨q10, 3, none⟩ = some (.int .u64 (P.wrd X 3)) := hbb.cell 3 _ rfl
              have pc4 : w10.cell? ⟨q10, 4, none⟩ = some (.int .u64 (P.wrd Y 0)) := hbb.cell 4 _ rfl
              have pc5 : w10.cell? ⟨q10, 5, none⟩ = some (.int .u64 (P.wrd Y 1)) := hbb.cell 5 _ rfl
              have pc6 : w10.cell? ⟨q10, 6, none⟩ = some (.int .u64 (P.wrd Y 2)) := hbb.cell 6 _ rfl
              have pc7 : w10.cell? ⟨q10, 7, none⟩ = some (.int .u64 (P.wrd Y 3)) := hbb.cell 7 _ rfl
              clear hbb
              go_upto_region 11 with (fail)
              clear pc0 pc1 pc2 pc3 pc4 pc5 pc6 pc7
              have HQ10 : Hid (qs < w10.heap.size ∧ pc < w10.heap.size) := Lib.hid ⟨HS.out.box.lt, HS.out.plo.2⟩
              refine Rt.wp_region_tail 1 (fun idx => match idx with | 0 => (fun v _ _ => v = (.pointer (some ⟨qs, 0, none⟩))) | 1 => (fun v _ _ => v = .agg #[.int .u64 (P.wrd I 0), .int .u64 (P.wrd I 1), .int .u64 (P.wrd I 2), .int .u64 (P.wrd I 3)]) | 2 => (fun v _ _ => v = (.int .i64 0)) | 3 => (fun v _ _ => v = (.int .i64 1)) | 4 => (fun v _ _ => v = (.int .i64 0)) | 5 => (fun v _ _ => v = (.int .i64 1)) | 6 => (fun v _ _ => v = (.pointer (some ⟨q10, 4, none⟩))) | 7 => (fun v _ _ => v = .agg #[.int .u64 (P.wrd Y 0), .int .u64 (P.wrd Y 1), .int .u64 (P.wrd Y 2), .int .u64 (P.wrd Y 3)]) | 8 => (fun v _ w' => (∃ m2, v = .agg #[.int .u64 (P.wrd (P.attOf g I 1 Y) 0), .int .u64 (P.wrd (P.attOf g I 1 Y) 1), .int .u64 (P.wrd (P.attOf g I 1 Y) 2), .int .u64 (P.wrd (P.attOf g I 1 Y) 3)] ∧ P.Played g (I &&& P.full (g.owner.length : Int)) 1 Y m2 ∧ Sl w0 w' qs pc n kq (.slice (some ⟨ba, oa, none⟩) n ka) (.slice (some ⟨bb, ob, none⟩) n kb) (.slice (some ⟨bc_, oc, none⟩) n kc) (P.frc c1 m2) d1)) | 9 => (fun v _ w' => ∃ q, v = .pointer (some ⟨q, 0, none⟩) ∧ w10.heap.size ≤ q ∧ Box w' q 37 #[.int .u64 0, .int .u64 0, .int .u64 0, .int .u64 0]) | _ => fun _ _ _ => True) (fun _ _ _ _ => True) (KN [qs, pc]) 8 (by kernel_rfl) (by rfl) (by kernel_rfl) (by rfl) ?_ ?_ ?_ ?_
              · refine ⟨?_, ?_, ?_, ?_, ?_, ?_, ?_, ?_, ?_, ?_, trivial⟩
                · intro A w' K vals h hn hT hgk hK0
                  have r0 : A.tmps[2]?.getD undef = (.pointer (some ⟨qv, 0, none⟩)) := Rg.slot h.1
                  have bs := kn_box hgk BV.out (by simp [NV.out.1, NV.out.2])
                  have cc0 : w'.cell? ⟨qv, 0, none⟩ = some (.pointer (some ⟨qs, 0, none⟩)) := bs.cell 0 _ rfl
                  clear h hn hT hgk bs
                  simp [Oper.wp, execOp, go_sem, r0, cc0]
                  exact hK0 _ _ (Rk.Keeps.refl _ _) rfl trivial
                · intro A w' K vals h hn hT hgk hK0
                  have r0 : A.tmps[4]?.getD undef = (.pointer (some ⟨qi, 0, none⟩)) := Rg.slot h.1
                  have bs := kn_box hgk BQi.out (by simp [NQi.out.1, NQi.out.2])
                  have cc0 : w'.cell? ⟨qi, 0, none⟩ = some (.int .u64 (P.wrd I 0)) := bs.cell 0 _ rfl
                  have cc1 : w'.cell? ⟨qi, 1, none⟩ = some (.int .u64 (P.wrd I 1)) := bs.cell 1 _ rfl
                  have cc2 : w'.cell? ⟨qi, 2, none⟩ = some (.int .u64 (P.wrd I 2)) := bs.cell 2 _ rfl
                  have cc3 : w'.cell? ⟨qi, 3, none⟩ = some (.int .u64 (P.wrd I 3)) := bs.cell 3 _ rfl
                  clear h hn hT hgk bs
                  simp [Oper.wp, execOp, go_sem, r0, cc0, cc1, cc2, cc3]
                  exact hK0 _ _ (Rk.Keeps.refl _ _) rfl trivial
                · intro A w' K vals h hn hT hgk hK0
                  have r0 : A.tmps[8]?.getD undef = .int .i64 0 := Rg.slot h.1
                  clear h hn hT hgk
                  simp [Oper.wp, execOp, go_sem, r0]
                  exact hK0 _ _ (Rk.Keeps.refl _ _) rfl trivial
                · intro A w' K vals h hn hT hgk hK0
                  have r0 : A.tmps[60]?.getD undef = vals 2 := Rg.slot h.2.1
                  have s0 : vals 2 = (.int .i64 0) := hn.1
                  clear h hn hT hgk
                  simp [Oper.wp, execOp, go_sem, r0, s0]
                  exact hK0 _ _ (Rk.Keeps.refl _ _) rfl trivial
                · intro A w' K vals h hn hT hgk hK0
                  have r0 : A.tmps[8]?.getD undef = .int .i64 0 := Rg.slot h.1
                  clear h hn hT hgk
                  simp [Oper.wp, execOp, go_sem, r0]
                  exact hK0 _ _ (Rk.Keeps.refl _ _) rfl trivial
                · intro A w' K vals h hn hT hgk hK0
                  have r0 : A.tmps[62]?.getD undef = vals 4 := Rg.slot h.2.1
                  have s0 : vals 4 = (.int .i64 0) := hn.1
                  clear h hn hT hgk
                  simp [Oper.wp, execOp, go_sem, r0, s0]
                  exact hK0 _ _ (Rk.Keeps.refl _ _) rfl trivial
                · intro A w' K vals h hn hT hgk hK0
                  have r0 : A.tmps[10]?.getD undef = .pointer (some ⟨q10, 0, none⟩) := Rg.slot h.1
                  have r1 : A.tmps[63]?.getD undef = vals 5 := Rg.slot h.2.1
                  have s1 : vals 5 = (.int .i64 1) := hn.1
                  clear h hn hT hgk
                  simp [Oper.wp, execOp, go_sem, r0, r1, s1]
                  exact hK0 _ _ (Rk.Keeps.refl _ _) rfl trivial
                · intro A w' K vals h hn hT hgk hK0
                  have r0 : A.tmps[64]?.getD undef = vals 6 := Rg.slot h.1
                  have r1 : vals 6 = (.pointer (some ⟨q10, 4, none⟩)) := hn.1
                  have bs := kn_box hgk BQp.out (by simp [NQp.out.1, NQp.out.2])
                  have cc0 : w'.cell? ⟨q10, 0, none⟩ = some (.int .u64 (P.wrd X 0)) := bs.cell 0 _ rfl
                  have cc1 : w'.cell? ⟨q10, 1, none⟩ = some (.int .u64 (P.wrd X 1)) := bs.cell 1 _ rfl
                  have cc2 : w'.cell? ⟨q10, 2, none⟩ = some (.int .u64 (P.wrd X 2)) := bs.cell 2 _ rfl
                  have cc3 : w'.cell? ⟨q10, 3, none⟩ = some (.int .u64 (P.wrd X 3)) := bs.cell 3 _ rfl
                  have cc4 : w'.cell? ⟨q10, 4, none⟩ = some (.int .u64 (P.wrd Y 0)) := bs.cell 4 _ rfl
                  have cc5 : w'.cell? ⟨q10, 5, none⟩ = some (.int .u64 (P.wrd Y 1)) := bs.cell 5 _ rfl
                  have cc6 : w'.cell? ⟨q10, 6, none⟩ = some (.int .u64 (P.wrd Y 2)) := bs.cell 6 _ rfl
                  have cc7 : w'.cell? ⟨q10, 7, none⟩ = some (.int .u64 (P.wrd Y 3)) := bs.cell 7 _ rfl
                  clear h hn hT hgk bs
                  simp [Oper.wp, execOp, go_sem, r0, r1, cc4, cc5, cc6, cc7]
                  exact hK0 _ _ (Rk.Keeps.refl _ _) rfl trivial
                · intro A w' K vals h hn hT hgk hK0
                  have r0 : A.tmps[58]?.getD undef = vals 0 := Rg.slot h.2.1
                  have r1 : A.tmps[59]?.getD undef = vals 1 := Rg.slot h.2.2.1
                  have r2 : A.tmps[61]?.getD undef = vals 3 := Rg.slot h.2.2.2.1
                  have r3 : A.tmps[65]?.getD undef = vals 7 := Rg.slot h.2.2.2.2.1
                  have s0 : vals 0 = (.pointer (some ⟨qs, 0, none⟩)) := hn.1
                  have s1 : vals 1 = .agg #[.int .u64 (P.wrd I 0), .int .u64 (P.wrd I 1), .int .u64 (P.wrd I 2), .int .u64 (P.wrd I 3)] := hn.2.1
                  have s2 : vals 3 = .int .i64 1 := hn.2.2.1
                  have s3 : vals 7 = .agg #[.int .u64 (P.wrd Y 0), .int .u64 (P.wrd Y 1), .int .u64 (P.wrd Y 2), .int .u64 (P.wrd Y 3)] := hn.2.2.2.1
                  have hs := HS.out.on (below_of_grown (Rk.grown_of hgk))
                  clear h hn hT hgk
                  simp [Oper.wp, go_sem, r0, r1, r2, r3, s0, s1, s2, s3]
                  refine (force_any g HR.out n HN.out w0 ba oa ka bb ob kb bc_ oc kc HV.out T.out qs pc kq c1 d1 w' hs 1 (by decide) I Y).mono ?_
                  rintro e w'' ⟨rfl, m2, hm2, hs, hk⟩
                  exact hK0 _ _ hk.kn ⟨m2, rfl, hm2, hs⟩ trivial
                · intro A w' K vals h hn hT hgk hK0
                  have hsz := hgk.size
                  clear h hn hT
                  simp [Oper.wp, execOp, go_sem]
                  exact hK0 _ _ (Rk.keep_of (World.grownBy_alloc _ _ _)) ⟨_, rfl, hsz, Box.new _ _ _⟩ trivial
              · refine ⟨?_, ?_, ?_, ?_, ?_, ?_, ?_, ?_, ?_, ?_, trivial⟩
                · exact fun _ _ _ _ _ _ h => h
                · exact fun _ _ _ _ _ _ h => h
                · exact fun _ _ _ _ _ _ h => h
                · exact fun _ _ _ _ _ _ h => h
                · exact fun _ _ _ _ _ _ h => h
                · exact fun _ _ _ _ _ _ h => h
                · exact fun _ _ _ _ _ _ h => h
                · exact fun _ _ _ _ _ _ h => h
                · exact fun _ _ _ _ _ h ⟨m2, h1, h2, h3⟩ => ⟨m2, h1, h2, h3.on (below_of_grown (Rk.grown_of h))⟩
                · exact fun _ _ _ _ _ h ⟨q, h1, h2, h3⟩ => ⟨q, h1, h2, kn_box h h3 (by have := HQ10.out; simp; omega)⟩
              · exact fun _ _ _ _ _ _ h => h
              · intro vals w11 G hgk hS hG
                obtain ⟨m2, s8, hm2, hs⟩ : (∃ m2, vals 8 = .agg #[.int .u64 (P.wrd (P.attOf g I 1 Y) 0), .int .u64 (P.wrd (P.attOf g I 1 Y) 1), .int .u64 (P.wrd (P.attOf g I 1 Y) 2), .int .u64 (P.wrd (P.attOf g I 1 Y) 3)] ∧ P.Played g (I &&& P.full (g.owner.length : Int)) 1 Y m2 ∧ Sl w0 w11 qs pc n kq (.slice (some ⟨ba, oa, none⟩) n ka) (.slice (some ⟨bb, ob, none⟩) n kb) (.slice (some ⟨bc_, oc, none⟩) n kc) (P.frc c1 m2) d1) := hS.2.2.2.2.2.2.2.2.1
                obtain ⟨q11, s9, hq11, hb11⟩ : ∃ q, vals 9 = .pointer (some ⟨q, 0, none⟩) ∧ w10.heap.size ≤ q ∧ Box w11 q 37 #[.int .u64 0, .int .u64 0, .int .u64 0, .int .u64 0] := hS.2.2.2.2.2.2.2.2.2.1
                clear hS
                have hk := kn_slk hgk
                have HM2 := Lib.hid hm2
                have Lq11 : Hid (q10 < q11) := Lib.hid (Nat.lt_of_lt_of_le BQp.out.lt hq11)
                have NQB : Hid (q11 ≠ qs ∧ q11 ≠ pc) := Lib.hid (by have := HQ10.out; omega)
                have BQB := Lib.hid hb11
                replace BV := Lib.hid (hk.box BV.out NV.out.1 NV.out.2)
                replace BF := Lib.hid (hk.box BF.out NF.out.1 NF.out.2)
                replace BQi := Lib.hid (hk.box BQi.out NQi.out.1 NQi.out.2)
                replace BQr := Lib.hid (hk.box BQr.out NQr.out.1 NQr.out.2)
                replace BQT := Lib.hid (hk.box BQT.out NQT.out.1 NQT.out.2)
                replace BQA := Lib.hid (hk.box BQA.out NQA.out.1 NQA.out.2)
                replace BQp := Lib.hid (hk.box BQp.out NQp.out.1 NQp.out.2)
                replace HK := Lib.hid (HK.out.trans hk)
                replace HS := Lib.hid hs
                clear hgk hk hs hm2 hq11 hb11
                refine hG ?_
                clear hG
                simp only [List.take, List.drop, List.length, Nat.reduceSub, Nat.reduceAdd, Rg.putAll, Act.put, List.setIfInBounds_toArray, List.set_cons_succ, List.set_cons_zero, s8, s9]
                clear s8 s9
                have hbo := BQB.out
                have rc0 : w11.cell? ⟨q11, 0, none⟩ = some (.int .u64 0) := hbo.cell 0 _ rfl
                have rc1 : w11.cell? ⟨q11, 1, none⟩ = some (.int .u64 0) := hbo.cell 1 _ rfl
                have rc2 : w11.cell? ⟨q11, 2, none⟩ = some (.int .u64 0) := hbo.cell 2 _ rfl
                have rc3 : w11.cell? ⟨q11, 3, none⟩ = some (.int .u64 0) := hbo.cell 3 _ rfl
                have rf0 : w11.frozen? ⟨q11, 0, none⟩ = false := hbo.frozen 0
                have rf1 : w11.frozen? ⟨q11, 1, none⟩ = false := hbo.frozen 1
                have rf2 : w11.frozen? ⟨q11, 2, none⟩ = false := hbo.frozen 2
                have rf3 : w11.frozen? ⟨q11, 3, none⟩ = false := hbo.frozen 3
                clear hbo
                have BZ : Box ((((w11.setCell ⟨q11, 0, none⟩ (.int .u64 (P.wrd (P.attOf g I 1 Y) 0))).setCell ⟨q11, 1, none⟩ (.int .u64 (P.wrd (P.attOf g I 1 Y) 1))).setCell ⟨q11, 2, none⟩ (.int .u64 (P.wrd (P.attOf g I 1 Y) 2))).setCell ⟨q11, 3, none⟩ (.int .u64 (P.wrd (P.attOf g I 1 Y) 3))) q11 37 #[.int .u64 (P.wrd (P.attOf g I 1 Y) 0), .int .u64 (P.wrd (P.attOf g I 1 Y) 1), .int .u64 (P.wrd (P.attOf g I 1 Y) 2), .int .u64 (P.wrd (P.attOf g I 1 Y) 3)] := ((((BQB.out.set 0 (.int .u64 (P.wrd (P.attOf g I 1 Y) 0))).set 1 (.int .u64 (P.wrd (P.attOf g I 1 Y) 1))).set 2 (.int .u64 (P.wrd (P.attOf g I 1 Y) 2))).set 3 (.int .u64 (P.wrd (P.attOf g I 1 Y) 3)))
                have hko : Rk.Keeps (KN [q11]) w11 ((((w11.setCell ⟨q11, 0, none⟩ (.int .u64 (P.wrd (P.attOf g I 1 Y) 0))).setCell ⟨q11, 1, none⟩ (.int .u64 (P.wrd (P.attOf g I 1 Y) 1))).setCell ⟨q11, 2, none⟩ (.int .u64 (P.wrd (P.attOf g I 1 Y) 2))).setCell ⟨q11, 3, none⟩ (.int .u64 (P.wrd (P.attOf g I 1 Y) 3))) := (((kn_set w11 q11 0 _).trans (kn_set _ q11 1 _)).trans (kn_set _ q11 2 _)).trans (kn_set _ q11 3 _)
                replace HS := Lib.hid (HS.out.kn hko NQB.out.1.symm NQB.out.2.symm (by have h1 := LEi.out; have h2 := HQ2.out; have h3 := LTir.out; have h4 := Lq7.out; have h5 := Lq9.out; have h6 := Lq10.out; have h7 := Lq11.out; omega))
                replace HK := Lib.hid (HK.out.one hko (by have h1 := LEi.out; have h2 := HQ2.out; have h3 := LTir.out; have h4 := Lq7.out; have h5 := Lq9.out; have h6 := Lq10.out; have h7 := Lq11.out; omega))
                replace BV := Lib.hid (kn_box hko BV.out (by have hne : qv ≠ q11 := (by have h1 := LEi.out; have h2 := HQ2.out; have h3 := LTir.out; have h4 := Lq7.out; have h5 := Lq9.out; have h6 := Lq10.out; have h7 := Lq11.out; omega); simp [hne]))
                replace BF := Lib.hid (kn_box hko BF.out (by have hne : qf ≠ q11 := (by have h1 := LEi.out; have h2 := HQ2.out; have h3 := LTir.out; have h4 := Lq7.out; have h5 := Lq9.out; have h6 := Lq10.out; have h7 := Lq11.out; omega); simp [hne]))
                replace BQi := Lib.hid (kn_box hko BQi.out (by have hne : qi ≠ q11 := (by have h1 := LEi.out; have h2 := HQ2.out; have h3 := LTir.out; have h4 := Lq7.out; have h5 := Lq9.out; have h6 := Lq10.out; have h7 := Lq11.out; omega); simp [hne]))
                replace BQr := Lib.hid (kn_box hko BQr.out (by have hne : qr ≠ q11 := (by have h1 := LEi.out; have h2 := HQ2.out; have h3 := LTir.out; have h4 := Lq7.out; have h5 := Lq9.out; have h6 := Lq10.out; have h7 := Lq11.out; omega); simp [hne]))
                replace BQT := Lib.hid (kn_box hko BQT.out (by have hne : q7 ≠ q11 := (by have h1 := LEi.out; have h2 := HQ2.out; have h3 := LTir.out; have h4 := Lq7.out; have h5 := Lq9.out; have h6 := Lq10.out; have h7 := Lq11.out; omega); simp [hne]))
                replace BQA := Lib.hid (kn_box hko BQA.out (by have hne : q9 ≠ q11 := (by have h1 := LEi.out; have h2 := HQ2.out; have h3 := LTir.out; have h4 := Lq7.out; have h5 := Lq9.out; have h6 := Lq10.out; have h7 := Lq11.out; omega); simp [hne]))
                replace BQp := Lib.hid (kn_box hko BQp.out (by have hne : q10 ≠ q11 := (by have h1 := LEi.out; have h2 := HQ2.out; have h3 := LTir.out; have h4 := Lq7.out; have h5 := Lq9.out; have h6 := Lq10.out; have h7 := Lq11.out; omega); simp [hne]))
                replace BQB := Lib.hid BZ
                clear hko BZ
                go_upto_region 12 with (fail)
                generalize ((((w11.setCell ⟨q11, 0, none⟩ (.int .u64 (P.wrd (P.attOf g I 1 Y) 0))).setCell ⟨q11, 1, none⟩ (.int .u64 (P.wrd (P.attOf g I 1 Y) 1))).setCell ⟨q11, 2, none⟩ (.int .u64 (P.wrd (P.attOf g I 1 Y) 2))).setCell ⟨q11, 3, none⟩ (.int .u64 (P.wrd (P.attOf g I 1 Y) 3))) = w12 at HS HK BQB BV BF BQi BQr BQT BQA BQp ⊢
                clear rc0 rf0 rc1 rf1 rc2 rf2 rc3 rf3
                have HNX2 := Lib.hid (show (∀ j, P.Bit (I &&& ~~~(P.attOf g I 1 Y)) j → j < n) ∧ P.Goes g (P.Bit (I &&& ~~~(P.attOf g I 1 Y))) ∧ P.cntS n (I &&& ~~~(P.attOf g I 1 Y)) + 1 ≤ P.cntS n I by
                  obtain ⟨i, hi⟩ := P.bit_some HL.out
                  have h := P.ap_next HR.out (p := 1) (by decide) (fun j hj => by rw [HN.out]; exact HI.out j hj) HG.out HM2.out ((P.bit_minus i).1 (HAP.out.his.sub i hi)).1 hi
                  rw [HN.out] at h
                  exact h)
                refine Rt.wp_region_tail 1 (fun idx => match idx with | 0 => (fun v _ _ => v = (.func (.func 21) #[] #[.pointer (some ⟨qv, 0, none⟩), .pointer (some ⟨qf, 0, none⟩)])) | 1 => (fun v _ _ => v = .agg #[.int .u64 (P.wrd I 0), .int .u64 (P.wrd I 1), .int .u64 (P.wrd I 2), .int .u64 (P.wrd I 3)]) | 2 => (fun v _ _ => v = .agg #[.int .u64 (P.wrd (P.attOf g I 1 Y) 0), .int .u64 (P.wrd (P.attOf g I 1 Y) 1), .int .u64 (P.wrd (P.attOf g I 1 Y) 2), .int .u64 (P.wrd (P.attOf g I 1 Y) 3)]) | 3 => (fun v _ _ => v = .agg #[.int .u64 (P.wrd (I &&& ~~~(P.attOf g I 1 Y)) 0), .int .u64 (P.wrd (I &&& ~~~(P.attOf g I 1 Y)) 1), .int .u64 (P.wrd (I &&& ~~~(P.attOf g I 1 Y)) 2), .int .u64 (P.wrd (I &&& ~~~(P.attOf g I 1 Y)) 3)]) | 4 => (fun v _ _ => v = (.int .i64 dep)) | 5 => (fun v _ _ => v = (.int .i64 (dep + 1))) | 6 => (fun v _ w' => (∃ X2 Y2 c2 d3, v = .agg #[.int .u64 (P.wrd X2 0), .int .u64 (P.wrd X2 1), .int .u64 (P.wrd X2 2), .int .u64 (P.wrd X2 3), .int .u64 (P.wrd Y2 0), .int .u64 (P.wrd Y2 1), .int .u64 (P.wrd Y2 2), .int .u64 (P.wrd Y2 3)] ∧ P.Ap g 0 (I &&& ~~~(P.attOf g I 1 Y)) X2 Y2 (P.frc c1 m2) c2 ∧ Sl w0 w' qs pc n kq (.slice (some ⟨ba, oa, none⟩) n ka) (.slice (some ⟨bb, ob, none⟩) n kb) (.slice (some ⟨bc_, oc, none⟩) n kc) c2 d3 ∧ d1 ≤ d3 ∧ dep + 1 ≤ d3 ∧ (d3 ≤ d1 ∨ d3 ≤ dep + 1 + (P.cntS n (I &&& ~~~(P.attOf g I 1 Y)) : Nat)))) | _ => fun _ _ _ => True) (fun _ _ _ _ => True) (KN [qs, pc]) 6 (by kernel_rfl) (by rfl) (by kernel_rfl) (by rfl) ?_ ?_ ?_ ?_
                · refine ⟨?_, ?_, ?_, ?_, ?_, ?_, ?_, trivial⟩
                  · intro A w' K vals h hn hT hgk hK0
                    have r0 : A.tmps[3]?.getD undef = (.pointer (some ⟨qf, 0, none⟩)) := Rg.slot h.1
                    have bs := kn_box hgk BF.out (by simp [NF.out.1, NF.out.2])
                    have cc0 : w'.cell? ⟨qf, 0, none⟩ = some (.func (.func 21) #[] #[.pointer (some ⟨qv, 0, none⟩), .pointer (some ⟨qf, 0, none⟩)]) := bs.cell 0 _ rfl
                    clear h hn hT hgk bs
                    simp [Oper.wp, execOp, go_sem, r0, cc0]
                    exact hK0 _ _ (Rk.Keeps.refl _ _) rfl trivial
                  · intro A w' K vals h hn hT hgk hK0
                    have r0 : A.tmps[4]?.getD undef = (.pointer (some ⟨qi, 0, none⟩)) := Rg.slot h.1
                    have bs := kn_box hgk BQi.out (by simp [NQi.out.1, NQi.out.2])
                    have cc0 : w'.cell? ⟨qi, 0, none⟩ = some (.int .u64 (P.wrd I 0)) := bs.cell 0 _ rfl
                    have cc1 : w'.cell? ⟨qi, 1, none⟩ = some (.int .u64 (P.wrd I 1)) := bs.cell 1 _ rfl
                    have cc2 : w'.cell? ⟨qi, 2, none⟩ = some (.int .u64 (P.wrd I 2)) := bs.cell 2 _ rfl
                    have cc3 : w'.cell? ⟨qi, 3, none⟩ = some (.int .u64 (P.wrd I 3)) := bs.cell 3 _ rfl
                    clear h hn hT hgk bs
                    simp [Oper.wp, execOp, go_sem, r0, cc0, cc1, cc2, cc3]
                    exact hK0 _ _ (Rk.Keeps.refl _ _) rfl trivial
                  · intro A w' K vals h hn hT hgk hK0
                    have r0 : A.tmps[11]?.getD undef = (.pointer (some ⟨q11, 0, none⟩)) := Rg.slot h.1
                    have bs := kn_box hgk BQB.out (by simp [NQB.out.1, NQB.out.2])
                    have cc0 : w'.cell? ⟨q11, 0, none⟩ = some (.int .u64 (P.wrd (P.attOf g I 1 Y) 0)) := bs.cell 0 _ rfl
                    have cc1 : w'.cell? ⟨q11, 1, none⟩ = some (.int .u64 (P.wrd (P.attOf g I 1 Y) 1)) := bs.cell 1 _ rfl
                    have cc2 : w'.cell? ⟨q11, 2, none⟩ = some (.int .u64 (P.wrd (P.attOf g I 1 Y) 2)) := bs.cell 2 _ rfl
                    have cc3 : w'.cell? ⟨q11, 3, none⟩ = some (.int .u64 (P.wrd (P.attOf g I 1 Y) 3)) := bs.cell 3 _ rfl
                    clear h hn hT hgk bs
                    simp [Oper.wp, execOp, go_sem, r0, cc0, cc1, cc2, cc3]
                    exact hK0 _ _ (Rk.Keeps.refl _ _) rfl trivial
                  · intro A w' K vals h hn hT hgk hK0
                    have r0 : A.tmps[68]?.getD undef = vals 1 := Rg.slot h.2.1
                    have r1 : A.tmps[69]?.getD undef = vals 2 := Rg.slot h.2.2.1
                    have s0 : vals 1 = .agg #[.int .u64 (P.wrd I 0), .int .u64 (P.wrd I 1), .int .u64 (P.wrd I 2), .int .u64 (P.wrd I 3)] := hn.1
                    have s1 : vals 2 = .agg #[.int .u64 (P.wrd (P.attOf g I 1 Y) 0), .int .u64 (P.wrd (P.attOf g I 1 Y) 1), .int .u64 (P.wrd (P.attOf g I 1 Y) 2), .int .u64 (P.wrd (P.attOf g I 1 Y) 3)] := hn.2.1
                    clear h hn hT hgk
                    simp [Oper.wp, go_sem, r0, r1, s0, s1]
                    refine (minus_any _ _ w').mono ?_
                    rintro e w'' ⟨rfl, hb⟩
                    exact hK0 _ _ (Rk.keep_of (grown_of_below hb _)) rfl trivial
                  · intro A w' K vals h hn hT hgk hK0
                    have r0 : A.tmps[1]?.getD undef = .int .i64 dep := Rg.slot h.1
                    clear h hn hT hgk
                    simp [Oper.wp, execOp, go_sem, r0]
                    exact hK0 _ _ (Rk.Keeps.refl _ _) rfl trivial
                  · intro A w' K vals h hn hT hgk hK0
                    have r0 : A.tmps[71]?.getD undef = vals 4 := Rg.slot h.1
                    have s0 : vals 4 = (.int .i64 dep) := hn.1
                    clear h hn hT hgk
                    have hw : IntKind.i64.wrap (dep + 1) = dep + 1 := by rw [IntKind.wrap_i64]; omega
                    simp [Oper.wp, execOp, go_sem, r0, s0, hw]
                    exact hK0 _ _ (Rk.Keeps.refl _ _) rfl trivial
                  · intro A w' K vals h hn hT hgk hK0
                    have r0 : A.tmps[67]?.getD undef = vals 0 := Rg.slot h.1
                    have r1 : A.tmps[70]?.getD undef = vals 3 := Rg.slot h.2.1
                    have r2 : A.tmps[72]?.getD undef = vals 5 := Rg.slot h.2.2.1
                    have s0 : vals 0 = .func (.func 21) #[] #[.pointer (some ⟨qv, 0, none⟩), .pointer (some ⟨qf, 0, none⟩)] := hn.1
                    have s1 : vals 3 = .agg #[.int .u64 (P.wrd (I &&& ~~~(P.attOf g I 1 Y)) 0), .int .u64 (P.wrd (I &&& ~~~(P.attOf g I 1 Y)) 1), .int .u64 (P.wrd (I &&& ~~~(P.attOf g I 1 Y)) 2), .int .u64 (P.wrd (I &&& ~~~(P.attOf g I 1 Y)) 3)] := hn.2.1
                    have s2 : vals 5 = .int .i64 (dep + 1) := hn.2.2.1
                    have hs := HS.out.on (below_of_grown (Rk.grown_of hgk))
                    have hbv := BV.out.keep (Rk.grown_of hgk)
                    have hbf := BF.out.keep (Rk.grown_of hgk)
                    clear h hn hT hgk
                    simp [Oper.wp, go_sem, r0, r1, r2, s0, s1, s2]
                    refine (IH.out (I &&& ~~~(P.attOf g I 1 Y)) (P.frc c1 m2) d1 (dep + 1) w' (by have h1 := HU.out; have h2 := HNX2.out.2.2; omega) HNX2.out.1 HNX2.out.2.1 (by omega) (by have h1 := HD1.out; have h2 := HNX2.out.2.2; omega) hs hbv hbf NV.out NF.out).mono ?_
                    rintro e w'' ⟨X, Y, c1, d1, rfl, hap, hs, hk, h1, h2, h3⟩
                    exact hK0 _ _ hk.kn ⟨X, Y, c1, d1, rfl, hap, hs, h1, h2, h3⟩ trivial
                · refine ⟨?_, ?_, ?_, ?_, ?_, ?_, ?_, trivial⟩
                  · exact fun _ _ _ _ _ _ h => h
                  · exact fun _ _ _ _ _ _ h => h
                  · exact fun _ _ _ _ _ _ h => h
                  · exact fun _ _ _ _ _ _ h => h
                  · exact fun _ _ _ _ _ _ h => h
                  · exact fun _ _ _ _ _ _ h => h
                  · exact fun _ _ _ _ _ h ⟨X2, Y2, c2, d3, h1, h2, h3, h4⟩ => ⟨X2, Y2, c2, d3, h1, h2, h3.on (below_of_grown (Rk.grown_of h)), h4⟩
                · exact fun _ _ _ _ _ _ h => h
                · intro vals w13 G hgk hS hG
                  obtain ⟨X2, Y2, c2, d3, s6, hap, hs, hd3, hd4, hd5⟩ : (∃ X2 Y2 c2 d3, vals 6 = .agg #[.int .u64 (P.wrd X2 0), .int .u64 (P.wrd X2 1), .int .u64 (P.wrd X2 2), .int .u64 (P.wrd X2 3), .int .u64 (P.wrd Y2 0), .int .u64 (P.wrd Y2 1), .int .u64 (P.wrd Y2 2), .int .u64 (P.wrd Y2 3)] ∧ P.Ap g 0 (I &&& ~~~(P.attOf g I 1 Y)) X2 Y2 (P.frc c1 m2) c2 ∧ Sl w0 w13 qs pc n kq (.slice (some ⟨ba, oa, none⟩) n ka) (.slice (some ⟨bb, ob, none⟩) n kb) (.slice (some ⟨bc_, oc, none⟩) n kc) c2 d3 ∧ d1 ≤ d3 ∧ dep + 1 ≤ d3 ∧ (d3 ≤ d1 ∨ d3 ≤ dep + 1 + (P.cntS n (I &&& ~~~(P.attOf g I 1 Y)) : Nat))) := hS.2.2.2.2.2.2.1
                  clear hS
                  have hk := kn_slk hgk
                  have HAP2 := Lib.hid hap
                  have HDD2 := Lib.hid (And.intro hd3 (And.intro hd4 hd5))
                  replace BV := Lib.hid (hk.box BV.out NV.out.1 NV.out.2)
                  replace BF := Lib.hid (hk.box BF.out NF.out.1 NF.out.2)
                  replace BQi := Lib.hid (hk.box BQi.out NQi.out.1 NQi.out.2)
                  replace BQr := Lib.hid (hk.box BQr.out NQr.out.1 NQr.out.2)
                  replace BQT := Lib.hid (hk.box BQT.out NQT.out.1 NQT.out.2)
                  replace BQA := Lib.hid (hk.box BQA.out NQA.out.1 NQA.out.2)
                  replace BQp := Lib.hid (hk.box BQp.out NQp.out.1 NQp.out.2)
                  replace BQB := Lib.hid (hk.box BQB.out NQB.out.1 NQB.out.2)
                  replace HK := Lib.hid (HK.out.trans hk)
                  replace HS := Lib.hid hs
                  clear hgk hk hap hs hd3 hd4 hd5
                  refine hG ?_
                  clear hG
                  simp only [List.take, List.drop, List.length, Nat.reduceSub, Nat.reduceAdd, Rg.putAll, Act.put, List.setIfInBounds_toArray, List.set_cons_succ, List.set_cons_zero, s6]
                  clear s6
                  have hbo := BQp.out
                  have rc0 : w13.cell? ⟨q10, 0, none⟩ = some (.int .u64 (P.wrd X 0)) := hbo.cell 0 _ rfl
                  have rc1 : w13.cell? ⟨q10, 1, none⟩ = some (.int .u64 (P.wrd X 1)) := hbo.cell 1 _ rfl
                  have rc2 : w13.cell? ⟨q10, 2, none⟩ = some (.int .u64 (P.wrd X 2)) := hbo.cell 2 _ rfl
                  have rc3 : w13.cell? ⟨q10, 3, none⟩ = some (.int .u64 (P.wrd X 3)) := hbo.cell 3 _ rfl
                  have rc4 : w13.cell? ⟨q10, 4, none⟩ = some (.int .u64 (P.wrd Y 0)) := hbo.cell 4 _ rfl
                  have rc5 : w13.cell? ⟨q10, 5, none⟩ = some (.int .u64 (P.wrd Y 1)) := hbo.cell 5 _ rfl
                  have rc6 : w13.cell? ⟨q10, 6, none⟩ = some (.int .u64 (P.wrd Y 2)) := hbo.cell 6 _ rfl
                  have rc7 : w13.cell? ⟨q10, 7, none⟩ = some (.int .u64 (P.wrd Y 3)) := hbo.cell 7 _ rfl
                  have rf0 : w13.frozen? ⟨q10, 0, none⟩ = false := hbo.frozen 0
                  have rf1 : w13.frozen? ⟨q10, 1, none⟩ = false := hbo.frozen 1
                  have rf2 : w13.frozen? ⟨q10, 2, none⟩ = false := hbo.frozen 2
                  have rf3 : w13.frozen? ⟨q10, 3, none⟩ = false := hbo.frozen 3
                  have rf4 : w13.frozen? ⟨q10, 4, none⟩ = false := hbo.frozen 4
                  have rf5 : w13.frozen? ⟨q10, 5, none⟩ = false := hbo.frozen 5
                  have rf6 : w13.frozen? ⟨q10, 6, none⟩ = false := hbo.frozen 6
                  have rf7 : w13.frozen? ⟨q10, 7, none⟩ = false := hbo.frozen 7
                  clear hbo
                  have BZ : Box ((((((((w13.setCell ⟨q10, 0, none⟩ (.int .u64 (P.wrd X2 0))).setCell ⟨q10, 1, none⟩ (.int .u64 (P.wrd X2 1))).setCell ⟨q10, 2, none⟩ (.int .u64 (P.wrd X2 2))).setCell ⟨q10, 3, none⟩ (.int .u64 (P.wrd X2 3))).setCell ⟨q10, 4, none⟩ (.int .u64 (P.wrd Y2 0))).setCell ⟨q10, 5, none⟩ (.int .u64 (P.wrd Y2 1))).setCell ⟨q10, 6, none⟩ (.int .u64 (P.wrd Y2 2))).setCell ⟨q10, 7, none⟩ (.int .u64 (P.wrd Y2 3))) q10 50 #[.int .u64 (P.wrd X2 0), .int .u64 (P.wrd X2 1), .int .u64 (P.wrd X2 2), .int .u64 (P.wrd X2 3), .int .u64 (P.wrd Y2 0), .int .u64 (P.wrd Y2 1), .int .u64 (P.wrd Y2 2), .int .u64 (P.wrd Y2 3)] := box8 BQp.out _ _ _ _ _ _ _ _
                  have hko : Rk.Keeps (KN [q10]) w13 ((((((((w13.setCell ⟨q10, 0, none⟩ (.int .u64 (P.wrd X2 0))).setCell ⟨q10, 1, none⟩ (.int .u64 (P.wrd X2 1))).setCell ⟨q10, 2, none⟩ (.int .u64 (P.wrd X2 2))).setCell ⟨q10, 3, none⟩ (.int .u64 (P.wrd X2 3))).setCell ⟨q10, 4, none⟩ (.int .u64 (P.wrd Y2 0))).setCell ⟨q10, 5, none⟩ (.int .u64 (P.wrd Y2 1))).setCell ⟨q10, 6, none⟩ (.int .u64 (P.wrd Y2 2))).setCell ⟨q10, 7, none⟩ (.int .u64 (P.wrd Y2 3))) := (((((((kn_set w13 q10 0 _).trans (kn_set _ q10 1 _)).trans (kn_set _ q10 2 _)).trans (kn_set _ q10 3 _)).trans (kn_set _ q10 4 _)).trans (kn_set _ q10 5 _)).trans (kn_set _ q10 6 _)).trans (kn_set _ q10 7 _)
                  replace HS := Lib.hid (HS.out.kn hko NQp.out.1.symm NQp.out.2.symm (by have h1 := LEi.out; have h2 := HQ2.out; have h3 := LTir.out; have h4 := Lq7.out; have h5 := Lq9.out; have h6 := Lq10.out; have h7 := Lq11.out; omega))
                  replace HK := Lib.hid (HK.out.one hko (by have h1 := LEi.out; have h2 := HQ2.out; have h3 := LTir.out; have h4 := Lq7.out; have h5 := Lq9.out; have h6 := Lq10.out; have h7 := Lq11.out; omega))
                  replace BQr := Lib.hid (kn_box hko BQr.out (by have hne : qr ≠ q10 := (by have h1 := LEi.out; have h2 := HQ2.out; have h3 := LTir.out; have h4 := Lq7.out; have h5 := Lq9.out; have h6 := Lq10.out; have h7 := Lq11.out; omega); simp [hne]))
                  replace BQB := Lib.hid (kn_box hko BQB.out (by have hne : q11 ≠ q10 := (by have h1 := LEi.out; have h2 := HQ2.out; have h3 := LTir.out; have h4 := Lq7.out; have h5 := Lq9.out; have h6 := Lq10.out; have h7 := Lq11.out; omega); simp [hne]))
                  replace BQp := Lib.hid BZ
                  clear hko BZ
                  go_upto_region 13 with (fail)
                  generalize ((((((((w13.setCell ⟨q10, 0, none⟩ (.int .u64 (P.wrd X2 0))).setCell ⟨q10, 1, none⟩ (.int .u64 (P.wrd X2 1))).setCell ⟨q10, 2, none⟩ (.int .u64 (P.wrd X2 2))).setCell ⟨q10, 3, none⟩ (.int .u64 (P.wrd X2 3))).setCell ⟨q10, 4, none⟩ (.int .u64 (P.wrd Y2 0))).setCell ⟨q10, 5, none⟩ (.int .u64 (P.wrd Y2 1))).setCell ⟨q10, 6, none⟩ (.int .u64 (P.wrd Y2 2))).setCell ⟨q10, 7, none⟩ (.int .u64 (P.wrd Y2 3))) = w14 at HS HK BQp BQr BQB ⊢
                  clear rc0 rf0 rc1 rf1 rc2 rf2 rc3 rf3 rc4 rf4 rc5 rf5 rc6 rf6 rc7 rf7
                  refine Rt.wp_region_tail 1 (fun idx => match idx with | 0 => (fun v _ _ => v = (.int .i64 0)) | 1 => (fun v _ _ => v = (.int .i64 1)) | 2 => (fun v _ _ => v = (.int .i64 0)) | 3 => (fun v _ _ => v = (.int .i64 1)) | 4 => (fun v _ _ => v = (.pointer (some ⟨q10, 4, none⟩))) | 5 => (fun v _ _ => v = .agg #[.int .u64 (P.wrd Y2 0), .int .u64 (P.wrd Y2 1), .int .u64 (P.wrd Y2 2), .int .u64 (P.wrd Y2 3)]) | 6 => (fun v _ _ => v = .agg #[.int .u64 (P.wrd (P.attOf g I 1 Y) 0), .int .u64 (P.wrd (P.attOf g I 1 Y) 1), .int .u64 (P.wrd (P.attOf g I 1 Y) 2), .int .u64 (P.wrd (P.attOf g I 1 Y) 3)]) | 7 => (fun v _ _ => v = .agg #[.int .u64 (P.wrd (Y2 ||| (P.attOf g I 1 Y)) 0), .int .u64 (P.wrd (Y2 ||| (P.attOf g I 1 Y)) 1), .int .u64 (P.wrd (Y2 ||| (P.attOf g I 1 Y)) 2), .int .u64 (P.wrd (Y2 ||| (P.attOf g I 1 Y)) 3)]) | 8 => (fun v _ _ => v = (.pointer (some ⟨q10, 4, none⟩))) | _ => fun _ _ _ => True) (fun _ _ _ _ => True) (Rk.allK) 99 (by kernel_rfl) (by rfl) (by kernel_rfl) (by rfl) ?_ ?_ ?_ ?_
                  · refine ⟨?_, ?_, ?_, ?_, ?_, ?_, ?_, ?_, ?_, trivial⟩
                    · intro A w' K vals h hn hT hgk hK0
                      have r0 : A.tmps[8]?.getD undef = .int .i64 0 := Rg.slot h.1
                      clear h hn hT hgk
                      simp [Oper.wp, execOp, go_sem, r0]
                      exact hK0 _ _ (Rk.Keeps.refl _ _) rfl trivial
                    · intro A w' K vals h hn hT hgk hK0
                      have r0 : A.tmps[74]?.getD undef = vals 0 := Rg.slot h.2.1
                      have s0 : vals 0 = (.int .i64 0) := hn.1
                      clear h hn hT hgk
                      simp [Oper.wp, execOp, go_sem, r0, s0]
                      exact hK0 _ _ (Rk.Keeps.refl _ _) rfl trivial
                    · intro A w' K vals h hn hT hgk hK0
                      have r0 : A.tmps[8]?.getD undef = .int .i64 0 := Rg.slot h.1
                      clear h hn hT hgk
                      simp [Oper.wp, execOp, go_sem, r0]
                      exact hK0 _ _ (Rk.Keeps.refl _ _) rfl trivial
                    · intro A w' K vals h hn hT hgk hK0
                      have r0 : A.tmps[76]?.getD undef = vals 2 := Rg.slot h.2.1
                      have s0 : vals 2 = (.int .i64 0) := hn.1
                      clear h hn hT hgk
                      simp [Oper.wp, execOp, go_sem, r0, s0]
                      exact hK0 _ _ (Rk.Keeps.refl _ _) rfl trivial
                    · intro A w' K vals h hn hT hgk hK0
                      have r0 : A.tmps[10]?.getD undef = .pointer (some ⟨q10, 0, none⟩) := Rg.slot h.1
                      have r1 : A.tmps[77]?.getD undef = vals 3 := Rg.slot h.2.1
                      have s1 : vals 3 = (.int .i64 1) := hn.1
                      clear h hn hT hgk
                      simp [Oper.wp, execOp, go_sem, r0, r1, s1]
                      exact hK0 _ _ (Rk.Keeps.refl _ _) rfl trivial
                    · intro A w' K vals h hn hT hgk hK0
                      have r0 : A.tmps[78]?.getD undef = vals 4 := Rg.slot h.1
                      have r1 : vals 4 = (.pointer (some ⟨q10, 4, none⟩)) := hn.1
                      have bs := BQp.out.keep (Rk.grown_of hgk)
                      have cc0 : w'.cell? ⟨q10, 0, none⟩ = some (.int .u64 (P.wrd X2 0)) := bs.cell 0 _ rfl
                      have cc1 : w'.cell? ⟨q10, 1, none⟩ = some (.int .u64 (P.wrd X2 1)) := bs.cell 1 _ rfl
                      have cc2 : w'.cell? ⟨q10, 2, none⟩ = some (.int .u64 (P.wrd X2 2)) := bs.cell 2 _ rfl
                      have cc3 : w'.cell? ⟨q10, 3, none⟩ = some (.int .u64 (P.wrd X2 3)) := bs.cell 3 _ rfl
                      have cc4 : w'.cell? ⟨q10, 4, none⟩ = some (.int .u64 (P.wrd Y2 0)) := bs.cell 4 _ rfl
                      have cc5 : w'.cell? ⟨q10, 5, none⟩ = some (.int .u64 (P.wrd Y2 1)) := bs.cell 5 _ rfl
                      have cc6 : w'.cell? ⟨q10, 6, none⟩ = some (.int .u64 (P.wrd Y2 2)) := bs.cell 6 _ rfl
                      have cc7 : w'.cell? ⟨q10, 7, none⟩ = some (.int .u64 (P.wrd Y2 3)) := bs.cell 7 _ rfl
                      clear h hn hT hgk bs
                      simp [Oper.wp, execOp, go_sem, r0, r1, cc4, cc5, cc6, cc7]
                      exact hK0 _ _ (Rk.Keeps.refl _ _) rfl trivial
                    · intro A w' K vals h hn hT hgk hK0
                      have r0 : A.tmps[11]?.getD undef = (.pointer (some ⟨q11, 0, none⟩)) := Rg.slot h.1
                      have bs := BQB.out.keep (Rk.grown_of hgk)
                      have cc0 : w'.cell? ⟨q11, 0, none⟩ = some (.int .u64 (P.wrd (P.attOf g I 1 Y) 0)) := bs.cell 0 _ rfl
                      have cc1 : w'.cell? ⟨q11, 1, none⟩ = some (.int .u64 (P.wrd (P.attOf g I 1 Y) 1)) := bs.cell 1 _ rfl
                      have cc2 : w'.cell? ⟨q11, 2, none⟩ = some (.int .u64 (P.wrd (P.attOf g I 1 Y) 2)) := bs.cell 2 _ rfl
                      have cc3 : w'.cell? ⟨q11, 3, none⟩ = some (.int .u64 (P.wrd (P.attOf g I 1 Y) 3)) := bs.cell 3 _ rfl
                      clear h hn hT hgk bs
                      simp [Oper.wp, execOp, go_sem, r0, cc0, cc1, cc2, cc3]
                      exact hK0 _ _ (Rk.Keeps.refl _ _) rfl trivial
                    · intro A w' K vals h hn hT hgk hK0
                      have r0 : A.tmps[79]?.getD undef = vals 5 := Rg.slot h.2.1
                      have r1 : A.tmps[80]?.getD undef = vals 6 := Rg.slot h.2.2.1
                      have s0 : vals 5 = .agg #[.int .u64 (P.wrd Y2 0), .int .u64 (P.wrd Y2 1), .int .u64 (P.wrd Y2 2), .int .u64 (P.wrd Y2 3)] := hn.1
                      have s1 : vals 6 = .agg #[.int .u64 (P.wrd (P.attOf g I 1 Y) 0), .int .u64 (P.wrd (P.attOf g I 1 Y) 1), .int .u64 (P.wrd (P.attOf g I 1 Y) 2), .int .u64 (P.wrd (P.attOf g I 1 Y) 3)] := hn.2.1
                      clear h hn hT hgk
                      simp [Oper.wp, go_sem, r0, r1, s0, s1]
                      refine (or_any _ _ w').mono ?_
                      rintro e w'' ⟨rfl, hb⟩
                      exact hK0 _ _ (Rk.keep_of (grown_of_below hb _)) rfl trivial
                    · intro A w' K vals h hn hT hgk hK0
                      have r0 : A.tmps[10]?.getD undef = .pointer (some ⟨q10, 0, none⟩) := Rg.slot h.1
                      have r1 : A.tmps[75]?.getD undef = vals 1 := Rg.slot h.2.1
                      have s1 : vals 1 = (.int .i64 1) := hn.1
                      clear h hn hT hgk
                      simp [Oper.wp, execOp, go_sem, r0, r1, s1]
                      exact hK0 _ _ (Rk.Keeps.refl _ _) rfl trivial
                  · refine ⟨?_, ?_, ?_, ?_, ?_, ?_, ?_, ?_, ?_, trivial⟩
                    · exact fun _ _ _ _ _ _ h => h
                    · exact fun _ _ _ _ _ _ h => h
                    · exact fun _ _ _ _ _ _ h => h
                    · exact fun _ _ _ _ _ _ h => h
                    · exact fun _ _ _ _ _ _ h => h
                    · exact fun _ _ _ _ _ _ h => h
                    · exact fun _ _ _ _ _ _ h => h
                    · exact fun _ _ _ _ _ _ h => h
                    · exact fun _ _ _ _ _ _ h => h
                  · exact fun _ _ _ _ _ _ h => h
                  · intro vals w15 G hgk hS hG
                    have s7 : vals 7 = .agg #[.int .u64 (P.wrd (Y2 ||| (P.attOf g I 1 Y)) 0), .int .u64 (P.wrd (Y2 ||| (P.attOf g I 1 Y)) 1), .int .u64 (P.wrd (Y2 ||| (P.attOf g I 1 Y)) 2), .int .u64 (P.wrd (Y2 ||| (P.attOf g I 1 Y)) 3)] := hS.2.2.2.2.2.2.2.1
                    have s8 : vals 8 = (.pointer (some ⟨q10, 4, none⟩)) := hS.2.2.2.2.2.2.2.2.1
                    clear hS
                    have hb := below_of_grown (Rk.grown_of hgk)
                    replace HS := Lib.hid (HS.out.on hb)
                    replace HK := Lib.hid (HK.out.trans (SlK.of hb))
                    replace BQr := Lib.hid (BQr.out.keep (grown_of_below hb none))
                    replace BQp := Lib.hid (BQp.out.keep (grown_of_below hb none))
                    clear hb hgk
                    refine hG ?_
                    clear hG
                    simp only [List.take, List.drop, List.length, Nat.reduceSub, Nat.reduceAdd, Rg.putAll, Act.put, List.setIfInBounds_toArray, List.set_cons_succ, List.set_cons_zero, s7, s8]
                    clear s7 s8
                    have hbo := BQp.out
                    have rc0 : w15.cell? ⟨q10, 0, none⟩ = some (.int .u64 (P.wrd X2 0)) := hbo.cell 0 _ rfl
                    have rc1 : w15.cell? ⟨q10, 1, none⟩ = some (.int .u64 (P.wrd X2 1)) := hbo.cell 1 _ rfl
                    have rc2 : w15.cell? ⟨q10, 2, none⟩ = some (.int .u64 (P.wrd X2 2)) := hbo.cell 2 _ rfl
                    have rc3 : w15.cell? ⟨q10, 3, none⟩ = some (.int .u64 (P.wrd X2 3)) := hbo.cell 3 _ rfl
                    have rc4 : w15.cell? ⟨q10, 4, none⟩ = some (.int .u64 (P.wrd Y2 0)) := hbo.cell 4 _ rfl
                    have rc5 : w15.cell? ⟨q10, 5, none⟩ = some (.int .u64 (P.wrd Y2 1)) := hbo.cell 5 _ rfl
                    have rc6 : w15.cell? ⟨q10, 6, none⟩ = some (.int .u64 (P.wrd Y2 2)) := hbo.cell 6 _ rfl
                    have rc7 : w15.cell? ⟨q10, 7, none⟩ = some (.int .u64 (P.wrd Y2 3)) := hbo.cell 7 _ rfl
                    have rf0 : w15.frozen? ⟨q10, 0, none⟩ = false := hbo.frozen 0
                    have rf1 : w15.frozen? ⟨q10, 1, none⟩ = false := hbo.frozen 1
                    have rf2 : w15.frozen? ⟨q10, 2, none⟩ = false := hbo.frozen 2
                    have rf3 : w15.frozen? ⟨q10, 3, none⟩ = false := hbo.frozen 3
                    have rf4 : w15.frozen? ⟨q10, 4, none⟩ = false := hbo.frozen 4
                    have rf5 : w15.frozen? ⟨q10, 5, none⟩ = false := hbo.frozen 5
                    have rf6 : w15.frozen? ⟨q10, 6, none⟩ = false := hbo.frozen 6
                    have rf7 : w15.frozen? ⟨q10, 7, none⟩ = false := hbo.frozen 7
                    clear hbo
                    have BZ : Box ((((w15.setCell ⟨q10, 4, none⟩ (.int .u64 (P.wrd (Y2 ||| (P.attOf g I 1 Y)) 0))).setCell ⟨q10, 5, none⟩ (.int .u64 (P.wrd (Y2 ||| (P.attOf g I 1 Y)) 1))).setCell ⟨q10, 6, none⟩ (.int .u64 (P.wrd (Y2 ||| (P.attOf g I 1 Y)) 2))).setCell ⟨q10, 7, none⟩ (.int .u64 (P.wrd (Y2 ||| (P.attOf g I 1 Y)) 3))) q10 50 #[.int .u64 (P.wrd X2 0), .int .u64 (P.wrd X2 1), .int .u64 (P.wrd X2 2), .int .u64 (P.wrd X2 3), .int .u64 (P.wrd (Y2 ||| (P.attOf g I 1 Y)) 0), .int .u64 (P.wrd (Y2 ||| (P.attOf g I 1 Y)) 1), .int .u64 (P.wrd (Y2 ||| (P.attOf g I 1 Y)) 2), .int .u64 (P.wrd (Y2 ||| (P.attOf g I 1 Y)) 3)] := box4hi BQp.out _ _ _ _
                    have hko : Rk.Keeps (KN [q10]) w15 ((((w15.setCell ⟨q10, 4, none⟩ (.int .u64 (P.wrd (Y2 ||| (P.attOf g I 1 Y)) 0))).setCell ⟨q10, 5, none⟩ (.int .u64 (P.wrd (Y2 ||| (P.attOf g I 1 Y)) 1))).setCell ⟨q10, 6, none⟩ (.int .u64 (P.wrd (Y2 ||| (P.attOf g I 1 Y)) 2))).setCell ⟨q10, 7, none⟩ (.int .u64 (P.wrd (Y2 ||| (P.attOf g I 1 Y)) 3))) := (((kn_set w15 q10 4 _).trans (kn_set _ q10 5 _)).trans (kn_set _ q10 6 _)).trans (kn_set _ q10 7 _)
                    replace HS := Lib.hid (HS.out.kn hko NQp.out.1.symm NQp.out.2.symm (by have h1 := LEi.out; have h2 := HQ2.out; have h3 := LTir.out; have h4 := Lq7.out; have h5 := Lq9.out; have h6 := Lq10.out; omega))
                    replace HK := Lib.hid (HK.out.one hko (by have h1 := LEi.out; have h2 := HQ2.out; have h3 := LTir.out; have h4 := Lq7.out; have h5 := Lq9.out; have h6 := Lq10.out; omega))
                    replace BQr := Lib.hid (kn_box hko BQr.out (by have hne : qr ≠ q10 := (by have h1 := LEi.out; have h2 := HQ2.out; have h3 := LTir.out; have h4 := Lq7.out; have h5 := Lq9.out; have h6 := Lq10.out; omega); simp [hne]))
                    replace BQp := Lib.hid BZ
                    clear hko BZ
                    go_upto_region 14 with (fail)
                    generalize ((((w15.setCell ⟨q10, 4, none⟩ (.int .u64 (P.wrd (Y2 ||| (P.attOf g I 1 Y)) 0))).setCell ⟨q10, 5, none⟩ (.int .u64 (P.wrd (Y2 ||| (P.attOf g I 1 Y)) 1))).setCell ⟨q10, 6, none⟩ (.int .u64 (P.wrd (Y2 ||| (P.attOf g I 1 Y)) 2))).setCell ⟨q10, 7, none⟩ (.int .u64 (P.wrd (Y2 ||| (P.attOf g I 1 Y)) 3))) = w16 at HS HK BQp BQr ⊢
                    clear rc0 rf0 rc1 rf1 rc2 rf2 rc3 rf3 rc4 rf4 rc5 rf5 rc6 rf6 rc7 rf7
                    have hbb := BQp.out
                    have pc0 : w16.cell? ⟨q10, 0, none⟩ = some (.int .u64 (P.wrd X2 0)) := hbb.cell 0 _ rfl
                    have pc1 : w16.cell? ⟨q10, 1, none⟩ = some (.int .u64 (P.wrd X2 1)) := hbb.cell 1 _ rfl
                    have pc2 : w16.cell? ⟨q10, 2, none⟩ = some (.int .u64 (P.wrd X2 2)) := hbb.cell 2 _ rfl
                    have pc3 : w16.cell? ⟨q10, 3, none⟩ = some (.int .u64 (P.wrd X2 3)) := hbb.cell 3 _ rfl
                    have pc4 : w16.cell? ⟨q10, 4, none⟩ = some (.int .u64 (P.wrd (Y2 ||| (P.attOf g I 1 Y)) 0)) := hbb.cell 4 _ rfl
                    have pc5 : w16.cell? ⟨q10, 5, none⟩ = some (.int .u64 (P.wrd (Y2 ||| (P.attOf g I 1 Y)) 1)) := hbb.cell 5 _ rfl
                    have pc6 : w16.cell? ⟨q10, 6, none⟩ = some (.int .u64 (P.wrd (Y2 ||| (P.attOf g I 1 Y)) 2)) := hbb.cell 6 _ rfl
                    have pc7 : w16.cell? ⟨q10, 7, none⟩ = some (.int .u64 (P.wrd (Y2 ||| (P.attOf g I 1 Y)) 3)) := hbb.cell 7 _ rfl
                    clear hbb
                    have hbo := BQr.out
                    have rc0 : w16.cell? ⟨qr, 0, none⟩ = some (.int .u64 0) := hbo.cell 0 _ rfl
                    have rc1 : w16.cell? ⟨qr, 1, none⟩ = some (.int .u64 0) := hbo.cell 1 _ rfl
                    have rc2 : w16.cell? ⟨qr, 2, none⟩ = some (.int .u64 0) := hbo.cell 2 _ rfl
                    have rc3 : w16.cell? ⟨qr, 3, none⟩ = some (.int .u64 0) := hbo.cell 3 _ rfl
                    have rc4 : w16.cell? ⟨qr, 4, none⟩ = some (.int .u64 0) := hbo.cell 4 _ rfl
                    have rc5 : w16.cell? ⟨qr, 5, none⟩ = some (.int .u64 0) := hbo.cell 5 _ rfl
                    have rc6 : w16.cell? ⟨qr, 6, none⟩ = some (.int .u64 0) := hbo.cell 6 _ rfl
                    have rc7 : w16.cell? ⟨qr, 7, none⟩ = some (.int .u64 0) := hbo.cell 7 _ rfl
                    have rf0 : w16.frozen? ⟨qr, 0, none⟩ = false := hbo.frozen 0
                    have rf1 : w16.frozen? ⟨qr, 1, none⟩ = false := hbo.frozen 1
                    have rf2 : w16.frozen? ⟨qr, 2, none⟩ = false := hbo.frozen 2
                    have rf3 : w16.frozen? ⟨qr, 3, none⟩ = false := hbo.frozen 3
                    have rf4 : w16.frozen? ⟨qr, 4, none⟩ = false := hbo.frozen 4
                    have rf5 : w16.frozen? ⟨qr, 5, none⟩ = false := hbo.frozen 5
                    have rf6 : w16.frozen? ⟨qr, 6, none⟩ = false := hbo.frozen 6
                    have rf7 : w16.frozen? ⟨qr, 7, none⟩ = false := hbo.frozen 7
                    clear hbo
                    have BZ : Box ((((((((w16.setCell ⟨qr, 0, none⟩ (.int .u64 (P.wrd X2 0))).setCell ⟨qr, 1, none⟩ (.int .u64 (P.wrd X2 1))).setCell ⟨qr, 2, none⟩ (.int .u64 (P.wrd X2 2))).setCell ⟨qr, 3, none⟩ (.int .u64 (P.wrd X2 3))).setCell ⟨qr, 4, none⟩ (.int .u64 (P.wrd (Y2 ||| (P.attOf g I 1 Y)) 0))).setCell ⟨qr, 5, none⟩ (.int .u64 (P.wrd (Y2 ||| (P.attOf g I 1 Y)) 1))).setCell ⟨qr, 6, none⟩ (.int .u64 (P.wrd (Y2 ||| (P.attOf g I 1 Y)) 2))).setCell ⟨qr, 7, none⟩ (.int .u64 (P.wrd (Y2 ||| (P.attOf g I 1 Y)) 3))) qr 50 #[.int .u64 (P.wrd X2 0), .int .u64 (P.wrd X2 1), .int .u64 (P.wrd X2 2), .int .u64 (P.wrd X2 3), .int .u64 (P.wrd (Y2 ||| (P.attOf g I 1 Y)) 0), .int .u64 (P.wrd (Y2 ||| (P.attOf g I 1 Y)) 1), .int .u64 (P.wrd (Y2 ||| (P.attOf g I 1 Y)) 2), .int .u64 (P.wrd (Y2 ||| (P.attOf g I 1 Y)) 3)] := box8 BQr.out _ _ _ _ _ _ _ _
                    have hko : Rk.Keeps (KN [qr]) w16 ((((((((w16.setCell ⟨qr, 0, none⟩ (.int .u64 (P.wrd X2 0))).setCell ⟨qr, 1, none⟩ (.int .u64 (P.wrd X2 1))).setCell ⟨qr, 2, none⟩ (.int .u64 (P.wrd X2 2))).setCell ⟨qr, 3, none⟩ (.int .u64 (P.wrd X2 3))).setCell ⟨qr, 4, none⟩ (.int .u64 (P.wrd (Y2 ||| (P.attOf g I 1 Y)) 0))).setCell ⟨qr, 5, none⟩ (.int .u64 (P.wrd (Y2 ||| (P.attOf g I 1 Y)) 1))).setCell ⟨qr, 6, none⟩ (.int .u64 (P.wrd (Y2 ||| (P.attOf g I 1 Y)) 2))).setCell ⟨qr, 7, none⟩ (.int .u64 (P.wrd (Y2 ||| (P.attOf g I 1 Y)) 3))) := (((((((kn_set w16 qr 0 _).trans (kn_set _ qr 1 _)).trans (kn_set _ qr 2 _)).trans (kn_set _ qr 3 _)).trans (kn_set _ qr 4 _)).trans (kn_set _ qr 5 _)).trans (kn_set _ qr 6 _)).trans (kn_set _ qr 7 _)
                    replace HS := Lib.hid (HS.out.kn hko NQr.out.1.symm NQr.out.2.symm (by have h1 := LEi.out; have h2 := HQ2.out; have h3 := LTir.out; have h4 := Lq7.out; have h5 := Lq9.out; have h6 := Lq10.out; omega))
                    replace HK := Lib.hid (HK.out.one hko (by have h1 := LEi.out; have h2 := HQ2.out; have h3 := LTir.out; have h4 := Lq7.out; have h5 := Lq9.out; have h6 := Lq10.out; omega))
                    replace BQp := Lib.hid (kn_box hko BQp.out (by have hne : q10 ≠ qr := (by have h1 := LEi.out; have h2 := HQ2.out; have h3 := LTir.out; have h4 := Lq7.out; have h5 := Lq9.out; have h6 := Lq10.out; omega); simp [hne]))
                    replace BQr := Lib.hid BZ
                    clear hko BZ
                    go_wp2_with fail
                    generalize ((((((((w16.setCell ⟨qr, 0, none⟩ (.int .u64 (P.wrd X2 0))).setCell ⟨qr, 1, none⟩ (.int .u64 (P.wrd X2 1))).setCell ⟨qr, 2, none⟩ (.int .u64 (P.wrd X2 2))).setCell ⟨qr, 3, none⟩ (.int .u64 (P.wrd X2 3))).setCell ⟨qr, 4, none⟩ (.int .u64 (P.wrd (Y2 ||| (P.attOf g I 1 Y)) 0))).setCell ⟨qr, 5, none⟩ (.int .u64 (P.wrd (Y2 ||| (P.attOf g I 1 Y)) 1))).setCell ⟨qr, 6, none⟩ (.int .u64 (P.wrd (Y2 ||| (P.attOf g I 1 Y)) 2))).setCell ⟨qr, 7, none⟩ (.int .u64 (P.wrd (Y2 ||| (P.attOf g I 1 Y)) 3))) = w17 at HS HK BQr BQp ⊢
                    clear rc0 rf0 rc1 rf1 rc2 rf2 rc3 rf3 rc4 rf4 rc5 rf5 rc6 rf6 rc7 rf7
                    clear pc0 pc1 pc2 pc3 pc4 pc5 pc6 pc7
                    have zc0 : w17.cell? ⟨qr, 0, none⟩ = some (.int .u64 (P.wrd X2 0)) := BQr.out.cell 0 _ rfl
                    have zc1 : w17.cell? ⟨qr, 1, none⟩ = some (.int .u64 (P.wrd X2 1)) := BQr.out.cell 1 _ rfl
                    have zc2 : w17.cell? ⟨qr, 2, none⟩ = some (.int .u64 (P.wrd X2 2)) := BQr.out.cell 2 _ rfl
                    have zc3 : w17.cell? ⟨qr, 3, none⟩ = some (.int .u64 (P.wrd X2 3)) := BQr.out.cell 3 _ rfl
                    have zc4 : w17.cell? ⟨qr, 4, none⟩ = some (.int .u64 (P.wrd (Y2 ||| (P.attOf g I 1 Y)) 0)) := BQr.out.cell 4 _ rfl
                    have zc5 : w17.cell? ⟨qr, 5, none⟩ = some (.int .u64 (P.wrd (Y2 ||| (P.attOf g I 1 Y)) 1)) := BQr.out.cell 5 _ rfl
                    have zc6 : w17.cell? ⟨qr, 6, none⟩ = some (.int .u64 (P.wrd (Y2 ||| (P.attOf g I 1 Y)) 2)) := BQr.out.cell 6 _ rfl
                    have zc7 : w17.cell? ⟨qr, 7, none⟩ = some (.int .u64 (P.wrd (Y2 ||| (P.attOf g I 1 Y)) 3)) := BQr.out.cell 7 _ rfl
                    refine bodyPost_ret (v := .agg #[.int .u64 (P.wrd X2 0), .int .u64 (P.wrd X2 1), .int .u64 (P.wrd X2 2), .int .u64 (P.wrd X2 3), .int .u64 (P.wrd (Y2 ||| (P.attOf g I 1 Y)) 0), .int .u64 (P.wrd (Y2 ||| (P.attOf g I 1 Y)) 1), .int .u64 (P.wrd (Y2 ||| (P.attOf g I 1 Y)) 2), .int .u64 (P.wrd (Y2 ||| (P.attOf g I 1 Y)) 3)]) (by simp [results, Tryd.results21, go_sem, zc0, zc1, zc2, zc3, zc4, zc5, zc6, zc7]) rfl ⟨X2, (Y2 ||| (P.attOf g I 1 Y)), c2, d3, rfl, P.ap_part0 HR.out (fun j hj => by rw [HN.out]; exact HI.out j hj) HG.out (HCL.out.trans HN.out.symm) HM.out HAP.out HM2.out HAP2.out, HS.out, HK.out, (by have h1 := HMX.out; have h2 := HDD.out; have h3 := HNX.out.2.2; have h4 := HDD2.out; have h5 := HNX2.out.2.2; split at h1 <;> omega), (by have h1 := HMX.out; have h2 := HDD.out; have h3 := HNX.out.2.2; have h4 := HDD2.out; have h5 := HNX2.out.2.2; split at h1 <;> omega), (by have h1 := HMX.out; have h2 := HDD.out; have h3 := HNX.out.2.2; have h4 := HDD2.out; have h5 := HNX2.out.2.2; split at h1 <;> omega)⟩
        · rw [hp]
          go_upto_region 5 with (fail)
          have hal := World.grownBy_alloc w5 (.cells #[.int .u64 (P.wrd To 0), .int .u64 (P.wrd To 1), .int .u64 (P.wrd To 2), .int .u64 (P.wrd To 3)] 37) none
          have bq : Box (w5.alloc (.cells #[.int .u64 (P.wrd To 0), .int .u64 (P.wrd To 1), .int .u64 (P.wrd To 2), .int .u64 (P.wrd To 3)] 37)) w5.heap.size 37 #[.int .u64 (P.wrd To 0), .int .u64 (P.wrd To 1), .int .u64 (P.wrd To 2), .int .u64 (P.wrd To 3)] := Box.new _ _ _
          have hlt : qr < w5.heap.size := BQr.out.lt
          have hnq := HS.out.ne_q (Nat.le_refl w5.heap.size)
          replace HS := Lib.hid (HS.out.on (below_of_grown hal))
          replace HK := Lib.hid (HK.out.trans (SlK.of (below_of_grown hal)))
          replace BV := Lib.hid (BV.out.keep hal)
          replace BF := Lib.hid (BF.out.keep hal)
          replace BQi := Lib.hid (BQi.out.keep hal)
          replace BQr := Lib.hid (BQr.out.keep hal)
          clear hal
          generalize (w5.alloc (.cells #[.int .u64 (P.wrd To 0), .int .u64 (P.wrd To 1), .int .u64 (P.wrd To 2), .int .u64 (P.wrd To 3)] 37)) = w6 at bq HS HK BV BF BQi BQr ⊢
          obtain ⟨q7, hq⟩ : ∃ q, w5.heap.size = q := ⟨_, rfl⟩
          rw [hq] at bq hlt hnq ⊢
          have BQT := Lib.hid bq
          have Lq7 : Hid (qr < q7) := Lib.hid hlt
          have NQT : Hid (q7 ≠ qs ∧ q7 ≠ pc) := Lib.hid hnq
          clear bq hlt hnq hq
          have hv0 := BV.out.cell 0 _ rfl
          have hbb := BQi.out
          have ic0 : w6.cell? ⟨qi, 0, none⟩ = some (.int .u64 (P.wrd I 0)) := hbb.cell 0 _ rfl
          have ic1 : w6.cell? ⟨qi, 1, none⟩ = some (.int .u64 (P.wrd I 1)) := hbb.cell 1 _ rfl
          have ic2 : w6.cell? ⟨qi, 2, none⟩ = some (.int .u64 (P.wrd I 2)) := hbb.cell 2 _ rfl
          have ic3 : w6.cell? ⟨qi, 3, none⟩ = some (.int .u64 (P.wrd I 3)) := hbb.cell 3 _ rfl
          clear hbb
          have hbb := BQT.out
          have tc0 : w6.cell? ⟨q7, 0, none⟩ = some (.int .u64 (P.wrd To 0)) := hbb.cell 0 _ rfl
          have tc1 : w6.cell? ⟨q7, 1, none⟩ = some (.int .u64 (P.wrd To 1)) := hbb.cell 1 _ rfl
          have tc2 : w6.cell? ⟨q7, 2, none⟩ = some (.int .u64 (P.wrd To 2)) := hbb.cell 2 _ rfl
          have tc3 : w6.cell? ⟨q7, 3, none⟩ = some (.int .u64 (P.wrd To 3)) := hbb.cell 3 _ rfl
          clear hbb
          go_wp2_with fail
          clear hv0 ic0 ic1 ic2 ic3 tc0 tc1 tc2 tc3
          refine (force_any g HR.out n HN.out w0 ba oa ka bb ob kb bc_ oc kc HV.out T.out qs pc kq c d2 w6 HS.out 1 (by decide) I To).mono ?_
          rintro e w7 ⟨rfl, m, hm, hs, hk⟩
          replace BV := Lib.hid (hk.box BV.out NV.out.1 NV.out.2)
          replace BF := Lib.hid (hk.box BF.out NF.out.1 NF.out.2)
          replace BQi := Lib.hid (hk.box BQi.out NQi.out.1 NQi.out.2)
          replace BQr := Lib.hid (hk.box BQr.out NQr.out.1 NQr.out.2)
          replace BQT := Lib.hid (hk.box BQT.out NQT.out.1 NQT.out.2)
          replace HK := Lib.hid (HK.out.trans hk)
          replace HS := Lib.hid hs
          have HM := Lib.hid hm
          have HNX := Lib.hid (show (∀ j, P.Bit (I &&& ~~~(P.attOf g I 1 To)) j → j < n) ∧ P.Goes g (P.Bit (I &&& ~~~(P.attOf g I 1 To))) ∧ P.cntS n (I &&& ~~~(P.attOf g I 1 To)) + 1 ≤ P.cntS n I by
            obtain ⟨i, hi⟩ := HEX.out
            have h := P.ap_next HR.out (p := 1) (by decide) (fun j hj => by rw [HN.out]; exact HI.out j hj) HG.out hm ((HTO.out i).1 hi).1 hi
            rw [HN.out] at h
            exact h)
          clear hm hs hk
          go_upto_region 6 with (fail)
          have hal := World.grownBy_alloc w7 (.cells #[.int .u64 (P.wrd (P.attOf g I 1 To) 0), .int .u64 (P.wrd (P.attOf g I 1 To) 1), .int .u64 (P.wrd (P.attOf g I 1 To) 2), .int .u64 (P.wrd (P.attOf g I 1 To) 3)] 37) none
          have bq : Box (w7.alloc (.cells #[.int .u64 (P.wrd (P.attOf g I 1 To) 0), .int .u64 (P.wrd (P.attOf g I 1 To) 1), .int .u64 (P.wrd (P.attOf g I 1 To) 2), .int .u64 (P.wrd (P.attOf g I 1 To) 3)] 37)) w7.heap.size 37 #[.int .u64 (P.wrd (P.attOf g I 1 To) 0), .int .u64 (P.wrd (P.attOf g I 1 To) 1), .int .u64 (P.wrd (P.attOf g I 1 To) 2), .int .u64 (P.wrd (P.attOf g I 1 To) 3)] := Box.new _ _ _
          have hlt : q7 < w7.heap.size := BQT.out.lt
          have hnq := HS.out.ne_q (Nat.le_refl w7.heap.size)
          replace HS := Lib.hid (HS.out.on (below_of_grown hal))
          replace HK := Lib.hid (HK.out.trans (SlK.of (below_of_grown hal)))
          replace BV := Lib.hid (BV.out.keep hal)
          replace BF := Lib.hid (BF.out.keep hal)
          replace BQi := Lib.hid (BQi.out.keep hal)
          replace BQr := Lib.hid (BQr.out.keep hal)
          replace BQT := Lib.hid (BQT.out.keep hal)
          clear hal
          generalize (w7.alloc (.cells #[.int .u64 (P.wrd (P.attOf g I 1 To) 0), .int .u64 (P.wrd (P.attOf g I 1 To) 1), .int .u64 (P.wrd (P.attOf g I 1 To) 2), .int .u64 (P.wrd (P.attOf g I 1 To) 3)] 37)) = w8 at bq HS HK BV BF BQi BQr BQT ⊢
          obtain ⟨q9, hq⟩ : ∃ q, w7.heap.size = q := ⟨_, rfl⟩
          rw [hq] at bq hlt hnq ⊢
          have BQA := Lib.hid bq
          have Lq9 : Hid (q7 < q9) := Lib.hid hlt
          have NQA : Hid (q9 ≠ qs ∧ q9 ≠ pc) := Lib.hid hnq
          clear bq hlt hnq hq
          have HQ8 : Hid (qs < w8.heap.size ∧ pc < w8.heap.size) := Lib.hid ⟨HS.out.box.lt, HS.out.plo.2⟩
          refine Rt.wp_region_tail 1 (fun idx => match idx with | 0 => (fun v _ _ => v = (.func (.func 21) #[] #[.pointer (some ⟨qv, 0, none⟩), .pointer (some ⟨qf, 0, none⟩)])) | 1 => (fun v _ _ => v = .agg #[.int .u64 (P.wrd I 0), .int .u64 (P.wrd I 1), .int .u64 (P.wrd I 2), .int .u64 (P.wrd I 3)]) | 2 => (fun v _ _ => v = .agg #[.int .u64 (P.wrd (P.attOf g I 1 To) 0), .int .u64 (P.wrd (P.attOf g I 1 To) 1), .int .u64 (P.wrd (P.attOf g I 1 To) 2), .int .u64 (P.wrd (P.attOf g I 1 To) 3)]) | 3 => (fun v _ _ => v = .agg #[.int .u64 (P.wrd (I &&& ~~~(P.attOf g I 1 To)) 0), .int .u64 (P.wrd (I &&& ~~~(P.attOf g I 1 To)) 1), .int .u64 (P.wrd (I &&& ~~~(P.attOf g I 1 To)) 2), .int .u64 (P.wrd (I &&& ~~~(P.attOf g I 1 To)) 3)]) | 4 => (fun v _ _ => v = (.int .i64 dep)) | 5 => (fun v _ _ => v = (.int .i64 (dep + 1))) | 6 => (fun v _ w' => (∃ X Y c1 d1, v = .agg #[.int .u64 (P.wrd X 0), .int .u64 (P.wrd X 1), .int .u64 (P.wrd X 2), .int .u64 (P.wrd X 3), .int .u64 (P.wrd Y 0), .int .u64 (P.wrd Y 1), .int .u64 (P.wrd Y 2), .int .u64 (P.wrd Y 3)] ∧ P.Ap g 0 (I &&& ~~~(P.attOf g I 1 To)) X Y (P.frc c m) c1 ∧ Sl w0 w' qs pc n kq (.slice (some ⟨ba, oa, none⟩) n ka) (.slice (some ⟨bb, ob, none⟩) n kb) (.slice (some ⟨bc_, oc, none⟩) n kc) c1 d1 ∧ d2 ≤ d1 ∧ dep + 1 ≤ d1 ∧ (d1 ≤ d2 ∨ d1 ≤ dep + 1 + (P.cntS n (I &&& ~~~(P.attOf g I 1 To)) : Nat)))) | 7 => (fun v _ w' => ∃ q, v = .pointer (some ⟨q, 0, none⟩) ∧ w8.heap.size ≤ q ∧ Box w' q 50 #[.int .u64 0, .int .u64 0, .int .u64 0, .int .u64 0, .int .u64 0, .int .u64 0, .int .u64 0, .int .u64 0]) | _ => fun _ _ _ => True) (fun _ _ _ _ => True) (KN [qs, pc]) 6 (by kernel_rfl) (by rfl) (by kernel_rfl) (by rfl) ?_ ?_ ?_ ?_
          · refine ⟨?_, ?_, ?_, ?_, ?_, ?_, ?_, ?_, trivial⟩
            · intro A w' K vals h hn hT hgk hK0
              have r0 : A.tmps[3]?.getD undef = (.pointer (some ⟨qf, 0, none⟩)) := Rg.slot h.1
              have bs := kn_box hgk BF.out (by simp [NF.out.1, NF.out.2])
              have cc0 : w'.cell? ⟨qf, 0, none⟩ = some (.func (.func 21) #[] #[.pointer (some ⟨qv, 0, none⟩), .pointer (some ⟨qf, 0, none⟩)]) := bs.cell 0 _ rfl
              clear h hn hT hgk bs
              simp [Oper.wp, execOp, go_sem, r0, cc0]
              exact hK0 _ _ (Rk.Keeps.refl _ _) rfl trivial
            · intro A w' K vals h hn hT hgk hK0
              have r0 : A.tmps[4]?.getD undef = (.pointer (some ⟨qi, 0, none⟩)) := Rg.slot h.1
              have bs := kn_box hgk BQi.out (by simp [NQi.out.1, NQi.out.2])
              have cc0 : w'.cell? ⟨qi, 0, none⟩ = some (.int .u64 (P.wrd I 0)) := bs.cell 0 _ rfl
              have cc1 : w'.cell? ⟨qi, 1, none⟩ = some (.int .u64 (P.wrd I 1)) := bs.cell 1 _ rfl
              have cc2 : w'.cell? ⟨qi, 2, none⟩ = some (.int .u64 (P.wrd I 2)) := bs.cell 2 _ rfl
              have cc3 : w'.cell? ⟨qi, 3, none⟩ = some (.int .u64 (P.wrd I 3)) := bs.cell 3 _ rfl
              clear h hn hT hgk bs
              simp [Oper.wp, execOp, go_sem, r0, cc0, cc1, cc2, cc3]
              exact hK0 _ _ (Rk.Keeps.refl _ _) rfl trivial
            · intro A w' K vals h hn hT hgk hK0
              have r0 : A.tmps[9]?.getD undef = (.pointer (some ⟨q9, 0, none⟩)) := Rg.slot h.1
              have bs := kn_box hgk BQA.out (by simp [NQA.out.1, NQA.out.2])
              have cc0 : w'.cell? ⟨q9, 0, none⟩ = some (.int .u64 (P.wrd (P.attOf g I 1 To) 0)) := bs.cell 0 _ rfl
              have cc1 : w'.cell? ⟨q9, 1, none⟩ = some (.int .u64 (P.wrd (P.attOf g I 1 To) 1)) := bs.cell 1 _ rfl
              have cc2 : w'.cell? ⟨q9, 2, none⟩ = some (.int .u64 (P.wrd (P.attOf g I 1 To) 2)) := bs.cell 2 _ rfl
              have cc3 : w'.cell? ⟨q9, 3, none⟩ = some (.int .u64 (P.wrd (P.attOf g I 1 To) 3)) := bs.cell 3 _ rfl
              clear h hn hT hgk bs
              simp [Oper.wp, execOp, go_sem, r0, cc0, cc1, cc2, cc3]
              exact hK0 _ _ (Rk.Keeps.refl _ _) rfl trivial
            · intro A w' K vals h hn hT hgk hK0
              have r0 : A.tmps[37]?.getD undef = vals 1 := Rg.slot h.2.1
              have r1 : A.tmps[38]?.getD undef = vals 2 := Rg.slot h.2.2.1
              have s0 : vals 1 = .agg #[.int .u64 (P.wrd I 0), .int .u64 (P.wrd I 1), .int .u64 (P.wrd I 2), .int .u64 (P.wrd I 3)] := hn.1
              have s1 : vals 2 = .agg #[.int .u64 (P.wrd (P.attOf g I 1 To) 0), .int .u64 (P.wrd (P.attOf g I 1 To) 1), .int .u64 (P.wrd (P.attOf g I 1 To) 2), .int .u64 (P.wrd (P.attOf g I 1 To) 3)] := hn.2.1
              clear h hn hT hgk
              simp [Oper.wp, go_sem, r0, r1, s0, s1]
              refine (minus_any _ _ w').mono ?_
              rintro e w'' ⟨rfl, hb⟩
              exact hK0 _ _ (Rk.keep_of (grown_of_below hb _)) rfl trivial
            · intro A w' K vals h hn hT hgk hK0
              have r0 : A.tmps[1]?.getD undef = .int .i64 dep := Rg.slot h.1
              clear h hn hT hgk
              simp [Oper.wp, execOp, go_sem, r0]
              exact hK0 _ _ (Rk.Keeps.refl _ _) rfl trivial
            · intro A w' K vals h hn hT hgk hK0
              have r0 : A.tmps[40]?.getD undef = vals 4 := Rg.slot h.1
              have s0 : vals 4 = (.int .i64 dep) := hn.1
              clear h hn hT hgk
              have hw : IntKind.i64.wrap (dep + 1) = dep + 1 := by rw [IntKind.wrap_i64]; omega
              simp [Oper.wp, execOp, go_sem, r0, s0, hw]
              exact hK0 _ _ (Rk.Keeps.refl _ _) rfl trivial
            · intro A w' K vals h hn hT hgk hK0
              have r0 : A.tmps[36]?.getD undef = vals 0 := Rg.slot h.1
              have r1 : A.tmps[39]?.getD undef = vals 3 := Rg.slot h.2.1
              have r2 : A.tmps[41]?.getD undef = vals 5 := Rg.slot h.2.2.1
              have s0 : vals 0 = .func (.func 21) #[] #[.pointer (some ⟨qv, 0, none⟩), .pointer (some ⟨qf, 0, none⟩)] := hn.1
              have s1 : vals 3 = .agg #[.int .u64 (P.wrd (I &&& ~~~(P.attOf g I 1 To)) 0), .int .u64 (P.wrd (I &&& ~~~(P.attOf g I 1 To)) 1), .int .u64 (P.wrd (I &&& ~~~(P.attOf g I 1 To)) 2), .int .u64 (P.wrd (I &&& ~~~(P.attOf g I 1 To)) 3)] := hn.2.1
              have s2 : vals 5 = .int .i64 (dep + 1) := hn.2.2.1
              have hs := HS.out.on (below_of_grown (Rk.grown_of hgk))
              have hbv := BV.out.keep (Rk.grown_of hgk)
              have hbf := BF.out.keep (Rk.grown_of hgk)
              clear h hn hT hgk
              simp [Oper.wp, go_sem, r0, r1, r2, s0, s1, s2]
              refine (IH.out (I &&& ~~~(P.attOf g I 1 To)) (P.frc c m) d2 (dep + 1) w' (by have h1 := HU.out; have h2 := HNX.out.2.2; omega) HNX.out.1 HNX.out.2.1 (by omega) (by have h1 := HD1.out; have h2 := HNX.out.2.2; omega) hs hbv hbf NV.out NF.out).mono ?_
              rintro e w'' ⟨X, Y, c1, d1, rfl, hap, hs, hk, h1, h2, h3⟩
              exact hK0 _ _ hk.kn ⟨X, Y, c1, d1, rfl, hap, hs, h1, h2, h3⟩ trivial
            · intro A w' K vals h hn hT hgk hK0
              have hsz := hgk.size
              clear h hn hT
              simp [Oper.wp, execOp, go_sem]
              exact hK0 _ _ (Rk.keep_of (World.grownBy_alloc _ _ _)) ⟨_, rfl, hsz, Box.new _ _ _⟩ trivial
          · refine ⟨?_, ?_, ?_, ?_, ?_, ?_, ?_, ?_, trivial⟩
            · exact fun _ _ _ _ _ _ h => h
            · exact fun _ _ _ _ _ _ h => h
            · exact fun _ _ _ _ _ _ h => h
            · exact fun _ _ _ _ _ _ h => h
            · exact fun _ _ _ _ _ _ h => h
            · exact fun _ _ _ _ _ _ h => h
            · exact fun _ _ _ _ _ h ⟨X, Y, c1, d1, h1, h2, h3, h4⟩ => ⟨X, Y, c1, d1, h1, h2, h3.on (below_of_grown (Rk.grown_of h)), h4⟩
            · exact fun _ _ _ _ _ h ⟨q, h1, h2, h3⟩ => ⟨q, h1, h2, kn_box h h3 (by have := HQ8.out; simp; omega)⟩
          · exact fun _ _ _ _ _ _ h => h
          · intro vals w9 G hgk hS hG
            obtain ⟨X, Y, c1, d1, s6, hap, hs, hd3, hd4, hd5⟩ : (∃ X Y c1 d1, vals 6 = .agg #[.int .u64 (P.wrd X 0), .int .u64 (P.wrd X 1), .int .u64 (P.wrd X 2), .int .u64 (P.wrd X 3), .int .u64 (P.wrd Y 0), .int .u64 (P.wrd Y 1), .int .u64 (P.wrd Y 2), .int .u64 (P.wrd Y 3)] ∧ P.Ap g 0 (I &&& ~~~(P.attOf g I 1 To)) X Y (P.frc c m) c1 ∧ Sl w0 w9 qs pc n kq (.slice (some ⟨ba, oa, none⟩) n ka) (.slice (some ⟨bb, ob, none⟩) n kb) (.slice (some ⟨bc_, oc, none⟩) n kc) c1 d1 ∧ d2 ≤ d1 ∧ dep + 1 ≤ d1 ∧ (d1 ≤ d2 ∨ d1 ≤ dep + 1 + (P.cntS n (I &&& ~~~(P.attOf g I 1 To)) : Nat))) := hS.2.2.2.2.2.2.1
            obtain ⟨q10, s7, hq10, hb10⟩ : ∃ q, vals 7 = .pointer (some ⟨q, 0, none⟩) ∧ w8.heap.size ≤ q ∧ Box w9 q 50 #[.int .u64 0, .int .u64 0, .int .u64 0, .int .u64 0, .int .u64 0, .int .u64 0, .int .u64 0, .int .u64 0] := hS.2.2.2.2.2.2.2.1
            clear hS
            have hk := kn_slk hgk
            have HAP := Lib.hid hap
            have HDD := Lib.hid (And.intro hd3 (And.intro hd4 hd5))
            have Lq10 : Hid (q9 < q10) := Lib.hid (Nat.lt_of_lt_of_le BQA.out.lt hq10)
            have NQp : Hid (q10 ≠ qs ∧ q10 ≠ pc) := Lib.hid (by have := HQ8.out; omega)
            have BQp := Lib.hid hb10
            replace BV := Lib.hid (hk.box BV.out NV.out.1 NV.out.2)
            replace BF := Lib.hid (hk.box BF.out NF.out.1 NF.out.2)
            replace BQi := Lib.hid (hk.box BQi.out NQi.out.1 NQi.out.2)
            replace BQr := Lib.hid (hk.box BQr.out NQr.out.1 NQr.out.2)
            replace BQT := Lib.hid (hk.box BQT.out NQT.out.1 NQT.out.2)
            replace BQA := Lib.hid (hk.box BQA.out NQA.out.1 NQA.out.2)
            replace HK := Lib.hid (HK.out.trans hk)
            replace HS := Lib.hid hs
            clear hgk hk hap hs hd3 hd4 hd5 hq10 hb10
            refine hG ?_
            clear hG
            simp only [List.take, List.drop, List.length, Nat.reduceSub, Nat.reduceAdd, Rg.putAll, Act.put, List.setIfInBounds_toArray, List.set_cons_succ, List.set_cons_zero, s6, s7]
            clear s6 s7
            have hbo := BQp.out
            have rc0 : w9.cell? ⟨q10, 0, none⟩ = some (.int .u64 0) := hbo.cell 0 _ rfl
            have rc1 : w9.cell? ⟨q10, 1, none⟩ = some (.int .u64 0) := hbo.cell 1 _ rfl
            have rc2 : w9.cell? ⟨q10, 2, none⟩ = some (.int .u64 0) := hbo.cell 2 _ rfl
            have rc3 : w9.cell? ⟨q10, 3, none⟩ = some (.int .u64 0) := hbo.cell 3 _ rfl
            have rc4 : w9.cell? ⟨q10, 4, none⟩ = some (.int .u64 0) := hbo.cell 4 _ rfl
            have rc5 : w9.cell? ⟨q10, 5, none⟩ = some (.int .u64 0) := hbo.cell 5 _ rfl
            have rc6 : w9.cell? ⟨q10, 6, none⟩ = some (.int .u64 0) := hbo.cell 6 _ rfl
            have rc7 : w9.cell? ⟨q10, 7, none⟩ = some (.int .u64 0) := hbo.cell 7 _ rfl
            have rf0 : w9.frozen? ⟨q10, 0, none⟩ = false := hbo.frozen 0
            have rf1 : w9.frozen? ⟨q10, 1, none⟩ = false := hbo.frozen 1
            have rf2 : w9.frozen? ⟨q10, 2, none⟩ = false := hbo.frozen 2
            have rf3 : w9.frozen? ⟨q10, 3, none⟩ = false := hbo.frozen 3
            have rf4 : w9.frozen? ⟨q10, 4, none⟩ = false := hbo.frozen 4
            have rf5 : w9.frozen? ⟨q10, 5, none⟩ = false := hbo.frozen 5
            have rf6 : w9.frozen? ⟨q10, 6, none⟩ = false := hbo.frozen 6
            have rf7 : w9.frozen? ⟨q10, 7, none⟩ = false := hbo.frozen 7
            clear hbo
            have BZ : Box ((((((((w9.setCell ⟨q10, 0, none⟩ (.int .u64 (P.wrd X 0))).setCell ⟨q10, 1, none⟩ (.int .u64 (P.wrd X 1))).setCell ⟨q10, 2, none⟩ (.int .u64 (P.wrd X 2))).setCell ⟨q10, 3, none⟩ (.int .u64 (P.wrd X 3))).setCell ⟨q10, 4, none⟩ (.int .u64 (P.wrd Y 0))).setCell ⟨q10, 5, none⟩ (.int .u64 (P.wrd Y 1))).setCell ⟨q10, 6, none⟩ (.int .u64 (P.wrd Y 2))).setCell ⟨q10, 7, none⟩ (.int .u64 (P.wrd Y 3))) q10 50 #[.int .u64 (P.wrd X 0), .int .u64 (P.wrd X 1), .int .u64 (P.wrd X 2), .int .u64 (P.wrd X 3), .int .u64 (P.wrd Y 0), .int .u64 (P.wrd Y 1), .int .u64 (P.wrd Y 2), .int .u64 (P.wrd Y 3)] := box8 BQp.out _ _ _ _ _ _ _ _
            have hko : Rk.Keeps (KN [q10]) w9 ((((((((w9.setCell ⟨q10, 0, none⟩ (.int .u64 (P.wrd X 0))).setCell ⟨q10, 1, none⟩ (.int .u64 (P.wrd X 1))).setCell ⟨q10, 2, none⟩ (.int .u64 (P.wrd X 2))).setCell ⟨q10, 3, none⟩ (.int .u64 (P.wrd X 3))).setCell ⟨q10, 4, none⟩ (.int .u64 (P.wrd Y 0))).setCell ⟨q10, 5, none⟩ (.int .u64 (P.wrd Y 1))).setCell ⟨q10, 6, none⟩ (.int .u64 (P.wrd Y 2))).setCell ⟨q10, 7, none⟩ (.int .u64 (P.wrd Y 3))) := (((((((kn_set w9 q10 0 _).trans (kn_set _ q10 1 _)).trans (kn_set _ q10 2 _)).trans (kn_set _ q10 3 _)).trans (kn_set _ q10 4 _)).trans (kn_set _ q10 5 _)).trans (kn_set _ q10 6 _)).trans (kn_set _ q10 7 _)
            replace HS := Lib.hid (HS.out.kn hko NQp.out.1.symm NQp.out.2.symm (by have h1 := LEi.out; have h2 := HQ2.out; have h3 := LTir.out; have h4 := Lq7.out; have h5 := Lq9.out; have h6 := Lq10.out; omega))
            replace HK := Lib.hid (HK.out.one hko (by have h1 := LEi.out; have h2 := HQ2.out; have h3 := LTir.out; have h4 := Lq7.out; have h5 := Lq9.out; have h6 := Lq10.out; omega))
            replace BV := Lib.hid (kn_box hko BV.out (by have hne : qv ≠ q10 := (by have h1 := LEi.out; have h2 := HQ2.out; have h3 := LTir.out; have h4 := Lq7.out; have h5 := Lq9.out; have h6 := Lq10.out; omega); simp [hne]))
            replace BF := Lib.hid (kn_box hko BF.out (by have hne : qf ≠ q10 := (by have h1 := LEi.out; have h2 := HQ2.out; have h3 := LTir.out; have h4 := Lq7.out; have h5 := Lq9.out; have h6 := Lq10.out; omega); simp [hne]))
            replace BQi := Lib.hid (kn_box hko BQi.out (by have hne : qi ≠ q10 := (by have h1 := LEi.out; have h2 := HQ2.out; have h3 := LTir.out; have h4 := Lq7.out; have h5 := Lq9.out; have h6 := Lq10.out; omega); simp [hne]))
            replace BQr := Lib.hid (kn_box hko BQr.out (by have hne : qr ≠ q10 := (by have h1 := LEi.out; have h2 := HQ2.out; have h3 := LTir.out; have h4 := Lq7.out; have h5 := Lq9.out; have h6 := Lq10.out; omega); simp [hne]))
            replace BQT := Lib.hid (kn_box hko BQT.out (by have hne : q7 ≠ q10 := (by have h1 := LEi.out; have h2 := HQ2.out; have h3 := LTir.out; have h4 := Lq7.out; have h5 := Lq9.out; have h6 := Lq10.out; omega); simp [hne]))
            replace BQA := Lib.hid (kn_box hko BQA.out (by have hne : q9 ≠ q10 := (by have h1 := LEi.out; have h2 := HQ2.out; have h3 := LTir.out; have h4 := Lq7.out; have h5 := Lq9.out; have h6 := Lq10.out; omega); simp [hne]))
            replace BQp := Lib.hid BZ
            clear hko BZ
            go_upto_region 7 with (fail)
            generalize ((((((((w9.setCell ⟨q10, 0, none⟩ (.int .u64 (P.wrd X 0))).setCell ⟨q10, 1, none⟩ (.int .u64 (P.wrd X 1))).setCell ⟨q10, 2, none⟩ (.int .u64 (P.wrd X 2))).setCell ⟨q10, 3, none⟩ (.int .u64 (P.wrd X 3))).setCell ⟨q10, 4, none⟩ (.int .u64 (P.wrd Y 0))).setCell ⟨q10, 5, none⟩ (.int .u64 (P.wrd Y 1))).setCell ⟨q10, 6, none⟩ (.int .u64 (P.wrd Y 2))).setCell ⟨q10, 7, none⟩ (.int .u64 (P.wrd Y 3))) = w10 at HS HK BQp BV BF BQi BQr BQT BQA ⊢
            clear rc0 rf0 rc1 rf1 rc2 rf2 rc3 rf3 rc4 rf4 rc5 rf5 rc6 rf6 rc7 rf7
            by_cases hL : X = 0#256
            · have hf : ∀ w, (binOp .eql 37 (.agg #[.int .u64 (P.wrd X 0), .int .u64 (P.wrd X 1), .int .u64 (P.wrd X 2), .int .u64 (P.wrd X 3)]) (.agg #[.int .u64 0, .int .u64 0, .int .u64 0, .int .u64 0])).run Tryd.prog w = .ok (.bool true) w := fun w => by
                have h := set_eq X 0#256 w
                have e : ∀ k, P.wrd 0#256 k = 0 := P.wrd_zero
                rw [decide_eq_true hL, e, e, e, e] at h
                exact h
              have HL := Lib.hid hL
              clear hL
              have hbb := BQp.out
              have pc0 : w10.cell? ⟨q10, 0, none⟩ = some (.int .u64 (P.wrd X 0)) := hbb.cell 0 _ rfl
              have pc1 : w10.cell? ⟨q10, 1, none⟩ = some (.int .u64 (P.wrd X 1)) := hbb.cell 1 _ rfl
              have pc2 : w10.cell? ⟨q10, 2, none⟩ = some (.int .u64 (P.wrd X 2)) := hbb.cell 2 _ rfl
              have pc3 : w10.cell? ⟨q10, 3, none⟩ = some (.int .u64 (P.wrd X 3)) := hbb.cell 3 _ rfl
              have pc4 : w10.cell? ⟨q10, 4, none⟩ = some (.int .u64 (P.wrd Y 0)) := hbb.cell 4 _ rfl
              have pc5 : w10.cell? ⟨q10, 5, none⟩ = some (.int .u64 (P.wrd Y 1)) := hbb.cell 5 _ rfl
              have pc6 : w10.cell? ⟨q10, 6, none⟩ = some (.int .u64 (P.wrd Y 2)) := hbb.cell 6 _ rfl
              have pc7 : w10.cell? ⟨q10, 7, none⟩ = some (.int .u64 (P.wrd Y 3)) := hbb.cell 7 _ rfl
              clear hbb
              have hv0 := BV.out.cell 0 _ rfl
              have hbb := BQi.out
              have ic0 : w10.cell? ⟨qi, 0, none⟩ = some (.int .u64 (P.wrd I 0)) := hbb.cell 0 _ rfl
              have ic1 : w10.cell? ⟨qi, 1, none⟩ = some (.int .u64 (P.wrd I 1)) := hbb.cell 1 _ rfl
              have ic2 : w10.cell? ⟨qi, 2, none⟩ = some (.int .u64 (P.wrd I 2)) := hbb.cell 2 _ rfl
              have ic3 : w10.cell? ⟨qi, 3, none⟩ = some (.int .u64 (P.wrd I 3)) := hbb.cell 3 _ rfl
              clear hbb
              have hbb := BQT.out
              have tc0 : w10.cell? ⟨q7, 0, none⟩ = some (.int .u64 (P.wrd To 0)) := hbb.cell 0 _ rfl
              have tc1 : w10.cell? ⟨q7, 1, none⟩ = some (.int .u64 (P.wrd To 1)) := hbb.cell 1 _ rfl
              have tc2 : w10.cell? ⟨q7, 2, none⟩ = some (.int .u64 (P.wrd To 2)) := hbb.cell 2 _ rfl
              have tc3 : w10.cell? ⟨q7, 3, none⟩ = some (.int .u64 (P.wrd To 3)) := hbb.cell 3 _ rfl
              clear hbb
              go_wp2_with fail
              clear hv0 ic0 ic1 ic2 ic3 tc0 tc1 tc2 tc3 pc0 pc1 pc2 pc3 pc4 pc5 pc6 pc7
              refine (stay_any g HR.out n HN.out w0 ba oa ka bb ob kb bc_ oc kc HV.out T.out qs pc kq c1 d1 w10 HS.out 1 I To (fun i hi => HI.out i ((HTO.out i).1 hi).1)).mono ?_
              rintro e w11 ⟨rfl, hs, hk⟩
              replace BQi := Lib.hid (hk.box BQi.out NQi.out.1 NQi.out.2)
              replace BQr := Lib.hid (hk.box BQr.out NQr.out.1 NQr.out.2)
              replace BQp := Lib.hid (hk.box BQp.out NQp.out.1 NQp.out.2)
              replace HK := Lib.hid (HK.out.trans hk)
              replace HS := Lib.hid hs
              clear hk hs
              have hbb := BQi.out
              have ic0 : w11.cell? ⟨qi, 0, none⟩ = some (.int .u64 (P.wrd I 0)) := hbb.cell 0 _ rfl
              have ic1 : w11.cell? ⟨qi, 1, none⟩ = some (.int .u64 (P.wrd I 1)) := hbb.cell 1 _ rfl
              have ic2 : w11.cell? ⟨qi, 2, none⟩ = some (.int .u64 (P.wrd I 2)) := hbb.cell 2 _ rfl
              have ic3 : w11.cell? ⟨qi, 3, none⟩ = some (.int .u64 (P.wrd I 3)) := hbb.cell 3 _ rfl
              clear hbb
              have hbo := BQp.out
              have rc0 : w11.cell? ⟨q10, 0, none⟩ = some (.int .u64 (P.wrd X 0)) := hbo.cell 0 _ rfl
              have rc1 : w11.cell? ⟨q10, 1, none⟩ = some (.int .u64 (P.wrd X 1)) := hbo.cell 1 _ rfl
              have rc2 : w11.cell? ⟨q10, 2, none⟩ = some (.int .u64 (P.wrd X 2)) := hbo.cell 2 _ rfl
              have rc3 : w11.cell? ⟨q10, 3, none⟩ = some (.int .u64 (P.wrd X 3)) := hbo.cell 3 _ rfl
              have rc4 : w11.cell? ⟨q10, 4, none⟩ = some (.int .u64 (P.wrd Y 0)) := hbo.cell 4 _ rfl
              have rc5 : w11.cell? ⟨q10, 5, none⟩ = some (.int .u64 (P.wrd Y 1)) := hbo.cell 5 _ rfl
              have rc6 : w11.cell? ⟨q10, 6, none⟩ = some (.int .u64 (P.wrd Y 2)) := hbo.cell 6 _ rfl
              have rc7 : w11.cell? ⟨q10, 7, none⟩ = some (.int .u64 (P.wrd Y 3)) := hbo.cell 7 _ rfl
              have rf0 : w11.frozen? ⟨q10, 0, none⟩ = false := hbo.frozen 0
              have rf1 : w11.frozen? ⟨q10, 1, none⟩ = false := hbo.frozen 1
              have rf2 : w11.frozen? ⟨q10, 2, none⟩ = false := hbo.frozen 2
              have rf3 : w11.frozen? ⟨q10, 3, none⟩ = false := hbo.frozen 3
              have rf4 : w11.frozen? ⟨q10, 4, none⟩ = false := hbo.frozen 4
              have rf5 : w11.frozen? ⟨q10, 5, none⟩ = false := hbo.frozen 5
              have rf6 : w11.frozen? ⟨q10, 6, none⟩ = false := hbo.frozen 6
              have rf7 : w11.frozen? ⟨q10, 7, none⟩ = false := hbo.frozen 7
              clear hbo
              have BZ : Box ((((w11.setCell ⟨q10, 4, none⟩ (.int .u64 (P.wrd I 0))).setCell ⟨q10, 5, none⟩ (.int .u64 (P.wrd I 1))).setCell ⟨q10, 6, none⟩ (.int .u64 (P.wrd I 2))).setCell ⟨q10, 7, none⟩ (.int .u64 (P.wrd I 3))) q10 50 #[.int .u64 (P.wrd X 0), .int .u64 (P.wrd X 1), .int .u64 (P.wrd X 2), .int .u64 (P.wrd X 3), .int .u64 (P.wrd I 0), .int .u64 (P.wrd I 1), .int .u64 (P.wrd I 2), .int .u64 (P.wrd I 3)] := box4hi BQp.out _ _ _ _
              have hko : Rk.Keeps (KN [q10]) w11 ((((w11.setCell ⟨q10, 4, none⟩ (.int .u64 (P.wrd I 0))).setCell ⟨q10, 5, none⟩ (.int .u64 (P.wrd I 1))).setCell ⟨q10, 6, none⟩ (.int .u64 (P.wrd I 2))).setCell ⟨q10, 7, none⟩ (.int .u64 (P.wrd I 3))) := (((kn_set w11 q10 4 _).trans (kn_set _ q10 5 _)).trans (kn_set _ q10 6 _)).trans (kn_set _ q10 7 _)
              replace HS := Lib.hid (HS.out.kn hko NQp.out.1.symm NQp.out.2.symm (by have h1 := LEi.out; have h2 := HQ2.out; have h3 := LTir.out; have h4 := Lq7.out; have h5 := Lq9.out; have h6 := Lq10.out; omega))
              replace HK := Lib.hid (HK.out.one hko (by have h1 := LEi.out; have h2 := HQ2.out; have h3 := LTir.out; have h4 := Lq7.out; have h5 := Lq9.out; have h6 := Lq10.out; omega))
              replace BQr := Lib.hid (kn_box hko BQr.out (by have hne : qr ≠ q10 := (by have h1 := LEi.out; have h2 := HQ2.out; have h3 := LTir.out; have h4 := Lq7.out; have h5 := Lq9.out; have h6 := Lq10.out; omega); simp [hne]))
              replace BQp := Lib.hid BZ
              clear hko BZ
              go_upto_region 10 with (fail)
              generalize ((((w11.setCell ⟨q10, 4, none⟩ (.int .u64 (P.wrd I 0))).setCell ⟨q10, 5, none⟩ (.int .u64 (P.wrd I 1))).setCell ⟨q10, 6, none⟩ (.int .u64 (P.wrd I 2))).setCell ⟨q10, 7, none⟩ (.int .u64 (P.wrd I 3))) = w12 at HS HK BQp BQr ⊢
              clear rc0 rf0 rc1 rf1 rc2 rf2 rc3 rf3 rc4 rf4 rc5 rf5 rc6 rf6 rc7 rf7
              clear ic0 ic1 ic2 ic3
              have hbb := BQp.out
              have pc0 : w12.cell? ⟨q10, 0, none⟩ = some (.int .u64 (P.wrd X 0)) := hbb.cell 0 _ rfl
              have pc1 : w12.cell? ⟨q10, 1, none⟩ = some (.int .u64 (P.wrd X 1)) := hbb.cell 1 _ rfl
              have pc2 : w12.cell? ⟨q10, 2, none⟩ = some (.int .u64 (P.wrd X 2)) := hbb.cell 2 _ rfl
              have pc3 : w12.cell? ⟨q10, 3, none⟩ = some (.int .u64 (P.wrd X 3)) := hbb.cell 3 _ rfl
              have pc4 : w12.cell? ⟨q10, 4, none⟩ = some (.int .u64 (P.wrd I 0)) := hbb.cell 4 _ rfl
              have pc5 : w12.cell? ⟨q10, 5, none⟩ = some (.int .u64 (P.wrd I 1)) := hbb.cell 5 _ rfl
              have pc6 : w12.cell? ⟨q10, 6, none⟩ = some (.int .u64 (P.wrd I 2)) := hbb.cell 6 _ rfl
              have pc7 : w12.cell? ⟨q10, 7, none⟩ = some (.int .u64 (P.wrd I 3)) := hbb.cell 7 _ rfl
              clear hbb
              have hbo := BQr.out
              have rc0 : w12.cell? ⟨qr, 0, none⟩ = some (.int .u64 0) := hbo.cell 0 _ rfl
              have rc1 : w12.cell? ⟨qr, 1, none⟩ = some (.int .u64 0) := hbo.cell 1 _ rfl
              have rc2 : w12.cell? ⟨qr, 2, none⟩ = some (.int .u64 0) := hbo.cell 2 _ rfl
              have rc3 : w12.cell? ⟨qr, 3, none⟩ = some (.int .u64 0) := hbo.cell 3 _ rfl
              have rc4 : w12.cell? ⟨qr, 4, none⟩ = some (.int .u64 0) := hbo.cell 4 _ rfl
              have rc5 : w12.cell? ⟨qr, 5, none⟩ = some (.int .u64 0) := hbo.cell 5 _ rfl
              have rc6 : w12.cell? ⟨qr, 6, none⟩ = some (.int .u64 0) := hbo.cell 6 _ rfl
              have rc7 : w12.cell? ⟨qr, 7, none⟩ = some (.int .u64 0) := hbo.cell 7 _ rfl
              have rf0 : w12.frozen? ⟨qr, 0, none⟩ = false := hbo.frozen 0
              have rf1 : w12.frozen? ⟨qr, 1, none⟩ = false := hbo.frozen 1
              have rf2 : w12.frozen? ⟨qr, 2, none⟩ = false := hbo.frozen 2
              have rf3 : w12.frozen? ⟨qr, 3, none⟩ = false := hbo.frozen 3
              have rf4 : w12.frozen? ⟨qr, 4, none⟩ = false := hbo.frozen 4
              have rf5 : w12.frozen? ⟨qr, 5, none⟩ = false := hbo.frozen 5
              have rf6 : w12.frozen? ⟨qr, 6, none⟩ = false := hbo.frozen 6
              have rf7 : w12.frozen? ⟨qr, 7, none⟩ = false := hbo.frozen 7
              clear hbo
              have BZ : Box ((((((((w12.setCell ⟨qr, 0, none⟩ (.int .u64 (P.wrd X 0))).setCell ⟨qr, 1, none⟩ (.int .u64 (P.wrd X 1))).setCell ⟨qr, 2, none⟩ (.int .u64 (P.wrd X 2))).setCell ⟨qr, 3, none⟩ (.int .u64 (P.wrd X 3))).setCell ⟨qr, 4, none⟩ (.int .u64 (P.wrd I 0))).setCell ⟨qr, 5, none⟩ (.int .u64 (P.wrd I 1))).setCell ⟨qr, 6, none⟩ (.int .u64 (P.wrd I 2))).setCell ⟨qr, 7, none⟩ (.int .u64 (P.wrd I 3))) qr 50 #[.int .u64 (P.wrd X 0), .int .u64 (P.wrd X 1), .int .u64 (P.wrd X 2), .int .u64 (P.wrd X 3), .int .u64 (P.wrd I 0), .int .u64 (P.wrd I 1), .int .u64 (P.wrd I 2), .int .u64 (P.wrd I 3)] := box8 BQr.out _ _ _ _ _ _ _ _
              have hko : Rk.Keeps (KN [qr]) w12 ((((((((w12.setCell ⟨qr, 0, none⟩ (.int .u64 (P.wrd X 0))).setCell ⟨qr, 1, none⟩ (.int .u64 (P.wrd X 1))).setCell ⟨qr, 2, none⟩ (.int .u64 (P.wrd X 2))).setCell ⟨qr, 3, none⟩ (.int .u64 (P.wrd X 3))).setCell ⟨qr, 4, none⟩ (.int .u64 (P.wrd I 0))).setCell ⟨qr, 5, none⟩ (.int .u64 (P.wrd I 1))).setCell ⟨qr, 6, none⟩ (.int .u64 (P.wrd I 2))).setCell ⟨qr, 7, none⟩ (.int .u64 (P.wrd I 3))) := (((((((kn_set w12 qr 0 _).trans (kn_set _ qr 1 _)).trans (kn_set _ qr 2 _)).trans (kn_set _ qr 3 _)).trans (kn_set _ qr 4 _)).trans (kn_set _ qr 5 _)).trans (kn_set _ qr 6 _)).trans (kn_set _ qr 7 _)
              replace HS := Lib.hid (HS.out.kn hko NQr.out.1.symm NQr.out.2.symm (by have h1 := LEi.out; have h2 := HQ2.out; have h3 := LTir.out; have h4 := Lq7.out; have h5 := Lq9.out; have h6 := Lq10.out; omega))
              replace HK := Lib.hid (HK.out.one hko (by have h1 := LEi.out; have h2 := HQ2.out; have h3 := LTir.out; have h4 := Lq7.out; have h5 := Lq9.out; have h6 := Lq10.out; omega))
              replace BQp := Lib.hid (kn_box hko BQp.out (by have hne : q10 ≠ qr := (by have h1 := LEi.out; have h2 := HQ2.out; have h3 := LTir.out; have h4 := Lq7.out; have h5 := Lq9.out; have h6 := Lq10.out; omega); simp [hne]))
              replace BQr := Lib.hid BZ
              clear hko BZ
              go_wp2_with fail
              generalize ((((((((w12.setCell ⟨qr, 0, none⟩ (.int .u64 (P.wrd X 0))).setCell ⟨qr, 1, none⟩ (.int .u64 (P.wrd X 1))).setCell ⟨qr, 2, none⟩ (.int .u64 (P.wrd X 2))).setCell ⟨qr, 3, none⟩ (.int .u64 (P.wrd X 3))).setCell ⟨qr, 4, none⟩ (.int .u64 (P.wrd I 0))).setCell ⟨qr, 5, none⟩ (.int .u64 (P.wrd I 1))).setCell ⟨qr, 6, none⟩ (.int .u64 (P.wrd I 2))).setCell ⟨qr, 7, none⟩ (.int .u64 (P.wrd I 3))) = w13 at HS HK BQr BQp ⊢
              clear rc0 rf0 rc1 rf1 rc2 rf2 rc3 rf3 rc4 rf4 rc5 rf5 rc6 rf6 rc7 rf7
              clear pc0 pc1 pc2 pc3 pc4 pc5 pc6 pc7
              have zc0 : w13.cell? ⟨qr, 0, none⟩ = some (.int .u64 (P.wrd X 0)) := BQr.out.cell 0 _ rfl
              have zc1 : w13.cell? ⟨qr, 1, none⟩ = some (.int .u64 (P.wrd X 1)) := BQr.out.cell 1 _ rfl
              have zc2 : w13.cell? ⟨qr, 2, none⟩ = some (.int .u64 (P.wrd X 2)) := BQr.out.cell 2 _ rfl
              have zc3 : w13.cell? ⟨qr, 3, none⟩ = some (.int .u64 (P.wrd X 3)) := BQr.out.cell 3 _ rfl
              have zc4 : w13.cell? ⟨qr, 4, none⟩ = some (.int .u64 (P.wrd I 0)) := BQr.out.cell 4 _ rfl
              have zc5 : w13.cell? ⟨qr, 5, none⟩ = some (.int .u64 (P.wrd I 1)) := BQr.out.cell 5 _ rfl
              have zc6 : w13.cell? ⟨qr, 6, none⟩ = some (.int .u64 (P.wrd I 2)) := BQr.out.cell 6 _ rfl
              have zc7 : w13.cell? ⟨qr, 7, none⟩ = some (.int .u64 (P.wrd I 3)) := BQr.out.cell 7 _ rfl
              refine bodyPost_ret (v := .agg #[.int .u64 (P.wrd X 0), .int .u64 (P.wrd X 1), .int .u64 (P.wrd X 2), .int .u64 (P.wrd X 3), .int .u64 (P.wrd I 0), .int .u64 (P.wrd I 1), .int .u64 (P.wrd I 2), .int .u64 (P.wrd I 3)]) (by simp [results, Tryd.results21, go_sem, zc0, zc1, zc2, zc3, zc4, zc5, zc6, zc7]) rfl ⟨X, I, (P.sty g 1 I To c1), d1, rfl, (by rw [HL.out]; exact (P.ap_all HR.out (p := 1) (by decide) (fun j hj => by rw [HN.out]; exact HI.out j hj) HG.out HUP.out HTO.out hp (HCL.out.trans HN.out.symm) HM.out (by have h := HAP.out.swap0; rw [HL.out] at h; exact h)).swap1), HS.out, HK.out, (by have h1 := HMX.out; have h2 := HDD.out; have h3 := HNX.out.2.2; split at h1 <;> omega), (by have h1 := HMX.out; have h2 := HDD.out; have h3 := HNX.out.2.2; split at h1 <;> omega), (by have h1 := HMX.out; have h2 := HDD.out; have h3 := HNX.out.2.2; split at h1 <;> omega)⟩
            · have hf : ∀ w, (binOp .eql 37 (.agg #[.int .u64 (P.wrd X 0), .int .u64 (P.wrd X 1), .int .u64 (P.wrd X 2), .int .u64 (P.wrd X 3)]) (.agg #[.int .u64 0, .int .u64 0, .int .u64 0, .int .u64 0])).run Tryd.prog w = .ok (.bool false) w := fun w => by
                have h := set_eq X 0#256 w
                have e : ∀ k, P.wrd 0#256 k = 0 := P.wrd_zero
                rw [decide_eq_false hL, e, e, e, e] at h
                exact h
              have HL := Lib.hid hL
              clear hL
              have hbb := BQp.out
              have pc0 : w10.cell? ⟨q10, 0, none⟩ = some (.int .u64 (P.wrd X 0)) := hbb.cell 0 _ rfl
              have pc1 : w10.cell? ⟨q10, 1, none⟩ = some (.int .u64 (P.wrd X 1)) := hbb.cell 1 _ rfl
              have pc2 : w10.cell? ⟨q10, 2, none⟩ = some (.int .u64 (P.wrd X 2)) := hbb.cell 2 _ rfl
              have pc3 : w10.cell? ⟨q10, 3, none⟩ = some (.int .u64 (P.wrd X 3)) := hbb.cell 3 _ rfl
              have pc4 : w10.cell? ⟨q10, 4, none⟩ = some (.int .u64 (P.wrd Y 0)) := hbb.cell 4 _ rfl
              have pc5 : w10.cell? ⟨q10, 5, none⟩ = some (.int .u64 (P.wrd Y 1)) := hbb.cell 5 _ rfl
              have pc6 : w10.cell? ⟨q10, 6, none⟩ = some (.int .u64 (P.wrd Y 2)) := hbb.cell 6 _ rfl
              have pc7 : w10.cell? ⟨q10, 7, none⟩ = some (.int .u64 (P.wrd Y 3)) := hbb.cell 7 _ rfl
              clear hbb
              go_upto_region 11 with (fail)
              clear pc0 pc1 pc2 pc3 pc4 pc5 pc6 pc7
              have HQ10 : Hid (qs < w10.heap.size ∧ pc < w10.heap.size) := Lib.hid ⟨HS.out.box.lt, HS.out.plo.2⟩
              refine Rt.wp_region_tail 1 (fun idx => match idx with | 0 => (fun v _ _ => v = (.pointer (some ⟨qs, 0, none⟩))) | 1 => (fun v _ _ => v = .agg #[.int .u64 (P.wrd I 0), .int .u64 (P.wrd I 1), .int .u64 (P.wrd I 2), .int .u64 (P.wrd I 3)]) | 2 => (fun v _ _ => v = (.int .i64 1)) | 3 => (fun v _ _ => v = (.int .i64 0)) | 4 => (fun v _ _ => v = (.int .i64 1)) | 5 => (fun v _ _ => v = (.int .i64 0)) | 6 => (fun v _ _ => v = (.pointer (some ⟨q10, 0, none⟩))) | 7 => (fun v _ _ => v = .agg #[.int .u64 (P.wrd X 0), .int .u64 (P.wrd X 1), .int .u64 (P.wrd X 2), .int .u64 (P.wrd X 3)]) | 8 => (fun v _ w' => (∃ m2, v = .agg #[.int .u64 (P.wrd (P.attOf g I 0 X) 0), .int .u64 (P.wrd (P.attOf g I 0 X) 1), .int .u64 (P.wrd (P.attOf g I 0 X) 2), .int .u64 (P.wrd (P.attOf g I 0 X) 3)] ∧ P.Played g (I &&& P.full (g.owner.length : Int)) 0 X m2 ∧ Sl w0 w' qs pc n kq (.slice (some ⟨ba, oa, none⟩) n ka) (.slice (some ⟨bb, ob, none⟩) n kb) (.slice (some ⟨bc_, oc, none⟩) n kc) (P.frc c1 m2) d1)) | 9 => (fun v _ w' => ∃ q, v = .pointer (some ⟨q, 0, none⟩) ∧ w10.heap.size ≤ q ∧ Box w' q 37 #[.int .u64 0, .int .u64 0, .int .u64 0, .int .u64 0]) | _ => fun _ _ _ => True) (fun _ _ _ _ => True) (KN [qs, pc]) 8 (by kernel_rfl) (by rfl) (by kernel_rfl) (by rfl) ?_ ?_ ?_ ?_
              · refine ⟨?_, ?_, ?_, ?_, ?_, ?_, ?_, ?_, ?_, ?_, trivial⟩
                · intro A w' K vals h hn hT hgk hK0
                  have r0 : A.tmps[2]?.getD undef = (.pointer (some ⟨qv, 0, none⟩)) := Rg.slot h.1
                  have bs := kn_box hgk BV.out (by simp [NV.out.1, NV.out.2])
                  have cc0 : w'.cell? ⟨qv, 0, none⟩ = some (.pointer (some ⟨qs, 0, none⟩)) := bs.cell 0 _ rfl
                  clear h hn hT hgk bs
                  simp [Oper.wp, execOp, go_sem, r0, cc0]
                  exact hK0 _ _ (Rk.Keeps.refl _ _) rfl trivial
                · intro A w' K vals h hn hT hgk hK0
                  have r0 : A.tmps[4]?.getD undef = (.pointer (some ⟨qi, 0, none⟩)) := Rg.slot h.1
                  have bs := kn_box hgk BQi.out (by simp [NQi.out.1, NQi.out.2])
                  have cc0 : w'.cell? ⟨qi, 0, none⟩ = some (.int .u64 (P.wrd I 0)) := bs.cell 0 _ rfl
                  have cc1 : w'.cell? ⟨qi, 1, none⟩ = some (.int .u64 (P.wrd I 1)) := bs.cell 1 _ rfl
                  have cc2 : w'.cell? ⟨qi, 2, none⟩ = some (.int .u64 (P.wrd I 2)) := bs.cell 2 _ rfl
                  have cc3 : w'.cell? ⟨qi, 3, none⟩ = some (.int .u64 (P.wrd I 3)) := bs.cell 3 _ rfl
                  clear h hn hT hgk bs
                  simp [Oper.wp, execOp, go_sem, r0, cc0, cc1, cc2, cc3]
                  exact hK0 _ _ (Rk.Keeps.refl _ _) rfl trivial
                · intro A w' K vals h hn hT hgk hK0
                  have r0 : A.tmps[8]?.getD undef = .int .i64 1 := Rg.slot h.1
                  clear h hn hT hgk
                  simp [Oper.wp, execOp, go_sem, r0]
                  exact hK0 _ _ (Rk.Keeps.refl _ _) rfl trivial
                · intro A w' K vals h hn hT hgk hK0
                  have r0 : A.tmps[60]?.getD undef = vals 2 := Rg.slot h.2.1
                  have s0 : vals 2 = (.int .i64 1) := hn.1
                  clear h hn hT hgk
                  simp [Oper.wp, execOp, go_sem, r0, s0]
                  exact hK0 _ _ (Rk.Keeps.refl _ _) rfl trivial
                · intro A w' K vals h hn hT hgk hK0
                  have r0 : A.tmps[8]?.getD undef = .int .i64 1 := Rg.slot h.1
                  clear h hn hT hgk
                  simp [Oper.wp, execOp, go_sem, r0]
                  exact hK0 _ _ (Rk.Keeps.refl _ _) rfl trivial
                · intro A w' K vals h hn hT hgk hK0
                  have r0 : A.tmps[62]?.getD undef = vals 4 := Rg.slot h.2.1
                  have s0 : vals 4 = (.int .i64 1) := hn.1
                  clear h hn hT hgk
                  simp [Oper.wp, execOp, go_sem, r0, s0]
                  exact hK0 _ _ (Rk.Keeps.refl _ _) rfl trivial
                · intro A w' K vals h hn hT hgk hK0
                  have r0 : A.tmps[10]?.getD undef = .pointer (some ⟨q10, 0, none⟩) := Rg.slot h.1
                  have r1 : A.tmps[63]?.getD undef = vals 5 := Rg.slot h.2.1
                  have s1 : vals 5 = (.int .i64 0) := hn.1
                  clear h hn hT hgk
                  simp [Oper.wp, execOp, go_sem, r0, r1, s1]
                  exact hK0 _ _ (Rk.Keeps.refl _ _) rfl trivial
                · intro A w' K vals h hn hT hgk hK0
                  have r0 : A.tmps[64]?.getD undef = vals 6 := Rg.slot h.1
                  have r1 : vals 6 = (.pointer (some ⟨q10, 0, none⟩)) := hn.1
                  have bs := kn_box hgk BQp.out (by simp [NQp.out.1, NQp.out.2])
                  have cc0 : w'.cell? ⟨q10, 0, none⟩ = some (.int .u64 (P.wrd X 0)) := bs.cell 0 _ rfl
                  have cc1 : w'.cell? ⟨q10, 1, none⟩ = some (.int .u64 (P.wrd X 1)) := bs.cell 1 _ rfl
                  have cc2 : w'.cell? ⟨q10, 2, none⟩ = some (.int .u64 (P.wrd X 2)) := bs.cell 2 _ rfl
                  have cc3 : w'.cell? ⟨q10, 3, none⟩ = some (.int .u64 (P.wrd X 3)) := bs.cell 3 _ rfl
                  have cc4 : w'.cell? ⟨q10, 4, none⟩ = some (.int .u64 (P.wrd Y 0)) := bs.cell 4 _ rfl
                  have cc5 : w'.cell? ⟨q10, 5, none⟩ = some (.int .u64 (P.wrd Y 1)) := bs.cell 5 _ rfl
                  have cc6 : w'.cell? ⟨q10, 6, none⟩ = some (.int .u64 (P.wrd Y 2)) := bs.cell 6 _ rfl
                  have cc7 : w'.cell? ⟨q10, 7, none⟩ = some (.int .u64 (P.wrd Y 3)) := bs.cell 7 _ rfl
                  clear h hn hT hgk bs
                  simp [Oper.wp, execOp, go_sem, r0, r1, cc0, cc1, cc2, cc3]
                  exact hK0 _ _ (Rk.Keeps.refl _ _) rfl trivial
                · intro A w' K vals h hn hT hgk hK0
                  have r0 : A.tmps[58]?.getD undef = vals 0 := Rg.slot h.2.1
                  have r1 : A.tmps[59]?.getD undef = vals 1 := Rg.slot h.2.2.1
                  have r2 : A.tmps[61]?.getD undef = vals 3 := Rg.slot h.2.2.2.1
                  have r3 : A.tmps[65]?.getD undef = vals 7 := Rg.slot h.2.2.2.2.1
                  have s0 : vals 0 = (.pointer (some ⟨qs, 0, none⟩)) := hn.1
                  have s1 : vals 1 = .agg #[.int .u64 (P.wrd I 0), .int .u64 (P.wrd I 1), .int .u64 (P.wrd I 2), .int .u64 (P.wrd I 3)] := hn.2.1
                  have s2 : vals 3 = .int .i64 0 := hn.2.2.1
                  have s3 : vals 7 = .agg #[.int .u64 (P.wrd X 0), .int .u64 (P.wrd X 1), .int .u64 (P.wrd X 2), .int .u64 (P.wrd X 3)] := hn.2.2.2.1
                  have hs := HS.out.on (below_of_grown (Rk.grown_of hgk))
                  clear h hn hT hgk
                  simp [Oper.wp, go_sem, r0, r1, r2, r3, s0, s1, s2, s3]
                  refine (force_any g HR.out n HN.out w0 ba oa ka bb ob kb bc_ oc kc HV.out T.out qs pc kq c1 d1 w' hs 0 (by decide) I X).mono ?_
                  rintro e w'' ⟨rfl, m2, hm2, hs, hk⟩
                  exact hK0 _ _ hk.kn ⟨m2, rfl, hm2, hs⟩ trivial
                · intro A w' K vals h hn hT hgk hK0
                  have hsz := hgk.size
                  clear h hn hT
                  simp [Oper.wp, execOp, go_sem]
                  exact hK0 _ _ (Rk.keep_of (World.grownBy_alloc _ _ _)) ⟨_, rfl, hsz, Box.new _ _ _⟩ trivial
              · refine ⟨?_, ?_, ?_, ?_, ?_, ?_, ?_, ?_, ?_, ?_, trivial⟩
                · exact fun _ _ _ _ _ _ h => h
                · exact fun _ _ _ _ _ _ h => h
                · exact fun _ _ _ _ _ _ h => h
                · exact fun _ _ _ _ _ _ h => h
                · exact fun _ _ _ _ _ _ h => h
                · exact fun _ _ _ _ _ _ h => h
                · exact fun _ _ _ _ _ _ h => h
                · exact fun _ _ _ _ _ _ h => h
                · exact fun _ _ _ _ _ h ⟨m2, h1, h2, h3⟩ => ⟨m2, h1, h2, h3.on (below_of_grown (Rk.grown_of h))⟩
                · exact fun _ _ _ _ _ h ⟨q, h1, h2, h3⟩ => ⟨q, h1, h2, kn_box h h3 (by have := HQ10.out; simp; omega)⟩
              · exact fun _ _ _ _ _ _ h => h
              · intro vals w11 G hgk hS hG
                obtain ⟨m2, s8, hm2, hs⟩ : (∃ m2, vals 8 = .agg #[.int .u64 (P.wrd (P.attOf g I 0 X) 0), .int .u64 (P.wrd (P.attOf g I 0 X) 1), .int .u64 (P.wrd (P.attOf g I 0 X) 2), .int .u64 (P.wrd (P.attOf g I 0 X) 3)] ∧ P.Played g (I &&& P.full (g.owner.length : Int)) 0 X m2 ∧ Sl w0 w11 qs pc n kq (.slice (some ⟨ba, oa, none⟩) n ka) (.slice (some ⟨bb, ob, none⟩) n kb) (.slice (some ⟨bc_, oc, none⟩) n kc) (P.frc c1 m2) d1) := hS.2.2.2.2.2.2.2.2.1
                obtain ⟨q11, s9, hq11, hb11⟩ : ∃ q, vals 9 = .pointer (some ⟨q, 0, none⟩) ∧ w10.heap.size ≤ q ∧ Box w11 q 37 #[.int .u64 0, .int .u64 0, .int .u64 0, .int .u64 0] := hS.2.2.2.2.2.2.2.2.2.1
                clear hS
                have hk := kn_slk hgk
                have HM2 := Lib.hid hm2
                have Lq11 : Hid (q10 < q11) := Lib.hid (Nat.lt_of_lt_of_le BQp.out.lt hq11)
                have NQB : Hid (q11 ≠ qs ∧ q11 ≠ pc) := Lib.hid (by have := HQ10.out; omega)
                have BQB := Lib.hid hb11
                replace BV := Lib.hid (hk.box BV.out NV.out.1 NV.out.2)
                replace BF := Lib.hid (hk.box BF.out NF.out.1 NF.out.2)
                replace BQi := Lib.hid (hk.box BQi.out NQi.out.1 NQi.out.2)
                replace BQr := Lib.hid (hk.box BQr.out NQr.out.1 NQr.out.2)
                replace BQT := Lib.hid (hk.box BQT.out NQT.out.1 NQT.out.2)
                replace BQA := Lib.hid (hk.box BQA.out NQA.out.1 NQA.out.2)
                replace BQp := Lib.hid (hk.box BQp.out NQp.out.1 NQp.out.2)
                replace HK := Lib.hid (HK.out.trans hk)
                replace HS := Lib.hid hs
                clear hgk hk hs hm2 hq11 hb11
                refine hG ?_
                clear hG
                simp only [List.take, List.drop, List.length, Nat.reduceSub, Nat.reduceAdd, Rg.putAll, Act.put, List.setIfInBounds_toArray, List.set_cons_succ, List.set_cons_zero, s8, s9]
                clear s8 s9
                have hbo := BQB.out
                have rc0 : w11.cell? ⟨q11, 0, none⟩ = some (.int .u64 0) := hbo.cell 0 _ rfl
                have rc1 : w11.cell? ⟨q11, 1, none⟩ = some (.int .u64 0) := hbo.cell 1 _ rfl
                have rc2 : w11.cell? ⟨q11, 2, none⟩ = some (.int .u64 0) := hbo.cell 2 _ rfl
                have rc3 : w11.cell? ⟨q11, 3, none⟩ = some (.int .u64 0) := hbo.cell 3 _ rfl
                have rf0 : w11.frozen? ⟨q11, 0, none⟩ = false := hbo.frozen 0
                have rf1 : w11.frozen? ⟨q11, 1, none⟩ = false := hbo.frozen 1
                have rf2 : w11.frozen? ⟨q11, 2, none⟩ = false := hbo.frozen 2
                have rf3 : w11.frozen? ⟨q11, 3, none⟩ = false := hbo.frozen 3
                clear hbo
                have BZ : Box ((((w11.setCell ⟨q11, 0, none⟩ (.int .u64 (P.wrd (P.attOf g I 0 X) 0))).setCell ⟨q11, 1, none⟩ (.int .u64 (P.wrd (P.attOf g I 0 X) 1))).setCell ⟨q11, 2, none⟩ (.int .u64 (P.wrd (P.attOf g I 0 X) 2))).setCell ⟨q11, 3, none⟩ (.int .u64 (P.wrd (P.attOf g I 0 X) 3))) q11 37 #[.int .u64 (P.wrd (P.attOf g I 0 X) 0), .int .u64 (P.wrd (P.attOf g I 0 X) 1), .int .u64 (P.wrd (P.attOf g I 0 X) 2), .int .u64 (P.wrd (P.attOf g I 0 X) 3)] := ((((BQB.out.set 0 (.int .u64 (P.wrd (P.attOf g I 0 X) 0))).set 1 (.int .u64 (P.wrd (P.attOf g I 0 X) 1))).set 2 (.int .u64 (P.wrd (P.attOf g I 0 X) 2))).set 3 (.int .u64 (P.wrd (P.attOf g I 0 X) 3)))
                have hko : Rk.Keeps (KN [q11]) w11 ((((w11.setCell ⟨q11, 0, none⟩ (.int .u64 (P.wrd (P.attOf g I 0 X) 0))).setCell ⟨q11, 1, none⟩ (.int .u64 (P.wrd (P.attOf g I 0 X) 1))).setCell ⟨q11, 2, none⟩ (.int .u64 (P.wrd (P.attOf g I 0 X) 2))).setCell ⟨q11, 3, none⟩ (.int .u64 (P.wrd (P.attOf g I 0 X) 3))) := (((kn_set w11 q11 0 _).trans (kn_set _ q11 1 _)).trans (kn_set _ q11 2 _)).trans (kn_set _ q11 3 _)
                replace HS := Lib.hid (HS.out.kn hko NQB.out.1.symm NQB.out.2.symm (by have h1 := LEi.out; have h2 := HQ2.out; have h3 := LTir.out; have h4 := Lq7.out; have h5 := Lq9.out; have h6 := Lq10.out; have h7 := Lq11.out; omega))
                replace HK := Lib.hid (HK.out.one hko (by have h1 := LEi.out; have h2 := HQ2.out; have h3 := LTir.out; have h4 := Lq7.out; have h5 := Lq9.out; have h6 := Lq10.out; have h7 := Lq11.out; omega))
                replace BV := Lib.hid (kn_box hko BV.out (by have hne : qv ≠ q11 := (by have h1 := LEi.out; have h2 := HQ2.out; have h3 := LTir.out; have h4 := Lq7.out; have h5 := Lq9.out; have h6 := Lq10.out; have h7 := Lq11.out; omega); simp [hne]))
                replace BF := Lib.hid (kn_box hko BF.out (by have hne : qf ≠ q11 := (by have h1 := LEi.out; have h2 := HQ2.out; have h3 := LTir.out; have h4 := Lq7.out; have h5 := Lq9.out; have h6 := Lq10.out; have h7 := Lq11.out; omega); simp [hne]))
                replace BQi := Lib.hid (kn_box hko BQi.out (by have hne : qi ≠ q11 := (by have h1 := LEi.out; have h2 := HQ2.out; have h3 := LTir.out; have h4 := Lq7.out; have h5 := Lq9.out; have h6 := Lq10.out; have h7 := Lq11.out; omega); simp [hne]))
                replace BQr := Lib.hid (kn_box hko BQr.out (by have hne : qr ≠ q11 := (by have h1 := LEi.out; have h2 := HQ2.out; have h3 := LTir.out; have h4 := Lq7.out; have h5 := Lq9.out; have h6 := Lq10.out; have h7 := Lq11.out; omega); simp [hne]))
                replace BQT := Lib.hid (kn_box hko BQT.out (by have hne : q7 ≠ q11 := (by have h1 := LEi.out; have h2 := HQ2.out; have h3 := LTir.out; have h4 := Lq7.out; have h5 := Lq9.out; have h6 := Lq10.out; have h7 := Lq11.out; omega); simp [hne]))
                replace BQA := Lib.hid (kn_box hko BQA.out (by have hne : q9 ≠ q11 := (by have h1 := LEi.out; have h2 := HQ2.out; have h3 := LTir.out; have h4 := Lq7.out; have h5 := Lq9.out; have h6 := Lq10.out; have h7 := Lq11.out; omega); simp [hne]))
                replace BQp := Lib.hid (kn_box hko BQp.out (by have hne : q10 ≠ q11 := (by have h1 := LEi.out; have h2 := HQ2.out; have h3 := LTir.out; have h4 := Lq7.out; have h5 := Lq9.out; have h6 := Lq10.out; have h7 := Lq11.out; omega); simp [hne]))
                replace BQB := Lib.hid BZ
                clear hko BZ
                go_upto_region 12 with (fail)
                generalize ((((w11.setCell ⟨q11, 0, none⟩ (.int .u64 (P.wrd (P.attOf g I 0 X) 0))).setCell ⟨q11, 1, none⟩ (.int .u64 (P.wrd (P.attOf g I 0 X) 1))).setCell ⟨q11, 2, none⟩ (.int .u64 (P.wrd (P.attOf g I 0 X) 2))).setCell ⟨q11, 3, none⟩ (.int .u64 (P.wrd (P.attOf g I 0 X) 3))) = w12 at HS HK BQB BV BF BQi BQr BQT BQA BQp ⊢
                clear rc0 rf0 rc1 rf1 rc2 rf2 rc3 rf3
                have HNX2 := Lib.hid (show (∀ j, P.Bit (I &&& ~~~(P.attOf g I 0 X)) j → j < n) ∧ P.Goes g (P.Bit (I &&& ~~~(P.attOf g I 0 X))) ∧ P.cntS n (I &&& ~~~(P.attOf g I 0 X)) + 1 ≤ P.cntS n I by
                  obtain ⟨i, hi⟩ := P.bit_some HL.out
                  have h := P.ap_next HR.out (p := 0) (by decide) (fun j hj => by rw [HN.out]; exact HI.out j hj) HG.out HM2.out ((P.bit_minus i).1 (HAP.out.mine.sub i hi)).1 hi
                  rw [HN.out] at h
                  exact h)
                refine Rt.wp_region_tail 1 (fun idx => match idx with | 0 => (fun v _ _ => v = (.func (.func 21) #[] #[.pointer (some ⟨qv, 0, none⟩), .pointer (some ⟨qf, 0, none⟩)])) | 1 => (fun v _ _ => v = .agg #[.int .u64 (P.wrd I 0), .int .u64 (P.wrd I 1), .int .u64 (P.wrd I 2), .int .u64 (P.wrd I 3)]) | 2 => (fun v _ _ => v = .agg #[.int .u64 (P.wrd (P.attOf g I 0 X) 0), .int .u64 (P.wrd (P.attOf g I 0 X) 1), .int .u64 (P.wrd (P.attOf g I 0 X) 2), .int .u64 (P.wrd (P.attOf g I 0 X) 3)]) | 3 => (fun v _ _ => v = .agg #[.int .u64 (P.wrd (I &&& ~~~(P.attOf g I 0 X)) 0), .int .u64 (P.wrd (I &&& ~~~(P.attOf g I 0 X)) 1), .int .u64 (P.wrd (I &&& ~~~(P.attOf g I 0 X)) 2), .int .u64 (P.wrd (I &&& ~~~(P.attOf g I 0 X)) 3)]) | 4 => (fun v _ _ => v = (.int .i64 dep)) | 5 => (fun v _ _ => v = (.int .i64 (dep + 1))) | 6 => (fun v _ w' => (∃ X2 Y2 c2 d3, v = .agg #[.int .u64 (P.wrd X2 0), .int .u64 (P.wrd X2 1), .int .u64 (P.wrd X2 2), .int .u64 (P.wrd X2 3), .int .u64 (P.wrd Y2 0), .int .u64 (P.wrd Y2 1), .int .u64 (P.wrd Y2 2), .int .u64 (P.wrd Y2 3)] ∧ P.Ap g 0 (I &&& ~~~(P.attOf g I 0 X)) X2 Y2 (P.frc c1 m2) c2 ∧ Sl w0 w' qs pc n kq (.slice (some ⟨ba, oa, none⟩) n ka) (.slice (some ⟨bb, ob, none⟩) n kb) (.slice (some ⟨bc_, oc, none⟩) n kc) c2 d3 ∧ d1 ≤ d3 ∧ dep + 1 ≤ d3 ∧ (d3 ≤ d1 ∨ d3 ≤ dep + 1 + (P.cntS n (I &&& ~~~(P.attOf g I 0 X)) : Nat)))) | _ => fun _ _ _ => True) (fun _ _ _ _ => True) (KN [qs, pc]) 6 (by kernel_rfl) (by rfl) (by kernel_rfl) (by rfl) ?_ ?_ ?_ ?_
                · refine ⟨?_, ?_, ?_, ?_, ?_, ?_, ?_, trivial⟩
                  · intro A w' K vals h hn hT hgk hK0
                    have r0 : A.tmps[3]?.getD undef = (.pointer (some ⟨qf, 0, none⟩)) := Rg.slot h.1
                    have bs := kn_box hgk BF.out (by simp [NF.out.1, NF.out.2])
                    have cc0 : w'.cell? ⟨qf, 0, none⟩ = some (.func (.func 21) #[] #[.pointer (some ⟨qv, 0, none⟩), .pointer (some ⟨qf, 0, none⟩)]) := bs.cell 0 _ rfl
                    clear h hn hT hgk bs
                    simp [Oper.wp, execOp, go_sem, r0, cc0]
                    exact hK0 _ _ (Rk.Keeps.refl _ _) rfl trivial
                  · intro A w' K vals h hn hT hgk hK0
                    have r0 : A.tmps[4]?.getD undef = (.pointer (some ⟨qi, 0, none⟩)) := Rg.slot h.1
                    have bs := kn_box hgk BQi.out (by simp [NQi.out.1, NQi.out.2])
                    have cc0 : w'.cell? ⟨qi, 0, none⟩ = some (.int .u64 (P.wrd I 0)) := bs.cell 0 _ rfl
                    have cc1 : w'.cell? ⟨qi, 1, none⟩ = some (.int .u64 (P.wrd I 1)) := bs.cell 1 _ rfl
                    have cc2 : w'.cell? ⟨qi, 2, none⟩ = some (.int .u64 (P.wrd I 2)) := bs.cell 2 _ rfl
                    have cc3 : w'.cell? ⟨qi, 3, none⟩ = some (.int .u64 (P.wrd I 3)) := bs.cell 3 _ rfl
                    clear h hn hT hgk bs
                    simp [Oper.wp, execOp, go_sem, r0, cc0, cc1, cc2, cc3]
                    exact hK0 _ _ (Rk.Keeps.refl _ _) rfl trivial
                  · intro A w' K vals h hn hT hgk hK0
                    have r0 : A.tmps[11]?.getD undef = (.pointer (some ⟨q11, 0, none⟩)) := Rg.slot h.1
                    have bs := kn_box hgk BQB.out (by simp [NQB.out.1, NQB.out.2])
                    have cc0 : w'.cell? ⟨q11, 0, none⟩ = some (.int .u64 (P.wrd (P.attOf g I 0 X) 0)) := bs.cell 0 _ rfl
                    have cc1 : w'.cell? ⟨q11, 1, none⟩ = some (.int .u64 (P.wrd (P.attOf g I 0 X) 1)) := bs.cell 1 _ rfl
                    have cc2 : w'.cell? ⟨q11, 2, none⟩ = some (.int .u64 (P.wrd (P.attOf g I 0 X) 2)) := bs.cell 2 _ rfl
                    have cc3 : w'.cell? ⟨q11, 3, none⟩ = some (.int .u64 (P.wrd (P.attOf g I 0 X) 3)) := bs.cell 3 _ rfl
                    clear h hn hT hgk bs
                    simp [Oper.wp, execOp, go_sem, r0, cc0, cc1, cc2, cc3]
                    exact hK0 _ _ (Rk.Keeps.refl _ _) rfl trivial
                  · intro A w' K vals h hn hT hgk hK0
                    have r0 : A.tmps[68]?.getD undef = vals 1 := Rg.slot h.2.1
                    have r1 : A.tmps[69]?.getD undef = vals 2 := Rg.slot h.2.2.1
                    have s0 : vals 1 = .agg #[.int .u64 (P.wrd I 0), .int .u64 (P.wrd I 1), .int .u64 (P.wrd I 2), .int .u64 (P.wrd I 3)] := hn.1
                    have s1 : vals 2 = .agg #[.int .u64 (P.wrd (P.attOf g I 0 X) 0), .int .u64 (P.wrd (P.attOf g I 0 X) 1), .int .u64 (P.wrd (P.attOf g I 0 X) 2), .int .u64 (P.wrd (P.attOf g I 0 X) 3)] := hn.2.1
                    clear h hn hT hgk
                    simp [Oper.wp, go_sem, r0, r1, s0, s1]
                    refine (minus_any _ _ w').mono ?_
                    rintro e w'' ⟨rfl, hb⟩
                    exact hK0 _ _ (Rk.keep_of (grown_of_below hb _)) rfl trivial
                  · intro A w' K vals h hn hT hgk hK0
                    have r0 : A.tmps[1]?.getD undef = .int .i64 dep := Rg.slot h.1
                    clear h hn hT hgk
                    simp [Oper.wp, execOp, go_sem, r0]
                    exact hK0 _ _ (Rk.Keeps.refl _ _) rfl trivial
                  · intro A w' K vals h hn hT hgk hK0
                    have r0 : A.tmps[71]?.getD undef = vals 4 := Rg.slot h.1
                    have s0 : vals 4 = (.int .i64 dep) := hn.1
                    clear h hn hT hgk
                    have hw : IntKind.i64.wrap (dep + 1) = dep + 1 := by rw [IntKind.wrap_i64]; omega
                    simp [Oper.wp, execOp, go_sem, r0, s0, hw]
                    exact hK0 _ _ (Rk.Keeps.refl _ _) rfl trivial
                  · intro A w' K vals h hn hT hgk hK0
                    have r0 : A.tmps[67]?.getD undef = vals 0 := Rg.slot h.1
                    have r1 : A.tmps[70]?.getD undef = vals 3 := Rg.slot h.2.1
                    have r2 : A.tmps[72]?.getD undef = vals 5 := Rg.slot h.2.2.1
                    have s0 : vals 0 = .func (.func 21) #[] #[.pointer (some ⟨qv, 0, none⟩), .pointer (some ⟨qf, 0, none⟩)] := hn.1
                    have s1 : vals 3 = .agg #[.int .u64 (P.wrd (I &&& ~~~(P.attOf g I 0 X)) 0), .int .u64 (P.wrd (I &&& ~~~(P.attOf g I 0 X)) 1), .int .u64 (P.wrd (I &&& ~~~(P.attOf g I 0 X)) 2), .int .u64 (P.wrd (I &&& ~~~(P.attOf g I 0 X)) 3)] := hn.2.1
                    have s2 : vals 5 = .int .i64 (dep + 1) := hn.2.2.1
                    have hs := HS.out.on (below_of_grown (Rk.grown_of hgk))
                    have hbv := BV.out.keep (Rk.grown_of hgk)
                    have hbf := BF.out.keep (Rk.grown_of hgk)
                    clear h hn hT hgk
                    simp [Oper.wp, go_sem, r0, r1, r2, s0, s1, s2]
                    refine (IH.out (I &&& ~~~(P.attOf g I 0 X)) (P.frc c1 m2) d1 (dep + 1) w' (by have h1 := HU.out; have h2 := HNX2.out.2.2; omega) HNX2.out.1 HNX2.out.2.1 (by omega) (by have h1 := HD1.out; have h2 := HNX2.out.2.2; omega) hs hbv hbf NV.out NF.out).mono ?_
                    rintro e w'' ⟨X, Y, c1, d1, rfl, hap, hs, hk, h1, h2, h3⟩
                    exact hK0 _ _ hk.kn ⟨X, Y, c1, d1, rfl, hap, hs, h1, h2, h3⟩ trivial
                · refine ⟨?_, ?_, ?_, ?_, ?_, ?_, ?_, trivial⟩
                  · exact fun _ _ _ _ _ _ h => h
                  · exact fun _ _ _ _ _ _ h => h
                  · exact fun _ _ _ _ _ _ h => h
                  · exact fun _ _ _ _ _ _ h => h
                  · exact fun _ _ _ _ _ _ h => h
                  · exact fun _ _ _ _ _ _ h => h
                  · exact fun _ _ _ _ _ h ⟨X2, Y2, c2, d3, h1, h2, h3, h4⟩ => ⟨X2, Y2, c2, d3, h1, h2, h3.on (below_of_grown (Rk.grown_of h)), h4⟩
                · exact fun _ _ _ _ _ _ h => h
                · intro vals w13 G hgk hS hG
                  obtain ⟨X2, Y2, c2, d3, s6, hap, hs, hd3, hd4, hd5⟩ : (∃ X2 Y2 c2 d3, vals 6 = .agg #[.int .u64 (P.wrd X2 0), .int .u64 (P.wrd X2 1), .int .u64 (P.wrd X2 2), .int .u64 (P.wrd X2 3), .int .u64 (P.wrd Y2 0), .int .u64 (P.wrd Y2 1), .int .u64 (P.wrd Y2 2), .int .u64 (P.wrd Y2 3)] ∧ P.Ap g 0 (I &&& ~~~(P.attOf g I 0 X)) X2 Y2 (P.frc c1 m2) c2 ∧ Sl w0 w13 qs pc n kq (.slice (some ⟨ba, oa, none⟩) n ka) (.slice (some ⟨bb, ob, none⟩) n kb) (.slice (some ⟨bc_, oc, none⟩) n kc) c2 d3 ∧ d1 ≤ d3 ∧ dep + 1 ≤ d3 ∧ (d3 ≤ d1 ∨ d3 ≤ dep + 1 + (P.cntS n (I &&& ~~~(P.attOf g I 0 X)) : Nat))) := hS.2.2.2.2.2.2.1
                  clear hS
                  have hk := kn_slk hgk
                  have HAP2 := Lib.hid hap
                  have HDD2 := Lib.hid (And.intro hd3 (And.intro hd4 hd5))
                  replace BV := Lib.hid (hk.box BV.out NV.out.1 NV.out.2)
                  replace BF := Lib.hid (hk.box BF.out NF.out.1 NF.out.2)
                  replace BQi := Lib.hid (hk.box BQi.out NQi.out.1 NQi.out.2)
                  replace BQr := Lib.hid (hk.box BQr.out NQr.out.1 NQr.out.2)
                  replace BQT := Lib.hid (hk.box BQT.out NQT.out.1 NQT.out.2)
                  replace BQA := Lib.hid (hk.box BQA.out NQA.out.1 NQA.out.2)
                  replace BQp := Lib.hid (hk.box BQp.out NQp.out.1 NQp.out.2)
                  replace BQB := Lib.hid (hk.box BQB.out NQB.out.1 NQB.out.2)
                  replace HK := Lib.hid (HK.out.trans hk)
                  replace HS := Lib.hid hs
                  clear hgk hk hap hs hd3 hd4 hd5
                  refine hG ?_
                  clear hG
                  simp only [List.take, List.drop, List.length, Nat.reduceSub, Nat.reduceAdd, Rg.putAll, Act.put, List.setIfInBounds_toArray, List.set_cons_succ, List.set_cons_zero, s6]
                  clear s6
                  have hbo := BQp.out
                  have rc0 : w13.cell? ⟨q10, 0, none⟩ = some (.int .u64 (P.wrd X 0)) := hbo.cell 0 _ rfl
                  have rc1 : w13.cell? ⟨q10, 1, none⟩ = some (.int .u64 (P.wrd X 1)) := hbo.cell 1 _ rfl
                  have rc2 : w13.cell? ⟨q10, 2, none⟩ = some (.int .u64 (P.wrd X 2)) := hbo.cell 2 _ rfl
                  have rc3 : w13.cell? ⟨q10, 3, none⟩ = some (.int .u64 (P.wrd X 3)) := hbo.cell 3 _ rfl
                  have rc4 : w13.cell? ⟨q10, 4, none⟩ = some (.int .u64 (P.wrd Y 0)) := hbo.cell 4 _ rfl
                  have rc5 : w13.cell? ⟨q10, 5, none⟩ = some (.int .u64 (P.wrd Y 1)) := hbo.cell 5 _ rfl
                  have rc6 : w13.cell? ⟨q10, 6, none⟩ = some (.int .u64 (P.wrd Y 2)) := hbo.cell 6 _ rfl
                  have rc7 : w13.cell? ⟨q10, 7, none⟩ = some (.int .u64 (P.wrd Y 3)) := hbo.cell 7 _ rfl
                  have rf0 : w13.frozen? ⟨q10, 0, none⟩ = false := hbo.frozen 0
                  have rf1 : w13.frozen? ⟨q10, 1, none⟩ = false := hbo.frozen 1
                  have rf2 : w13.frozen? ⟨q10, 2, none⟩ = false := hbo.frozen 2
                  have rf3 : w13.frozen? ⟨q10, 3, none⟩ = false := hbo.frozen 3
                  have rf4 : w13.frozen? ⟨q10, 4, none⟩ = false := hbo.frozen 4
                  have rf5 : w13.frozen? ⟨q10, 5, none⟩ = false := hbo.frozen 5
                  have rf6 : w13.frozen? ⟨q10, 6, none⟩ = false := hbo.frozen 6
                  have rf7 : w13.frozen? ⟨q10, 7, none⟩ = false := hbo.frozen 7
                  clear hbo
                  have BZ : Box ((((((((w13.setCell ⟨q10, 0, none⟩ (.int .u64 (P.wrd X2 0))).setCell ⟨q10, 1, none⟩ (.int .u64 (P.wrd X2 1))).setCell ⟨q10, 2, none⟩ (.int .u64 (P.wrd X2 2))).setCell ⟨q10, 3, none⟩ (.int .u64 (P.wrd X2 3))).setCell ⟨q10, 4, none⟩ (.int .u64 (P.wrd Y2 0))).setCell ⟨q10, 5, none⟩ (.int .u64 (P.wrd Y2 1))).setCell ⟨q10, 6, none⟩ (.int .u64 (P.wrd Y2 2))).setCell ⟨q10, 7, none⟩ (.int .u64 (P.wrd Y2 3))) q10 50 #[.int .u64 (P.wrd X2 0), .int .u64 (P.wrd X2 1), .int .u64 (P.wrd X2 2), .int .u64 (P.wrd X2 3), .int .u64 (P.wrd Y2 0), .int .u64 (P.wrd Y2 1), .int .u64 (P.wrd Y2 2), .int .u64 (P.wrd Y2 3)] := box8 BQp.out _ _ _ _ _ _ _ _
                  have hko : Rk.Keeps (KN [q10]) w13 ((((((((w13.setCell ⟨q10, 0, none⟩ (.int .u64 (P.wrd X2 0))).setCell ⟨q10, 1, none⟩ (.int .u64 (P.wrd X2 1))).setCell ⟨q10, 2, none⟩ (.int .u64 (P.wrd X2 2))).setCell ⟨q10, 3, none⟩ (.int .u64 (P.wrd X2 3))).setCell ⟨q10, 4, none⟩ (.int .u64 (P.wrd Y2 0))).setCell ⟨q10, 5, none⟩ (.int .u64 (P.wrd Y2 1))).setCell ⟨q10, 6, none⟩ (.int .u64 (P.wrd Y2 2))).setCell ⟨q10, 7, none⟩ (.int .u64 (P.wrd Y2 3))) := (((((((kn_set w13 q10 0 _).trans (kn_set _ q10 1 _)).trans (kn_set _ q10 2 _)).trans (kn_set _ q10 3 _)).trans (kn_set _ q10 4 _)).trans (kn_set _ q10 5 _)).trans (kn_set _ q10 6 _)).trans (kn_set _ q10 7 _)
                  replace HS := Lib.hid (HS.out.kn hko NQp.out.1.symm NQp.out.2.symm (by have h1 := LEi.out; have h2 := HQ2.out; have h3 := LTir.out; have h4 := Lq7.out; have h5 := Lq9.out; have h6 := Lq10.out; have h7 := Lq11.out; omega))
                  replace HK := Lib.hid (HK.out.one hko (by have h1 := LEi.out; have h2 := HQ2.out; have h3 := LTir.out; have h4 := Lq7.out; have h5 := Lq9.out; have h6 := Lq10.out; have h7 := Lq11.out; omega))
                  replace BQr := Lib.hid (kn_box hko BQr.out (by have hne : qr ≠ q10 := (by have h1 := LEi.out; have h2 := HQ2.out; have h3 := LTir.out; have h4 := Lq7.out; have h5 := Lq9.out; have h6 := Lq10.out; have h7 := Lq11.out; omega); simp [hne]))
                  replace BQB := Lib.hid (kn_box hko BQB.out (by have hne : q11 ≠ q10 := (by have h1 := LEi.out; have h2 := HQ2.out; have h3 := LTir.out; have h4 := Lq7.out; have h5 := Lq9.out; have h6 := Lq10.out; have h7 := Lq11.out; omega); simp [hne]))
                  replace BQp := Lib.hid BZ
                  clear hko BZ
                  go_upto_region 13 with (fail)
                  generalize ((((((((w13.setCell ⟨q10, 0, none⟩ (.int .u64 (P.wrd X2 0))).setCell ⟨q10, 1, none⟩ (.int .u64 (P.wrd X2 1))).setCell ⟨q10, 2, none⟩ (.int .u64 (P.wrd X2 2))).setCell ⟨q10, 3, none⟩ (.int .u64 (P.wrd X2 3))).setCell ⟨q10, 4, none⟩ (.int .u64 (P.wrd Y2 0))).setCell ⟨q10, 5, none⟩ (.int .u64 (P.wrd Y2 1))).setCell ⟨q10, 6, none⟩ (.int .u64 (P.wrd Y2 2))).setCell ⟨q10, 7, none⟩ (.int .u64 (P.wrd Y2 3))) = w14 at HS HK BQp BQr BQB ⊢
                  clear rc0 rf0 rc1 rf1 rc2 rf2 rc3 rf3 rc4 rf4 rc5 rf5 rc6 rf6 rc7 rf7
                  refine Rt.wp_region_tail 1 (fun idx => match idx with | 0 => (fun v _ _ => v = (.int .i64 1)) | 1 => (fun v _ _ => v = (.int .i64 0)) | 2 => (fun v _ _ => v = (.int .i64 1)) | 3 => (fun v _ _ => v = (.int .i64 0)) | 4 => (fun v _ _ => v = (.pointer (some ⟨q10, 0, none⟩))) | 5 => (fun v _ _ => v = .agg #[.int .u64 (P.wrd X2 0), .int .u64 (P.wrd X2 1), .int .u64 (P.wrd X2 2), .int .u64 (P.wrd X2 3)]) | 6 => (fun v _ _ => v = .agg #[.int .u64 (P.wrd (P.attOf g I 0 X) 0), .int .u64 (P.wrd (P.attOf g I 0 X) 1), .int .u64 (P.wrd (P.attOf g I 0 X) 2), .int .u64 (P.wrd (P.attOf g I 0 X) 3)]) | 7 => (fun v _ _ => v = .agg #[.int .u64 (P.wrd (X2 ||| (P.attOf g I 0 X)) 0), .int .u64 (P.wrd (X2 ||| (P.attOf g I 0 X)) 1), .int .u64 (P.wrd (X2 ||| (P.attOf g I 0 X)) 2), .int .u64 (P.wrd (X2 ||| (P.attOf g I 0 X)) 3)]) | 8 => (fun v _ _ => v = (.pointer (some ⟨q10, 0, none⟩))) | _ => fun _ _ _ => True) (fun _ _ _ _ => True) (Rk.allK) 99 (by kernel_rfl) (by rfl) (by kernel_rfl) (by rfl) ?_ ?_ ?_ ?_
                  · refine ⟨?_, ?_, ?_, ?_, ?_, ?_, ?_, ?_, ?_, trivial⟩
                    · intro A w' K vals h hn hT hgk hK0
                      have r0 : A.tmps[8]?.getD undef = .int .i64 1 := Rg.slot h.1
                      clear h hn hT hgk
                      simp [Oper.wp, execOp, go_sem, r0]
                      exact hK0 _ _ (Rk.Keeps.refl _ _) rfl trivial
                    · intro A w' K vals h hn hT hgk hK0
                      have r0 : A.tmps[74]?.getD undef = vals 0 := Rg.slot h.2.1
                      have s0 : vals 0 = (.int .i64 1) := hn.1
                      clear h hn hT hgk
                      simp [Oper.wp, execOp, go_sem, r0, s0]
                      exact hK0 _ _ (Rk.Keeps.refl _ _) rfl trivial
                    · intro A w' K vals h hn hT hgk hK0
                      have r0 : A.tmps[8]?.getD undef = .int .i64 1 := Rg.slot h.1
                      clear h hn hT hgk
                      simp [Oper.wp, execOp, go_sem, r0]
                      exact hK0 _ _ (Rk.Keeps.refl _ _) rfl trivial
                    · intro A w' K vals h hn hT hgk hK0
                      have r0 : A.tmps[76]?.getD undef = vals 2 := Rg.slot h.2.1
                      have s0 : vals 2 = (.int .i64 1) := hn.1
                      clear h hn hT hgk
                      simp [Oper.wp, execOp, go_sem, r0, s0]
                      exact hK0 _ _ (Rk.Keeps.refl _ _) rfl trivial
                    · intro A w' K vals h hn hT hgk hK0
                      have r0 : A.tmps[10]?.getD undef = .pointer (some ⟨q10, 0, none⟩) := Rg.slot h.1
                      have r1 : A.tmps[77]?.getD undef = vals 3 := Rg.slot h.2.1
                      have s1 : vals 3 = (.int .i64 0) := hn.1
                      clear h hn hT hgk
                      simp [Oper.wp, execOp, go_sem, r0, r1, s1]
                      exact hK0 _ _ (Rk.Keeps.refl _ _) rfl trivial
                    · intro A w' K vals h hn hT hgk hK0
                      have r0 : A.tmps[78]?.getD undef = vals 4 := Rg.slot h.1
                      have r1 : vals 4 = (.pointer (some ⟨q10, 0, none⟩)) := hn.1
                      have bs := BQp.out.keep (Rk.grown_of hgk)
                      have cc0 : w'.cell? ⟨q10, 0, none⟩ = some (.int .u64 (P.wrd X2 0)) := bs.cell 0 _ rfl
                      have cc1 : w'.cell? ⟨q10, 1, none⟩ = some (.int .u64 (P.wrd X2 1)) := bs.cell 1 _ rfl
                      have cc2 : w'.cell? ⟨q10, 2, none⟩ = some (.int .u64 (P.wrd X2 2)) := bs.cell 2 _ rfl
                      have cc3 : w'.cell? ⟨q10, 3, none⟩ = some (.int .u64 (P.wrd X2 3)) := bs.cell 3 _ rfl
                      have cc4 : w'.cell? ⟨q10, 4, none⟩ = some (.int .u64 (P.wrd Y2 0)) := bs.cell 4 _ rfl
                      have cc5 : w'.cell? ⟨q10, 5, none⟩ = some (.int .u64 (P.wrd Y2 1)) := bs.cell 5 _ rfl
                      have cc6 : w'.cell? ⟨q10, 6, none⟩ = some (.int .u64 (P.wrd Y2 2)) := bs.cell 6 _ rfl
                      have cc7 : w'.cell? ⟨q10, 7, none⟩ = some (.int .u64 (P.wrd Y2 3)) := bs.cell 7 _ rfl
                      clear h hn hT hgk bs
                      simp [Oper.wp, execOp, go_sem, r0, r1, cc0, cc1, cc2, cc3]
                      exact hK0 _ _ (Rk.Keeps.refl _ _) rfl trivial
                    · intro A w' K vals h hn hT hgk hK0
                      have r0 : A.tmps[11]?.getD undef = (.pointer (some ⟨q11, 0, none⟩)) := Rg.slot h.1
                      have bs := BQB.out.keep (Rk.grown_of hgk)
                      have cc0 : w'.cell? ⟨q11, 0, none⟩ = some (.int .u64 (P.wrd (P.attOf g I 0 X) 0)) := bs.cell 0 _ rfl
                      have cc1 : w'.cell? ⟨q11, 1, none⟩ = some (.int .u64 (P.wrd (P.attOf g I 0 X) 1)) := bs.cell 1 _ rfl
                      have cc2 : w'.cell? ⟨q11, 2, none⟩ = some (.int .u64 (P.wrd (P.attOf g I 0 X) 2)) := bs.cell 2 _ rfl
                      have cc3 : w'.cell? ⟨q11, 3, none⟩ = some (.int .u64 (P.wrd (P.attOf g I 0 X) 3)) := bs.cell 3 _ rfl
                      clear h hn hT hgk bs
                      simp [Oper.wp, execOp, go_sem, r0, cc0, cc1, cc2, cc3]
                      exact hK0 _ _ (Rk.Keeps.refl _ _) rfl trivial
                    · intro A w' K vals h hn hT hgk hK0
                      have r0 : A.tmps[79]?.getD undef = vals 5 := Rg.slot h.2.1
                      have r1 : A.tmps[80]?.getD undef = vals 6 := Rg.slot h.2.2.1
                      have s0 : vals 5 = .agg #[.int .u64 (P.wrd X2 0), .int .u64 (P.wrd X2 1), .int .u64 (P.wrd X2 2), .int .u64 (P.wrd X2 3)] := hn.1
                      have s1 : vals 6 = .agg #[.int .u64 (P.wrd (P.attOf g I 0 X) 0), .int .u64 (P.wrd (P.attOf g I 0 X) 1), .int .u64 (P.wrd (P.attOf g I 0 X) 2), .int .u64 (P.wrd (P.attOf g I 0 X) 3)] := hn.2.1
                      clear h hn hT hgk
                      simp [Oper.wp, go_sem, r0, r1, s0, s1]
                      refine (or_any _ _ w').mono ?_
                      rintro e w'' ⟨rfl, hb⟩
                      exact hK0 _ _ (Rk.keep_of (grown_of_below hb _)) rfl trivial
                    · intro A w' K vals h hn hT hgk hK0
                      have r0 : A.tmps[10]?.getD undef = .pointer (some ⟨q10, 0, none⟩) := Rg.slot h.1
                      have r1 : A.tmps[75]?.getD undef = vals 1 := Rg.slot h.2.1
                      have s1 : vals 1 = (.int .i64 0) := hn.1
                      clear h hn hT hgk
                      simp [Oper.wp, execOp, go_sem, r0, r1, s1]
                      exact hK0 _ _ (Rk.Keeps.refl _ _) rfl trivial
                  · refine ⟨?_, ?_, ?_, ?_, ?_, ?_, ?_, ?_, ?_, trivial⟩
                    · exact fun _ _ _ _ _ _ h => h
                    · exact fun _ _ _ _ _ _ h => h
                    · exact fun _ _ _ _ _ _ h => h
                    · exact fun _ _ _ _ _ _ h => h
                    · exact fun _ _ _ _ _ _ h => h
                    · exact fun _ _ _ _ _ _ h => h
                    · exact fun _ _ _ _ _ _ h => h
                    · exact fun _ _ _ _ _ _ h => h
                    · exact fun _ _ _ _ _ _ h => h
                  · exact fun _ _ _ _ _ _ h => h
                  · intro vals w15 G hgk hS hG
                    have s7 : vals 7 = .agg #[.int .u64 (P.wrd (X2 ||| (P.attOf g I 0 X)) 0), .int .u64 (P.wrd (X2 ||| (P.attOf g I 0 X)) 1), .int .u64 (P.wrd (X2 ||| (P.attOf g I 0 X)) 2), .int .u64 (P.wrd (X2 ||| (P.attOf g I 0 X)) 3)] := hS.2.2.2.2.2.2.2.1
                    have s8 : vals 8 = (.pointer (some ⟨q10, 0, none⟩)) := hS.2.2.2.2.2.2.2.2.1
                    clear hS
                    have hb := below_of_grown (Rk.grown_of hgk)
                    replace HS := Lib.hid (HS.out.on hb)
                    replace HK := Lib.hid (HK.out.trans (SlK.of hb))
                    replace BQr := Lib.hid (BQr.out.keep (grown_of_below hb none))
                    replace BQp := Lib.hid (BQp.out.keep (grown_of_below hb none))
                    clear hb hgk
                    refine hG ?_
                    clear hG
                    simp only [List.take, List.drop, List.length, Nat.reduceSub, Nat.reduceAdd, Rg.putAll, Act.put, List.setIfInBounds_toArray, List.set_cons_succ, List.set_cons_zero, s7, s8]
                    clear s7 s8
                    have hbo := BQp.out
                    have rc0 : w15.cell? ⟨q10, 0, none⟩ = some (.int .u64 (P.wrd X2 0)) := hbo.cell 0 _ rfl
                    have rc1 : w15.cell? ⟨q10, 1, none⟩ = some (.int .u64 (P.wrd X2 1)) := hbo.cell 1 _ rfl
                    have rc2 : w15.cell? ⟨q10, 2, none⟩ = some (.int .u64 (P.wrd X2 2)) := hbo.cell 2 _ rfl
                    have rc3 : w15.cell? ⟨q10, 3, none⟩ = some (.int .u64 (P.wrd X2 3)) := hbo.cell 3 _ rfl
                    have rc4 : w15.cell? ⟨q10, 4, none⟩ = some (.int .u64 (P.wrd Y2 0)) := hbo.cell 4 _ rfl
                    have rc5 : w15.cell? ⟨q10, 5, none⟩ = some (.int .u64 (P.wrd Y2 1)) := hbo.cell 5 _ rfl
                    have rc6 : w15.cell? ⟨q10, 6, none⟩ = some (.int .u64 (P.wrd Y2 2)) := hbo.cell 6 _ rfl
                    have rc7 : w15.cell? ⟨q10, 7, none⟩ = some (.int .u64 (P.wrd Y2 3)) := hbo.cell 7 _ rfl
                    have rf0 : w15.frozen? ⟨q10, 0, none⟩ = false := hbo.frozen 0
                    have rf1 : w15.frozen? ⟨q10, 1, none⟩ = false := hbo.frozen 1
                    have rf2 : w15.frozen? ⟨q10, 2, none⟩ = false := hbo.frozen 2
                    have rf3 : w15.frozen? ⟨q10, 3, none⟩ = false := hbo.frozen 3
                    have rf4 : w15.frozen? ⟨q10, 4, none⟩ = false := hbo.frozen 4
                    have rf5 : w15.frozen? ⟨q10, 5, none⟩ = false := hbo.frozen 5
                    have rf6 : w15.frozen? ⟨q10, 6, none⟩ = false := hbo.frozen 6
                    have rf7 : w15.frozen? ⟨q10, 7, none⟩ = false := hbo.frozen 7
                    clear hbo
                    have BZ : Box ((((w15.setCell ⟨q10, 0, none⟩ (.int .u64 (P.wrd (X2 ||| (P.attOf g I 0 X)) 0))).setCell ⟨q10, 1, none⟩ (.int .u64 (P.wrd (X2 ||| (P.attOf g I 0 X)) 1))).setCell ⟨q10, 2, none⟩ (.int .u64 (P.wrd (X2 ||| (P.attOf g I 0 X)) 2))).setCell ⟨q10, 3, none⟩ (.int .u64 (P.wrd (X2 ||| (P.attOf g I 0 X)) 3))) q10 50 #[.int .u64 (P.wrd (X2 ||| (P.attOf g I 0 X)) 0), .int .u64 (P.wrd (X2 ||| (P.attOf g I 0 X)) 1), .int .u64 (P.wrd (X2 ||| (P.attOf g I 0 X)) 2), .int .u64 (P.wrd (X2 ||| (P.attOf g I 0 X)) 3), .int .u64 (P.wrd Y2 0), .int .u64 (P.wrd Y2 1), .int .u64 (P.wrd Y2 2), .int .u64 (P.wrd Y2 3)] := box4lo BQp.out _ _ _ _
                    have hko : Rk.Keeps (KN [q10]) w15 ((((w15.setCell ⟨q10, 0, none⟩ (.int .u64 (P.wrd (X2 ||| (P.attOf g I 0 X)) 0))).setCell ⟨q10, 1, none⟩ (.int .u64 (P.wrd (X2 ||| (P.attOf g I 0 X)) 1))).setCell ⟨q10, 2, none⟩ (.int .u64 (P.wrd (X2 ||| (P.attOf g I 0 X)) 2))).setCell ⟨q10, 3, none⟩ (.int .u64 (P.wrd (X2 ||| (P.attOf g I 0 X)) 3))) := (((kn_set w15 q10 0 _).trans (kn_set _ q10 1 _)).trans (kn_set _ q10 2 _)).trans (kn_set _ q10 3 _)
                    replace HS := Lib.hid (HS.out.kn hko NQp.out.1.symm NQp.out.2.symm (by have h1 := LEi.out; have h2 := HQ2.out; have h3 := LTir.out; have h4 := Lq7.out; have h5 := Lq9.out; have h6 := Lq10.out; omega))
                    replace HK := Lib.hid (HK.out.one hko (by have h1 := LEi.out; have h2 := HQ2.out; have h3 := LTir.out; have h4 := Lq7.out; have h5 := Lq9.out; have h6 := Lq10.out; omega))
                    replace BQr := Lib.hid (kn_box hko BQr.out (by have hne : qr ≠ q10 := (by have h1 := LEi.out; have h2 := HQ2.out; have h3 := LTir.out; have h4 := Lq7.out; have h5 := Lq9.out; have h6 := Lq10.out; omega); simp [hne]))
                    replace BQp := Lib.hid BZ
                    clear hko BZ
                    go_upto_region 14 with (fail)
                    generalize ((((w15.setCell ⟨q10, 0, none⟩ (.int .u64 (P.wrd (X2 ||| (P.attOf g I 0 X)) 0))).setCell ⟨q10, 1, none⟩ (.int .u64 (P.wrd (X2 ||| (P.attOf g I 0 X)) 1))).setCell ⟨q10, 2, none⟩ (.int .u64 (P.wrd (X2 ||| (P.attOf g I 0 X)) 2))).setCell ⟨q10, 3, none⟩ (.int .u64 (P.wrd (X2 ||| (P.attOf g I 0 X)) 3))) = w16 at HS HK BQp BQr ⊢
                    clear rc0 rf0 rc1 rf1 rc2 rf2 rc3 rf3 rc4 rf4 rc5 rf5 rc6 rf6 rc7 rf7
                    have hbb := BQp.out
                    have pc0 : w16.cell? ⟨q10, 0, none⟩ = some (.int .u64 (P.wrd (X2 ||| (P.attOf g I 0 X)) 0)) := hbb.cell 0 _ rfl
                    have pc1 : w16.cell? ⟨q10, 1, none⟩ = some (.int .u64 (P.wrd (X2 ||| (P.attOf g I 0 X)) 1)) := hbb.cell 1 _ rfl
                    have pc2 : w16.cell? ⟨q10, 2, none⟩ = some (.int .u64 (P.wrd (X2 ||| (P.attOf g I 0 X)) 2)) := hbb.cell 2 _ rfl
                    have pc3 : w16.cell? ⟨q10, 3, none⟩ = some (.int .u64 (P.wrd (X2 ||| (P.attOf g I 0 X)) 3)) := hbb.cell 3 _ rfl
                    have pc4 : w16.cell? ⟨q10, 4, none⟩ = some (.int .u64 (P.wrd Y2 0)) := hbb.cell 4 _ rfl
                    have pc5 : w16.cell? ⟨q10, 5, none⟩ = some (.int .u64 (P.wrd Y2 1)) := hbb.cell 5 _ rfl
                    have pc6 : w16.cell? ⟨q10, 6, none⟩ = some (.int .u64 (P.wrd Y2 2)) := hbb.cell 6 _ rfl
                    have pc7 : w16.cell? ⟨q10, 7, none⟩ = some (.int .u64 (P.wrd Y2 3)) := hbb.cell 7 _ rfl
                    clear hbb
                    have hbo := BQr.out
                    have rc0 : w16.cell? ⟨qr, 0, none⟩ = some (.int .u64 0) := hbo.cell 0 _ rfl
                    have rc1 : w16.cell? ⟨qr, 1, none⟩ = some (.int .u64 0) := hbo.cell 1 _ rfl
                    have rc2 : w16.cell? ⟨qr, 2, none⟩ = some (.int .u64 0) := hbo.cell 2 _ rfl
                    have rc3 : w16.cell? ⟨qr, 3, none⟩ = some (.int .u64 0) := hbo.cell 3 _ rfl
                    have rc4 : w16.cell? ⟨qr, 4, none⟩ = some (.int .u64 0) := hbo.cell 4 _ rfl
                    have rc5 : w16.cell? ⟨qr, 5, none⟩ = some (.int .u64 0) := hbo.cell 5 _ rfl
                    have rc6 : w16.cell? ⟨qr, 6, none⟩ = some (.int .u64 0) := hbo.cell 6 _ rfl
                    have rc7 : w16.cell? ⟨qr, 7, none⟩ = some (.int .u64 0) := hbo.cell 7 _ rfl
                    have rf0 : w16.frozen? ⟨qr, 0, none⟩ = false := hbo.frozen 0
                    have rf1 : w16.frozen? ⟨qr, 1, none⟩ = false := hbo.frozen 1
                    have rf2 : w16.frozen? ⟨qr, 2, none⟩ = false := hbo.frozen 2
                    have rf3 : w16.frozen? ⟨qr, 3, none⟩ = false := hbo.frozen 3
                    have rf4 : w16.frozen? ⟨qr, 4, none⟩ = false := hbo.frozen 4
                    have rf5 : w16.frozen? ⟨qr, 5, none⟩ = false := hbo.frozen 5
                    have rf6 : w16.frozen? ⟨qr, 6, none⟩ = false := hbo.frozen 6
                    have rf7 : w16.frozen? ⟨qr, 7, none⟩ = false := hbo.frozen 7
                    clear hbo
                    have BZ : Box ((((((((w16.setCell ⟨qr, 0, none⟩ (.int .u64 (P.wrd (X2 ||| (P.attOf g I 0 X)) 0))).setCell ⟨qr, 1, none⟩ (.int .u64 (P.wrd (X2 ||| (P.attOf g I 0 X)) 1))).setCell ⟨qr, 2, none⟩ (.int .u64 (P.wrd (X2 ||| (P.attOf g I 0 X)) 2))).setCell ⟨qr, 3, none⟩ (.int .u64 (P.wrd (X2 ||| (P.attOf g I 0 X)) 3))).setCell ⟨qr, 4, none⟩ (.int .u64 (P.wrd Y2 0))).setCell ⟨qr, 5, none⟩ (.int .u64 (P.wrd Y2 1))).setCell ⟨qr, 6, none⟩ (.int .u64 (P.wrd Y2 2))).setCell ⟨qr, 7, none⟩ (.int .u64 (P.wrd Y2 3))) qr 50 #[.int .u64 (P.wrd (X2 ||| (P.attOf g I 0 X)) 0), .int .u64 (P.wrd (X2 ||| (P.attOf g I 0 X)) 1), .int .u64 (P.wrd (X2 ||| (P.attOf g I 0 X)) 2), .int .u64 (P.wrd (X2 ||| (P.attOf g I 0 X)) 3), .int .u64 (P.wrd Y2 0), .int .u64 (P.wrd Y2 1), .int .u64 (P.wrd Y2 2), .int .u64 (P.wrd Y2 3)] := box8 BQr.out _ _ _ _ _ _ _ _
                    have hko : Rk.Keeps (KN [qr]) w16 ((((((((w16.setCell ⟨qr, 0, none⟩ (.int .u64 (P.wrd (X2 ||| (P.attOf g I 0 X)) 0))).setCell ⟨qr, 1, none⟩ (.int .u64 (P.wrd (X2 ||| (P.attOf g I 0 X)) 1))).setCell ⟨qr, 2, none⟩ (.int .u64 (P.wrd (X2 ||| (P.attOf g I 0 X)) 2))).setCell ⟨qr, 3, none⟩ (.int .u64 (P.wrd (X2 ||| (P.attOf g I 0 X)) 3))).setCell ⟨qr, 4, none⟩ (.int .u64 (P.wrd Y2 0))).setCell ⟨qr, 5, none⟩ (.int .u64 (P.wrd Y2 1))).setCell ⟨qr, 6, none⟩ (.int .u64 (P.wrd Y2 2))).setCell ⟨qr, 7, none⟩ (.int .u64 (P.wrd Y2 3))) := (((((((kn_set w16 qr 0 _).trans (kn_set _ qr 1 _)).trans (kn_set _ qr 2 _)).trans (kn_set _ qr 3 _)).trans (kn_set _ qr 4 _)).trans (kn_set _ qr 5 _)).trans (kn_set _ qr 6 _)).trans (kn_set _ qr 7 _)
                    replace HS := Lib.hid (HS.out.kn hko NQr.out.1.symm NQr.out.2.symm (by have h1 := LEi.out; have h2 := HQ2.out; have h3 := LTir.out; have h4 := Lq7.out; have h5 := Lq9.out; have h6 := Lq10.out; omega))
                    replace HK := Lib.hid (HK.out.one hko (by have h1 := LEi.out; have h2 := HQ2.out; have h3 := LTir.out; have h4 := Lq7.out; have h5 := Lq9.out; have h6 := Lq10.out; omega))
                    replace BQp := Lib.hid (kn_box hko BQp.out (by have hne : q10 ≠ qr := (by have h1 := LEi.out; have h2 := HQ2.out; have h3 := LTir.out; have h4 := Lq7.out; have h5 := Lq9.out; have h6 := Lq10.out; omega); simp [hne]))
                    replace BQr := Lib.hid BZ
                    clear hko BZ
                    go_wp2_with fail
                    generalize ((((((((w16.setCell ⟨qr, 0, none⟩ (.int .u64 (P.wrd (X2 ||| (P.attOf g I 0 X)) 0))).setCell ⟨qr, 1, none⟩ (.int .u64 (P.wrd (X2 ||| (P.attOf g I 0 X)) 1))).setCell ⟨qr, 2, none⟩ (.int .u64 (P.wrd (X2 ||| (P.attOf g I 0 X)) 2))).setCell ⟨qr, 3, none⟩ (.int .u64 (P.wrd (X2 ||| (P.attOf g I 0 X)) 3))).setCell ⟨qr, 4, none⟩ (.int .u64 (P.wrd Y2 0))).setCell ⟨qr, 5, none⟩ (.int .u64 (P.wrd Y2 1))).setCell ⟨qr, 6, none⟩ (.int .u64 (P.wrd Y2 2))).setCell ⟨qr, 7, none⟩ (.int .u64 (P.wrd Y2 3))) = w17 at HS HK BQr BQp ⊢
                    clear rc0 rf0 rc1 rf1 rc2 rf2 rc3 rf3 rc4 rf4 rc5 rf5 rc6 rf6 rc7 rf7
                    clear pc0 pc1 pc2 pc3 pc4 pc5 pc6 pc7
                    have zc0 : w17.cell? ⟨qr, 0, none⟩ = some (.int .u64 (P.wrd (X2 ||| (P.attOf g I 0 X)) 0)) := BQr.out.cell 0 _ rfl
                    have zc1 : w17.cell? ⟨qr, 1, none⟩ = some (.int .u64 (P.wrd (X2 ||| (P.attOf g I 0 X)) 1)) := BQr.out.cell 1 _ rfl
                    have zc2 : w17.cell? ⟨qr, 2, none⟩ = some (.int .u64 (P.wrd (X2 ||| (P.attOf g I 0 X)) 2)) := BQr.out.cell 2 _ rfl
                    have zc3 : w17.cell? ⟨qr, 3, none⟩ = some (.int .u64 (P.wrd (X2 ||| (P.attOf g I 0 X)) 3)) := BQr.out.cell 3 _ rfl
                    have zc4 : w17.cell? ⟨qr, 4, none⟩ = some (.int .u64 (P.wrd Y2 0)) := BQr.out.cell 4 _ rfl
                    have zc5 : w17.cell? ⟨qr, 5, none⟩ = some (.int .u64 (P.wrd Y2 1)) := BQr.out.cell 5 _ rfl
                    have zc6 : w17.cell? ⟨qr, 6, none⟩ = some (.int .u64 (P.wrd Y2 2)) := BQr.out.cell 6 _ rfl
                    have zc7 : w17.cell? ⟨qr, 7, none⟩ = some (.int .u64 (P.wrd Y2 3)) := BQr.out.cell 7 _ rfl
                    refine bodyPost_ret (v := .agg #[.int .u64 (P.wrd (X2 ||| (P.attOf g I 0 X)) 0), .int .u64 (P.wrd (X2 ||| (P.attOf g I 0 X)) 1), .int .u64 (P.wrd (X2 ||| (P.attOf g I 0 X)) 2), .int .u64 (P.wrd (X2 ||| (P.attOf g I 0 X)) 3), .int .u64 (P.wrd Y2 0), .int .u64 (P.wrd Y2 1), .int .u64 (P.wrd Y2 2), .int .u64 (P.wrd Y2 3)]) (by simp [results, Tryd.results21, go_sem, zc0, zc1, zc2, zc3, zc4, zc5, zc6, zc7]) rfl ⟨(X2 ||| (P.attOf g I 0 X)), Y2, c2, d3, rfl, P.ap_part1 HR.out (fun j hj => by rw [HN.out]; exact HI.out j hj) HG.out (HCL.out.trans HN.out.symm) HM.out HAP.out HM2.out HAP2.out, HS.out, HK.out, (by have h1 := HMX.out; have h2 := HDD.out; have h3 := HNX.out.2.2; have h4 := HDD2.out; have h5 := HNX2.out.2.2; split at h1 <;> omega), (by have h1 := HMX.out; have h2 := HDD.out; have h3 := HNX.out.2.2; have h4 := HDD2.out; have h5 := HNX2.out.2.2; split at h1 <;> omega), (by have h1 := HMX.out; have h2 := HDD.out; have h3 := HNX.out.2.2; have h4 := HDD2.out; have h5 := HNX2.out.2.2; split at h1 <;> omega)⟩
end W
end Go.Proofs.YtghdjkpndhcplaaDoor
