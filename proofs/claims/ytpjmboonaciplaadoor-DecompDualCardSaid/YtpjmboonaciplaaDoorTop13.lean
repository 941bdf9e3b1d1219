/- The positions of a part's highest priority: the solver's walk. -/
import Derived.Test.YtpjmboonaciplaaDoorSlv
import Derived.Test.YtpjmboonaciplaaDoorOwnAt
import Derived.Test.YtpjmboonaciplaaDoorPlaP
import Derived.Test.YtpjmboonaciplaaDoorList
import Derived.Test.YtpjmboonaciplaaDoorRight
import Derived.Deep.Cut
import Derived.Lib.Hide
import Derived.Deep.QuietTactic
import Derived.BigQuiet
import Derived.StillTailTactics
namespace Go.Proofs.YtpjmboonaciplaaDoor
open Go.RowKit
namespace W

set_option maxRecDepth 100000 in
set_option maxHeartbeats 8000000 in
theorem top_any (g : P.G) (hr : g.Right) (n : Nat) (hn : g.owner.length = n) (w0 : World) (ba oa ka bb ob kb bc_ oc kc : Nat) (hv : GameV w0 (.agg #[.slice (some ⟨ba, oa, none⟩) n ka, .slice (some ⟨bb, ob, none⟩) n kb, .slice (some ⟨bc_, oc, none⟩) n kc]) g) (hT : Tab w0) (qs pc kq : Nat) (c : List Int) (d : Int) (w : World) (hS : Sl w0 w qs pc n kq (.slice (some ⟨ba, oa, none⟩) n ka) (.slice (some ⟨bb, ob, none⟩) n kb) (.slice (some ⟨bc_, oc, none⟩) n kc) c d) (I : BitVec 256) (hI : ∀ i, P.Bit I i → i < n) (hne : I ≠ 0#256) :
    Calls Tryd.prog 46 #[.pointer (some ⟨qs, 0, none⟩), .agg #[.int .u64 (P.wrd I 0), .int .u64 (P.wrd I 1), .int .u64 (P.wrd I 2), .int .u64 (P.wrd I 3)]] w fun e w' => ∃ (z : Int) (To : BitVec 256), e = .returned (.tuple #[.agg #[.int .u64 (P.wrd To 0), .int .u64 (P.wrd To 1), .int .u64 (P.wrd To 2), .int .u64 (P.wrd To 3)], .int .i64 (z % 2)]) ∧ (∀ i, P.Bit To i ↔ P.Bit I i ∧ g.prio.getD i 0 = z) ∧ (∀ i, P.Bit I i → g.prio.getD i 0 ≤ z) ∧ (∃ i, P.Bit To i) ∧ 0 ≤ z ∧ Below w.heap.size w w' := by
  have HV := Lib.hid hv
  have T := Lib.hid hT
  have HR := Lib.hid hr
  have HN := Lib.hid hn
  have hop := hr.prio
  have hmp := hr.moves
  have hmany := hr.many
  have h0 := hr.pos
  rw [hn] at hop hmp hmany h0
  have HPN := Lib.hid hop
  obtain ⟨xba, xoa, xka, xbb, xob, xkb, xbc, xoc, xkc, e0, hca, hcb, hcc⟩ := hv.open_ hn hop hmp h0
  injection e0 with e0
  obtain ⟨⟨⟨rfl, rfl⟩, rfl⟩, ⟨⟨rfl, rfl⟩, rfl⟩, ⟨rfl, rfl⟩, rfl⟩ : (((ba = xba ∧ oa = xoa) ∧ ka = xka) ∧ ((bb = xbb ∧ ob = xob) ∧ kb = xkb) ∧ (bc_ = xbc ∧ oc = xoc) ∧ kc = xkc) := by simpa using e0
  have HCA := Lib.hid hca
  have HCB := Lib.hid hcb
  have HCC := Lib.hid hcc
  clear e0 hca hcb hcc hv hT hr hn hop hmp
  have HS := Lib.hid hS
  have HLW : Hid (w0.heap.size ≤ w.heap.size) := Lib.hid hS.low.size
  have HQW : Hid (qs < w.heap.size) := Lib.hid hS.box.lt
  have HI := Lib.hid hI
  have HNE := Lib.hid hne
  clear hS hI hne
  go_enter Tryd.func46, Tryd.ntmps46
  go_wp2_with fail
  have bx0 : Box ((w.alloc (.cells #[.int .u64 (P.wrd I 0), .int .u64 (P.wrd I 1), .int .u64 (P.wrd I 2), .int .u64 (P.wrd I 3)] 45)).alloc (.cells #[.int .u64 0, .int .u64 0, .int .u64 0, .int .u64 0] 45)) (w.heap.size) 45 #[.int .u64 (P.wrd I 0), .int .u64 (P.wrd I 1), .int .u64 (P.wrd I 2), .int .u64 (P.wrd I 3)] := Box.alloc (Box.new w 45 #[.int .u64 (P.wrd I 0), .int .u64 (P.wrd I 1), .int .u64 (P.wrd I 2), .int .u64 (P.wrd I 3)]) (.cells #[.int .u64 0, .int .u64 0, .int .u64 0, .int .u64 0] 45)
  have bx1 : Box ((w.alloc (.cells #[.int .u64 (P.wrd I 0), .int .u64 (P.wrd I 1), .int .u64 (P.wrd I 2), .int .u64 (P.wrd I 3)] 45)).alloc (.cells #[.int .u64 0, .int .u64 0, .int .u64 0, .int .u64 0] 45)) (w.heap.size + 1) 45 #[.int .u64 0, .int .u64 0, .int .u64 0, .int .u64 0] := by
    have := Box.new (w.alloc (.cells #[.int .u64 (P.wrd I 0), .int .u64 (P.wrd I 1), .int .u64 (P.wrd I 2), .int .u64 (P.wrd I 3)] 45)) 45 #[.int .u64 0, .int .u64 0, .int .u64 0, .int .u64 0]
    simpa using this
  have hbq : Below w.heap.size w ((w.alloc (.cells #[.int .u64 (P.wrd I 0), .int .u64 (P.wrd I 1), .int .u64 (P.wrd I 2), .int .u64 (P.wrd I 3)] 45)).alloc (.cells #[.int .u64 0, .int .u64 0, .int .u64 0, .int .u64 0] 45)) := ((Below.refl _ w).alloc (Nat.le_refl _) _).alloc (by simp) _
  have lt0 : w.heap.size < w.heap.size + 1 := Nat.lt_succ_self _
  have hle0 : w.heap.size ≤ w.heap.size := Nat.le_refl _
  replace HS := Lib.hid (HS.out.on hbq)
  generalize ((w.alloc (.cells #[.int .u64 (P.wrd I 0), .int .u64 (P.wrd I 1), .int .u64 (P.wrd I 2), .int .u64 (P.wrd I 3)] 45)).alloc (.cells #[.int .u64 0, .int .u64 0, .int .u64 0, .int .u64 0] 45)) = w1 at bx0 bx1 hbq HS ⊢
  have BQi := Lib.hid bx0
  have BQr := Lib.hid bx1
  have W := Lib.hid hbq
  have LTir := Lib.hid lt0
  have LEi := Lib.hid hle0
  clear hbq hle0 bx0 bx1 lt0
  generalize w.heap.size + 1 = qr at BQr LTir ⊢
  obtain ⟨qi, hqi⟩ : ∃ qi, w.heap.size = qi := ⟨_, rfl⟩
  rw [hqi] at BQi LTir ⊢
  have LEi : Hid (w.heap.size ≤ qi) := Lib.hid (by omega)
  clear hqi
  have hbb := BQi.out
  have ic0 : w1.cell? ⟨qi, 0, none⟩ = some (.int .u64 (P.wrd I 0)) := hbb.cell 0 _ rfl
  have ic1 : w1.cell? ⟨qi, 1, none⟩ = some (.int .u64 (P.wrd I 1)) := hbb.cell 1 _ rfl
  have ic2 : w1.cell? ⟨qi, 2, none⟩ = some (.int .u64 (P.wrd I 2)) := hbb.cell 2 _ rfl
  have ic3 : w1.cell? ⟨qi, 3, none⟩ = some (.int .u64 (P.wrd I 3)) := hbb.cell 3 _ rfl
  clear hbb
  go_wp2_with fail
  clear ic0 ic1 ic2 ic3
  refine (list_any I _ (T.out.on (HS.out.low))).mono ?_
  rintro e w3 ⟨lv, rfl, hown, hb⟩
  obtain ⟨ln, hln⟩ : ∃ k, (P.lst I).length = k := ⟨_, rfl⟩
  have hlp : 0 < ln := by
    rcases Nat.eq_zero_or_pos ln with e | e
    · exact absurd (P.bit_none fun i hi => by
        have h1 := (P.mem_lst I i).2 hi
        rw [List.eq_nil_of_length_eq_zero (hln.trans e)] at h1
        cases h1) HNE.out
    · exact e
  rw [hln] at hown
  obtain ⟨bl, kl, rfl, -, -, hcl, -⟩ := own_form hown hlp
  have HLL := Lib.hid hln
  have HLC := Lib.hid (show ∀ j, j < ln → w3.cell? ⟨bl, j, none⟩ = some (.int .i64 (((P.lst I).getD j 0 : Nat) : Int)) from fun j hj => hcl j _ (by
    unfold P.vals
    rw [List.getElem?_map, List.getD_eq_getElem?_getD, List.getElem?_eq_getElem (by omega)]
    rfl))
  have hl256 : ln ≤ 256 := by rw [← hln]; unfold P.lst; exact Nat.le_trans (List.length_filter_le _ _) (by simp)
  replace HS := Lib.hid (HS.out.on hb)
  replace BQi := Lib.hid (BQi.out.keep (grown_of_below hb none))
  replace BQr := Lib.hid (BQr.out.keep (grown_of_below hb none))
  replace W := Lib.hid (W.out.trans (hb.mono W.out.size))
  clear hown hcl hb hln
  go_wp2_with fail
  go_loopw [6, 12] (fun zv iv wr => ∃ (k : Nat) (zt : Int), k ≤ ln ∧ iv = .int .i64 (k : Int) ∧ zv = .int .i64 zt ∧ 0 ≤ zt ∧ (∀ j, j < k → g.prio.getD ((P.lst I).getD j 0) 0 ≤ zt) ∧ (zt = 0 ∨ ∃ j, j < k ∧ g.prio.getD ((P.lst I).getD j 0) 0 = zt) ∧ wr = w3) (fun _ iv _ => ln - (intOf iv).toNat)
  case atStart => exact ⟨0, 0, Nat.zero_le _, rfl, rfl, Int.le_refl _, fun j h => absurd h (Nat.not_lt_zero j), .inl rfl, rfl⟩
  case round =>
    obtain ⟨k, zt, hk, rfl, rfl, hz0, hup, hat, hwr⟩ := hrel
    rw [hwr]
    clear hwr
    have HZ0 := Lib.hid hz0
    have HUP := Lib.hid hup
    have HAT := Lib.hid hat
    have hk0 : (0 : Int) ≤ (k : Int) := Int.natCast_nonneg _
    clear hup hat
    by_cases hlt : k < ln
    · have fk : decide ((k : Int) < (ln : Int)) = true := decide_eq_true (by omega)
      have hki : (k : Int) < (ln : Int) := by omega
      have hc := HLC.out k hlt
      obtain ⟨x, hx⟩ : ∃ x, (P.lst I).getD k 0 = x := ⟨_, rfl⟩
      rw [hx] at hc
      have hxI : P.Bit I x := (P.mem_lst I x).1 (by rw [← hx, List.getD_eq_getElem?_getD, List.getElem?_eq_getElem (by rw [HLL.out]; exact hlt)]; exact List.getElem_mem _)
      have hxn := HI.out x hxI
      have hx0 : (0 : Int) ≤ (x : Int) := Int.natCast_nonneg _
      have hxi : (x : Int) < (n : Int) := by omega
      have cp := HCB.out w3 HS.out.low x hxn
      obtain ⟨y, hy⟩ : ∃ y, g.prio.getD x 0 = y := ⟨_, rfl⟩
      rw [hy] at cp
      have HY := Lib.hid (show g.prio.getD ((P.lst I).getD k 0) 0 = y by rw [hx]; exact hy)
      clear hx hxI hy
      have hbb := HS.out.box
      have sc0 : w3.cell? ⟨qs, 0, none⟩ = some (.slice (some ⟨ba, oa, none⟩) n ka) := hbb.cell 0 _ rfl
      have sc1 : w3.cell? ⟨qs, 1, none⟩ = some (.slice (some ⟨bb, ob, none⟩) n kb) := hbb.cell 1 _ rfl
      have sc2 : w3.cell? ⟨qs, 2, none⟩ = some (.slice (some ⟨bc_, oc, none⟩) n kc) := hbb.cell 2 _ rfl
      have sc3 : w3.cell? ⟨qs, 3, none⟩ = some (.slice (some ⟨pc, 0, none⟩) n kq) := hbb.cell 3 _ rfl
      have sc4 : w3.cell? ⟨qs, 4, none⟩ = some (.int .i64 d) := hbb.cell 4 _ rfl
      clear hbb
      by_cases hzy : zt < y
      · have HU2 := Lib.hid (show ∀ j, j < k + 1 → g.prio.getD ((P.lst I).getD j 0) 0 ≤ y from fun j hj => by
          by_cases e : j = k
          · rw [e, HY.out]; exact Int.le_refl _
          · exact Int.le_trans (HUP.out j (by omega)) (by omega))
        have HA2 := Lib.hid (show y = 0 ∨ ∃ j, j < k + 1 ∧ g.prio.getD ((P.lst I).getD j 0) 0 = y from .inr ⟨k, by omega, HY.out⟩)
        have hy0 : 0 ≤ y := by omega
        go_wp2_with fail
        clear hc cp sc0 sc1 sc2 sc3 sc4
        go_roundw
        case rel => exact ⟨k + 1, y, by omega, by first | rfl | go_num, by first | rfl | rw [if_pos hzy] | simp [hzy], hy0, HU2.out, HA2.out, by first | trivial | rfl⟩
        case measure => simp [intOf]; omega
      · have HU2 := Lib.hid (show ∀ j, j < k + 1 → g.prio.getD ((P.lst I).getD j 0) 0 ≤ zt from fun j hj => by
          by_cases e : j = k
          · rw [e, HY.out]; omega
          · exact HUP.out j (by omega))
        have HA2 := Lib.hid (show zt = 0 ∨ ∃ j, j < k + 1 ∧ g.prio.getD ((P.lst I).getD j 0) 0 = zt from HAT.out.imp id fun ⟨j, h1, h2⟩ => ⟨j, by omega, h2⟩)
        go_wp2_with fail
        clear hc cp sc0 sc1 sc2 sc3 sc4
        go_roundw
        case rel => exact ⟨k + 1, zt, by omega, by first | rfl | go_num, by first | rfl | rw [if_neg hzy] | simp [hzy], hz0, HU2.out, HA2.out, by first | trivial | rfl⟩
        case measure => simp [intOf]; omega
    · have fk : decide ((k : Int) < (ln : Int)) = false := decide_eq_false (by omega)
      have hkl : k = ln := by omega
      have hup2 : ∀ i, P.Bit I i → g.prio.getD i 0 ≤ zt := fun i hi => by
        obtain ⟨j, hj, e⟩ := List.mem_iff_getElem.1 ((P.mem_lst I i).2 hi)
        have h1 := HUP.out j (by have := HLL.out; omega)
        rw [List.getD_eq_getElem?_getD (l := P.lst I), List.getElem?_eq_getElem hj] at h1
        rw [← e]
        exact h1
      have hbt : ∀ i, P.Bit (P.places zt g.prio g.prio.length &&& I) i ↔ P.Bit I i ∧ g.prio.getD i 0 = zt := fun i => by
        unfold P.Bit
        rw [BitVec.getLsbD_and, Bool.and_eq_true]
        constructor
        · rintro ⟨h1, h2⟩
          have hin := HI.out i h2
          rw [P.getLsbD_places zt g.prio i (by omega), Bool.and_eq_true, decide_eq_true_eq, decide_eq_true_eq] at h1
          exact ⟨h2, h1.2⟩
        · rintro ⟨h1, h2⟩
          have hin := HI.out i h1
          rw [P.getLsbD_places zt g.prio i (by omega), Bool.and_eq_true, decide_eq_true_eq, decide_eq_true_eq]
          exact ⟨⟨by rw [HPN.out]; exact hin, h2⟩, h1⟩
      have hex : ∃ i, P.Bit (P.places zt g.prio g.prio.length &&& I) i := by
        have mem : ∀ j, j < ln → P.Bit I ((P.lst I).getD j 0) := fun j hj => (P.mem_lst I _).1 (by rw [List.getD_eq_getElem?_getD, List.getElem?_eq_getElem (by rw [HLL.out]; exact hj)]; exact List.getElem_mem _)
        rcases HAT.out with h1 | ⟨j, h1, h2⟩
        · have hb0 := mem 0 hlp
          have h2 := hup2 _ hb0
          have h3 := (HR.out.at _ (by rw [HN.out]; exact HI.out _ hb0)).2.1
          exact ⟨_, (hbt _).2 ⟨hb0, by omega⟩⟩
        · exact ⟨_, (hbt _).2 ⟨mem j (by omega), h2⟩⟩
      have HZT := Lib.hid (And.intro hbt (And.intro hup2 hex))
      obtain ⟨pl, hpl⟩ : ∃ p, zt % 2 = p := ⟨_, rfl⟩
      have fr : zt.tmod 2 = pl := by rw [Int.tmod_eq_emod_of_nonneg hz0, hpl]
      have HPL := Lib.hid hpl
      have HLR : Hid (w0.heap.size ≤ qr) := Lib.hid (by have h1 := HLW.out; have h2 := LTir.out; have h3 := LEi.out; omega)
      have NQsr : Hid (qs ≠ qr) := Lib.hid (by have h1 := HQW.out; have h2 := LTir.out; have h3 := LEi.out; omega)
      have NQir : Hid (qi ≠ qr) := Lib.hid (by have h2 := LTir.out; omega)
      clear hbt hup2 hex hpl hkl
      go_upto_region 7 with (fail)
      refine Rt.wp_region_tail 1 (fun idx => match idx with | 0 => (fun v _ _ => v = (.pointer (some ⟨qs, 0, none⟩))) | 1 => (fun v _ _ => v = (.pointer (some ⟨qs, 0, none⟩))) | 2 => (fun v _ _ => v = (.pointer (some ⟨qs, 0, none⟩))) | 3 => (fun v _ _ => v = .agg #[.slice (some ⟨ba, oa, none⟩) n ka, .slice (some ⟨bb, ob, none⟩) n kb, .slice (some ⟨bc_, oc, none⟩) n kc]) | 4 => (fun v _ _ => v = (.int .i64 zt)) | 5 => (fun v _ _ => v = .agg #[.int .u64 (P.wrd (P.places zt g.prio g.prio.length) 0), .int .u64 (P.wrd (P.places zt g.prio g.prio.length) 1), .int .u64 (P.wrd (P.places zt g.prio g.prio.length) 2), .int .u64 (P.wrd (P.places zt g.prio g.prio.length) 3)]) | 6 => (fun v _ _ => v = .agg #[.int .u64 (P.wrd I 0), .int .u64 (P.wrd I 1), .int .u64 (P.wrd I 2), .int .u64 (P.wrd I 3)]) | 7 => (fun v _ _ => v = .agg #[.int .u64 (P.wrd (P.places zt g.prio g.prio.length &&& I) 0), .int .u64 (P.wrd (P.places zt g.prio g.prio.length &&& I) 1), .int .u64 (P.wrd (P.places zt g.prio g.prio.length &&& I) 2), .int .u64 (P.wrd (P.places zt g.prio g.prio.length &&& I) 3)]) | 8 => (fun v _ _ => v = (.int .i64 zt)) | 9 => (fun v _ _ => v = (.int .i64 pl)) | 10 => (fun _ _ w' => Box w' qr 45 #[.int .u64 (P.wrd (P.places zt g.prio g.prio.length &&& I) 0), .int .u64 (P.wrd (P.places zt g.prio g.prio.length &&& I) 1), .int .u64 (P.wrd (P.places zt g.prio g.prio.length &&& I) 2), .int .u64 (P.wrd (P.places zt g.prio g.prio.length &&& I) 3)]) | _ => fun _ _ _ => True) (fun _ _ _ _ => True) (KX w3.heap.size [qr]) 10 (by kernel_rfl) (by rfl) (by kernel_rfl) (by rfl) ?_ ?_ ?_ ?_
      · refine ⟨?_, ?_, ?_, ?_, ?_, ?_, ?_, ?_, ?_, ?_, ?_, trivial⟩
        · intro A w' K vals h hn hT hgk hK0
          have r0 : A.tmps[0]?.getD undef = .pointer (some ⟨qs, 0, none⟩) := Rg.slot h.1
          clear h hn hT hgk
          simp [Oper.wp, execOp, go_sem, r0]
          exact hK0 _ _ (Rk.Keeps.refl _ _) rfl trivial
        · intro A w' K vals h hn hT hgk hK0
          have r0 : A.tmps[27]?.getD undef = vals 0 := Rg.slot h.1
          have s0 : vals 0 = .pointer (some ⟨qs, 0, none⟩) := hn.1
          clear h hn hT hgk
          simp [Oper.wp, execOp, go_sem, r0, s0]
          exact hK0 _ _ (Rk.Keeps.refl _ _) rfl trivial
        · intro A w' K vals h hn hT hgk hK0
          have r0 : A.tmps[28]?.getD undef = vals 1 := Rg.slot h.1
          have s0 : vals 1 = .pointer (some ⟨qs, 0, none⟩) := hn.1
          clear h hn hT hgk
          simp [Oper.wp, execOp, go_sem, r0, s0]
          exact hK0 _ _ (Rk.Keeps.refl _ _) rfl trivial
        · intro A w' K vals h hn hT hgk hK0
          have r0 : A.tmps[29]?.getD undef = vals 2 := Rg.slot h.1
          have r1 : vals 2 = (.pointer (some ⟨qs, 0, none⟩)) := hn.1
          have bs := kx_box hgk HS.out.box HS.out.box.lt (by have h1 := NQsr.out; simp [h1])
          have cc0 : w'.cell? ⟨qs, 0, none⟩ = some (.slice (some ⟨ba, oa, none⟩) n ka) := bs.cell 0 _ rfl
          have cc1 : w'.cell? ⟨qs, 1, none⟩ = some (.slice (some ⟨bb, ob, none⟩) n kb) := bs.cell 1 _ rfl
          have cc2 : w'.cell? ⟨qs, 2, none⟩ = some (.slice (some ⟨bc_, oc, none⟩) n kc) := bs.cell 2 _ rfl
          clear h hn hT hgk bs
          simp [Oper.wp, execOp, go_sem, r0, r1, cc0, cc1, cc2]
          exact hK0 _ _ (Rk.Keeps.refl _ _) rfl trivial
        · intro A w' K vals h hn hT hgk hK0
          have r0 : A.tmps[6]?.getD undef = .int .i64 zt := Rg.slot h.1
          clear h hn hT hgk
          simp [Oper.wp, execOp, go_sem, r0]
          exact hK0 _ _ (Rk.Keeps.refl _ _) rfl trivial
        · intro A w' K vals h hn hT hgk hK0
          have r0 : A.tmps[30]?.getD undef = vals 3 := Rg.slot h.2.1
          have r1 : A.tmps[31]?.getD undef = vals 4 := Rg.slot h.2.2.1
          have s0 : vals 3 = .agg #[.slice (some ⟨ba, oa, none⟩) n ka, .slice (some ⟨bb, ob, none⟩) n kb, .slice (some ⟨bc_, oc, none⟩) n kc] := hn.1
          have s1 : vals 4 = .int .i64 zt := hn.2.1
          have hb := HS.out.low.trans (kx_below hgk (fun x hx => by have h1 := List.mem_singleton.1 hx; have h2 := HLR.out; omega) HS.out.low.size (Nat.le_refl _))
          clear h hn hT hgk
          simp [Oper.wp, go_sem, r0, r1, s0, s1]
          refine (at_any g _ zt w' (HV.out.on hb)).mono ?_
          rintro e w'' ⟨rfl, hb⟩
          exact hK0 _ _ (Rk.keep_of (grown_of_below hb _)) rfl trivial
        · intro A w' K vals h hn hT hgk hK0
          have r0 : A.tmps[3]?.getD undef = (.pointer (some ⟨qi, 0, none⟩)) := Rg.slot h.1
          have bs := kx_box hgk BQi.out BQi.out.lt (by have h1 := NQir.out; simp [h1])
          have cc0 : w'.cell? ⟨qi, 0, none⟩ = some (.int .u64 (P.wrd I 0)) := bs.cell 0 _ rfl
          have cc1 : w'.cell? ⟨qi, 1, none⟩ = some (.int .u64 (P.wrd I 1)) := bs.cell 1 _ rfl
          have cc2 : w'.cell? ⟨qi, 2, none⟩ = some (.int .u64 (P.wrd I 2)) := bs.cell 2 _ rfl
          have cc3 : w'.cell? ⟨qi, 3, none⟩ = some (.int .u64 (P.wrd I 3)) := bs.cell 3 _ rfl
          clear h hn hT hgk bs
          simp [Oper.wp, execOp, go_sem, r0, cc0, cc1, cc2, cc3]
          exact hK0 _ _ (Rk.Keeps.refl _ _) rfl trivial
        · intro A w' K vals h hn hT hgk hK0
          have r0 : A.tmps[32]?.getD undef = vals 5 := Rg.slot h.2.1
          have r1 : A.tmps[33]?.getD undef = vals 6 := Rg.slot h.2.2.1
          have s0 : vals 5 = .agg #[.int .u64 (P.wrd (P.places zt g.prio g.prio.length) 0), .int .u64 (P.wrd (P.places zt g.prio g.prio.length) 1), .int .u64 (P.wrd (P.places zt g.prio g.prio.length) 2), .int .u64 (P.wrd (P.places zt g.prio g.prio.length) 3)] := hn.1
          have s1 : vals 6 = .agg #[.int .u64 (P.wrd I 0), .int .u64 (P.wrd I 1), .int .u64 (P.wrd I 2), .int .u64 (P.wrd I 3)] := hn.2.1
          clear h hn hT hgk
          simp [Oper.wp, go_sem, r0, r1, s0, s1]
          refine (and_any _ _ w').mono ?_
          rintro e w'' ⟨rfl, hb⟩
          exact hK0 _ _ (Rk.keep_of (grown_of_below hb _)) rfl trivial
        · intro A w' K vals h hn hT hgk hK0
          have r0 : A.tmps[6]?.getD undef = .int .i64 zt := Rg.slot h.1
          clear h hn hT hgk
          simp [Oper.wp, execOp, go_sem, r0]
          exact hK0 _ _ (Rk.Keeps.refl _ _) rfl trivial
        · intro A w' K vals h hn hT hgk hK0
          have r0 : A.tmps[35]?.getD undef = vals 8 := Rg.slot h.1
          have s0 : vals 8 = .int .i64 zt := hn.1
          clear h hn hT hgk
          simp [Oper.wp, execOp, go_sem, r0, s0, fr]
          exact hK0 _ _ (Rk.Keeps.refl _ _) rfl trivial
        · intro A w' K vals h hn hT hgk hK0
          have r0 : A.tmps[4]?.getD undef = (.pointer (some ⟨qr, 0, none⟩)) := Rg.slot h.1
          have r1 : A.tmps[34]?.getD undef = vals 7 := Rg.slot h.2.1
          have s0 : vals 7 = .agg #[.int .u64 (P.wrd (P.places zt g.prio g.prio.length &&& I) 0), .int .u64 (P.wrd (P.places zt g.prio g.prio.length &&& I) 1), .int .u64 (P.wrd (P.places zt g.prio g.prio.length &&& I) 2), .int .u64 (P.wrd (P.places zt g.prio g.prio.length &&& I) 3)] := hn.1
          have bs := BQr.out.keep (Rk.grown_of hgk)
          have rc0 : w'.cell? ⟨qr, 0, none⟩ = some (.int .u64 0) := bs.cell 0 _ rfl
          have rc1 : w'.cell? ⟨qr, 1, none⟩ = some (.int .u64 0) := bs.cell 1 _ rfl
          have rc2 : w'.cell? ⟨qr, 2, none⟩ = some (.int .u64 0) := bs.cell 2 _ rfl
          have rc3 : w'.cell? ⟨qr, 3, none⟩ = some (.int .u64 0) := bs.cell 3 _ rfl
          have rf0 : w'.frozen? ⟨qr, 0, none⟩ = false := bs.frozen 0
          have rf1 : w'.frozen? ⟨qr, 1, none⟩ = false := bs.frozen 1
          have rf2 : w'.frozen? ⟨qr, 2, none⟩ = false := bs.frozen 2
          have rf3 : w'.frozen? ⟨qr, 3, none⟩ = false := bs.frozen 3
          clear h hn hT hgk
          have hK1 := hK0 undef ((((w'.setCell ⟨qr, 0, none⟩ (.int .u64 (P.wrd (P.places zt g.prio g.prio.length &&& I) 0))).setCell ⟨qr, 1, none⟩ (.int .u64 (P.wrd (P.places zt g.prio g.prio.length &&& I) 1))).setCell ⟨qr, 2, none⟩ (.int .u64 (P.wrd (P.places zt g.prio g.prio.length &&& I) 2))).setCell ⟨qr, 3, none⟩ (.int .u64 (P.wrd (P.places zt g.prio g.prio.length &&& I) 3))) (kx4 _ _ _ _ (.inl (by simp))) ((((bs.set 0 (.int .u64 (P.wrd (P.places zt g.prio g.prio.length &&& I) 0))).set 1 (.int .u64 (P.wrd (P.places zt g.prio g.prio.length &&& I) 1))).set 2 (.int .u64 (P.wrd (P.places zt g.prio g.prio.length &&& I) 2))).set 3 (.int .u64 (P.wrd (P.places zt g.prio g.prio.length &&& I) 3))) trivial
          clear hK0 bs
          simp [Oper.wp, execOp, go_sem, r0, r1, s0, rc0, rc1, rc2, rc3, rf0, rf1, rf2, rf3]
          exact hK1
      · refine ⟨?_, ?_, ?_, ?_, ?_, ?_, ?_, ?_, ?_, ?_, ?_, trivial⟩
        · exact fun _ _ _ _ _ _ h => h
        · exact fun _ _ _ _ _ _ h => h
        · exact fun _ _ _ _ _ _ h => h
        · exact fun _ _ _ _ _ _ h => h
        · exact fun _ _ _ _ _ _ h => h
        · exact fun _ _ _ _ _ _ h => h
        · exact fun _ _ _ _ _ _ h => h
        · exact fun _ _ _ _ _ _ h => h
        · exact fun _ _ _ _ _ _ h => h
        · exact fun _ _ _ _ _ _ h => h
        · exact fun _ _ _ _ _ h hb => hb.keep (Rk.grown_of h)
      · exact fun _ _ _ _ _ _ h => h
      · intro vals w8 G hgk hS hG
        have s9 : vals 9 = (.int .i64 pl) := hS.2.2.2.2.2.2.2.2.2.1
        have BZ : Box w8 qr 45 #[.int .u64 (P.wrd (P.places zt g.prio g.prio.length &&& I) 0), .int .u64 (P.wrd (P.places zt g.prio g.prio.length &&& I) 1), .int .u64 (P.wrd (P.places zt g.prio g.prio.length &&& I) 2), .int .u64 (P.wrd (P.places zt g.prio g.prio.length &&& I) 3)] := hS.2.2.2.2.2.2.2.2.2.2.1
        clear hS
        have WZ := Lib.hid (W.out.trans (kx_below hgk (fun x hx => by have h1 := List.mem_singleton.1 hx; have h2 := LTir.out; have h3 := LEi.out; omega) W.out.size (Nat.le_refl _)))
        clear hgk
        refine hG ?_
        clear hG
        simp only [List.take, List.drop, List.length, Nat.reduceSub, Nat.reduceAdd, Rg.putAll, Act.put, List.setIfInBounds_toArray, List.set_cons_succ, List.set_cons_zero, s9]
        clear s9
        have zc0 : w8.cell? ⟨qr, 0, none⟩ = some (.int .u64 (P.wrd (P.places zt g.prio g.prio.length &&& I) 0)) := BZ.cell 0 _ rfl
        have zc1 : w8.cell? ⟨qr, 1, none⟩ = some (.int .u64 (P.wrd (P.places zt g.prio g.prio.length &&& I) 1)) := BZ.cell 1 _ rfl
        have zc2 : w8.cell? ⟨qr, 2, none⟩ = some (.int .u64 (P.wrd (P.places zt g.prio g.prio.length &&& I) 2)) := BZ.cell 2 _ rfl
        have zc3 : w8.cell? ⟨qr, 3, none⟩ = some (.int .u64 (P.wrd (P.places zt g.prio g.prio.length &&& I) 3)) := BZ.cell 3 _ rfl
        have HCE := Lib.hid (And.intro zc0 (And.intro zc1 (And.intro zc2 zc3)))
        clear BZ zc0 zc1 zc2 zc3
        go_wp2_with fail
        obtain ⟨zc0, zc1, zc2, zc3⟩ := HCE.out
        refine bodyPost_ret (v := .tuple #[.agg #[.int .u64 (P.wrd (P.places zt g.prio g.prio.length &&& I) 0), .int .u64 (P.wrd (P.places zt g.prio g.prio.length &&& I) 1), .int .u64 (P.wrd (P.places zt g.prio g.prio.length &&& I) 2), .int .u64 (P.wrd (P.places zt g.prio g.prio.length &&& I) 3)], .int .i64 pl]) (by simp [results, Tryd.results46, go_sem, zc0, zc1, zc2, zc3]) rfl ⟨zt, (P.places zt g.prio g.prio.length &&& I), by rw [HPL.out], HZT.out.1, HZT.out.2.1, HZT.out.2.2, HZ0.out, WZ.out⟩

end W
end Go.Proofs.YtpjmboonaciplaaDoor
