/- DecompPart: the walk. -/
import Derived.Test.YtpjmboonaciplaaDoorShown13
import Derived.Test.YtpjmboonaciplaaDoorDecPt
import Derived.Test.YtpjmboonaciplaaDoorSubW
import Derived.Test.YtpjmboonaciplaaDoorCls
import Derived.Test.YtpjmboonaciplaaDoorKeep
import Derived.Test.YtpjmboonaciplaaDoorSam
import Derived.Deep.Cut
import Derived.Lib.Hide
import Derived.Deep.QuietTactic
import Derived.BigQuiet
import Derived.StillTailTactics
namespace Go.Proofs.YtpjmboonaciplaaDoor
open Go.RowKit
namespace W

theorem ROWS.ints {w : World} {lo n : Nat} {g : P.G} {p : Int} {S : BitVec 256} {c : List Int} {r : Value} {b : Nat} (h : ROWS w lo n g p S c r b) : Ints w r (lstI S) := by
  have hl : (lstI S).length = (P.lst S).length := by unfold lstI; rw [List.length_map]
  refine OwnI.ints (lo := lo) ?_ ?_
  · unfold OwnI
    rw [hl]
    exact h.1
  · rw [hl]
    unfold P.lst
    exact Nat.le_trans (List.length_filter_le _ _) (by simp)
theorem lstI_len (S : BitVec 256) : (lstI S).length = (P.lst S).length := by unfold lstI; rw [List.length_map]
theorem lst_short (S : BitVec 256) : (P.lst S).length ≤ 256 := by unfold P.lst; exact Nat.le_trans (List.length_filter_le _ _) (by simp)

def tupP (v : Value) (i : Nat) : Value := match v with
  | .tuple cs => cs.getD i undef
  | _ => undef
theorem ofL_lstI (S : BitVec 256) : P.ofL (lstI S) = S := P.set_ext fun x hx => by
  rw [P.getLsbD_ofL _ x hx, decide_eq_true_eq]
  unfold lstI
  rw [List.mem_map]
  constructor
  · rintro ⟨j, h1, h2⟩
    obtain rfl : j = x := by omega
    exact (P.mem_lst S j).1 h1
  · exact fun h => ⟨x, (P.mem_lst S x).2 h, rfl⟩
theorem lst_full_len {S : BitVec 256} {m : Nat} (h : ∀ i, P.Bit S i ↔ i < m) (hm : m ≤ 200) : (P.lst S).length = m := by
  unfold P.lst
  have hr : List.range 256 = List.range m ++ (List.range (256 - m)).map (m + ·) := by
    rw [← List.range_add]
    congr 1
    omega
  have hz : ((List.range (256 - m)).map (m + ·)).filter (fun j => S.getLsbD j) = [] := List.filter_eq_nil_iff.2 fun i hi hb => by
    obtain ⟨j, -, rfl⟩ := List.mem_map.1 hi
    have := (h (m + j)).1 hb
    omega
  have hf : (List.range m).filter (fun j => S.getLsbD j) = List.range m := List.filter_eq_self.2 fun i hi => (h i).2 (List.mem_range.1 hi)
  rw [hr, List.filter_append, hz, hf, List.append_nil, List.length_range]
theorem dec_parts {g : P.G} (hr : g.Right) {n : Nat} (hn : g.owner.length = n) {X Y : BitVec 256} {c c1 : List Int} (h : P.Ap g 0 (P.full (n : Int)) X Y c c1) :
    ((∀ i, P.Bit X i → i < g.owner.length) ∧ ∃ mv, P.WinsIn g (· < g.owner.length) 0 mv (P.Bit X)) ∧ (∀ i, P.Bit Y i → i < g.owner.length) ∧ ∃ mv, P.WinsIn g (· < g.owner.length) 1 mv (P.Bit Y) := by
  have hb := (P.full_bits hr hn).1
  subst hn
  have e : (1 : Int) - 0 = 1 := by decide
  have h2 := h.his
  rw [e] at h2
  exact ⟨⟨fun i hi => (hb i).1 (h.mine.sub i hi), _, h.mine.iff hb fun _ => Iff.rfl⟩, fun i hi => (hb i).1 (h2.sub i hi), _, h2.iff hb fun _ => Iff.rfl⟩
theorem part_lens {g : P.G} (hr : g.Right) {s : BitVec 256} {p : Int} {mv : Nat → Int} (hs : ∀ i, P.Bit s i → i < g.owner.length) (h : P.WinsIn g (· < g.owner.length) p mv (P.Bit s)) (hp : p = 0 ∨ p = 1) {m : Nat} (hr2 : (g.part s).Right) (hm1 : (g.part s).owner.length = m) (hm : (g.old s).length = m) (hm2 : m ≤ 200) {X Y : BitVec 256} {c c1 : List Int} (ap : P.Ap (g.part s) 0 (P.full (m : Int)) X Y c c1) :
    (P.lst (if p = 0 then X else Y)).length = m ∧ (P.lst (if p = 0 then Y else X)).length = 0 := by
  obtain ⟨h1, h2⟩ := P.part_all hr hs h hp hm (ap.solved fun i => (P.full_bits hr2 hm1).1 i)
  refine ⟨lst_full_len h1 hm2, ?_⟩
  rw [List.length_eq_zero_iff]
  exact List.eq_nil_iff_forall_not_mem.2 fun i hi => h2 i ((P.mem_lst _ _).1 hi)

set_option maxRecDepth 100000 in
set_option maxHeartbeats 8000000 in
theorem part_right_ (g : P.G) (hr : g.Right) (v : Value) (w : World) (hv : GameV w v g) (hT : Tab w) : Calls Tryd.prog 8 #[v] w fun e w' => e = .returned (.bool true) ∧ Below w.heap.size w w' := by
  have hq0 : g.right.2 = 0 := by have hok := (P.G.ok_iff g).2 hr; unfold P.G.ok at hok; exact beq_iff_eq.1 hok
  have HV := Lib.hid hv
  have HFI := Lib.hid hv.fits
  have T := Lib.hid hT
  have HR := Lib.hid hr
  obtain ⟨n, hn⟩ : ∃ n, g.owner.length = n := ⟨_, rfl⟩
  have hop := hr.prio
  have hmp := hr.moves
  have hmany := hr.many
  have h0 := hr.pos
  rw [hn] at hop hmp hmany h0
  obtain ⟨ba, oa, ka, bb, ob, kb, bc_, oc, kc, rfl, -, -, -⟩ := hv.open_ hn hop hmp h0
  have HN := Lib.hid hn
  clear hr hn hop hmp hv hT
  go_enter Tryd.func8, Tryd.ntmps8
  go_wp2_with fail
  have bx0 : Box (w.alloc (.cells #[.slice (some ⟨ba, oa, none⟩) n ka, .slice (some ⟨bb, ob, none⟩) n kb, .slice (some ⟨bc_, oc, none⟩) n kc] 25)) (w.heap.size) 25 #[.slice (some ⟨ba, oa, none⟩) n ka, .slice (some ⟨bb, ob, none⟩) n kb, .slice (some ⟨bc_, oc, none⟩) n kc] := Box.new w 25 #[.slice (some ⟨ba, oa, none⟩) n ka, .slice (some ⟨bb, ob, none⟩) n kb, .slice (some ⟨bc_, oc, none⟩) n kc]
  have hbq : Below w.heap.size w (w.alloc (.cells #[.slice (some ⟨ba, oa, none⟩) n ka, .slice (some ⟨bb, ob, none⟩) n kb, .slice (some ⟨bc_, oc, none⟩) n kc] 25)) := (Below.refl _ w).alloc (Nat.le_refl _) _
  have hle0 : w.heap.size ≤ w.heap.size := Nat.le_refl _
  generalize (w.alloc (.cells #[.slice (some ⟨ba, oa, none⟩) n ka, .slice (some ⟨bb, ob, none⟩) n kb, .slice (some ⟨bc_, oc, none⟩) n kc] 25)) = w0 at bx0 hbq  ⊢
  have BQg := Lib.hid bx0
  have W := Lib.hid hbq
  have LEg := Lib.hid hle0
  clear hbq hle0 bx0 
  obtain ⟨qg, hqg⟩ : ∃ qg, w.heap.size = qg := ⟨_, rfl⟩
  rw [hqg] at BQg ⊢
  have LEg : Hid (w.heap.size ≤ qg) := Lib.hid (by omega)
  clear hqg
  refine (shown_any w0 (T.out.on W.out)).mono ?_
  rintro e w1 ⟨rfl, hb⟩
  replace BQg := Lib.hid (BQg.out.keep (grown_of_below hb none))
  replace W := Lib.hid (W.out.trans (hb.mono W.out.size))
  clear hb
  have hbb := BQg.out
  have gc0 : w1.cell? ⟨qg, 0, none⟩ = some (.slice (some ⟨ba, oa, none⟩) n ka) := hbb.cell 0 _ rfl
  have gc1 : w1.cell? ⟨qg, 1, none⟩ = some (.slice (some ⟨bb, ob, none⟩) n kb) := hbb.cell 1 _ rfl
  have gc2 : w1.cell? ⟨qg, 2, none⟩ = some (.slice (some ⟨bc_, oc, none⟩) n kc) := hbb.cell 2 _ rfl
  clear hbb
  go_wp2_with fail
  clear gc0 gc1 gc2
  refine (right_any g _ _ (HV.out.on W.out)).mono ?_
  rintro e w2 ⟨rfl, hb⟩
  replace BQg := Lib.hid (BQg.out.keep (grown_of_below hb none))
  replace W := Lib.hid (W.out.trans (hb.mono W.out.size))
  clear hb
  obtain ⟨z, hz⟩ : ∃ z, g.right.2 = z := ⟨_, rfl⟩
  rw [hz] at hq0 ⊢
  have fq : (((z : Nat) : Int) != 0) = false := by rw [bne_eq_false_iff_eq]; omega
  clear hz hq0
  have hbb := BQg.out
  have gc0 : w2.cell? ⟨qg, 0, none⟩ = some (.slice (some ⟨ba, oa, none⟩) n ka) := hbb.cell 0 _ rfl
  have gc1 : w2.cell? ⟨qg, 1, none⟩ = some (.slice (some ⟨bb, ob, none⟩) n kb) := hbb.cell 1 _ rfl
  have gc2 : w2.cell? ⟨qg, 2, none⟩ = some (.slice (some ⟨bc_, oc, none⟩) n kc) := hbb.cell 2 _ rfl
  clear hbb
  go_wp2_with fail
  clear gc0 gc1 gc2
  refine (decomp_any g HR.out n HN.out _ w2 (HV.out.on W.out) (T.out.on W.out)).mono ?_
  rintro e w3 ⟨Xa, Ya, cha, depa, ra0, ra1, ba0, ba1, rfl, hd, hb⟩
  obtain ⟨xa0, ka0, rfl, -⟩ := own_at hd.zero.1
  obtain ⟨xa1, ka1, rfl, -⟩ := own_at hd.one.1
  have Da := Lib.hid hd
  have Ia0 := Lib.hid hd.zero.ints
  have Ia1 := Lib.hid hd.one.ints
  replace BQg := Lib.hid (BQg.out.keep (grown_of_below hb none))
  replace W := Lib.hid (W.out.trans (hb.mono W.out.size))
  clear hb hd
  go_upto_region 6 with (fail)
  have bq : Box (w3.alloc (.cells #[.slice xa0 (P.lst Xa).length ka0, .slice xa1 (P.lst Ya).length ka1, .slice (some ⟨ba0, 0, none⟩) n n, .slice (some ⟨ba1, 0, none⟩) n n] 32)) w3.heap.size 32 #[.slice xa0 (P.lst Xa).length ka0, .slice xa1 (P.lst Ya).length ka1, .slice (some ⟨ba0, 0, none⟩) n n, .slice (some ⟨ba1, 0, none⟩) n n] := Box.new _ _ _
  have hgq := World.grownBy_alloc w3 (.cells #[.slice xa0 (P.lst Xa).length ka0, .slice xa1 (P.lst Ya).length ka1, .slice (some ⟨ba0, 0, none⟩) n n, .slice (some ⟨ba1, 0, none⟩) n n] 32) none
  replace BQg := Lib.hid (BQg.out.keep hgq)
  replace W := Lib.hid (W.out.trans ((below_of_grown hgq).mono W.out.size))
  replace Ia0 := Lib.hid (Ia0.out.on (below_of_grown hgq))
  replace Ia1 := Lib.hid (Ia1.out.on (below_of_grown hgq))
  generalize (w3.alloc (.cells #[.slice xa0 (P.lst Xa).length ka0, .slice xa1 (P.lst Ya).length ka1, .slice (some ⟨ba0, 0, none⟩) n n, .slice (some ⟨ba1, 0, none⟩) n n] 32)) = wb at bq BQg W Ia0 Ia1 ⊢
  generalize w3.heap.size = qa at bq ⊢
  have BQa := Lib.hid bq
  clear bq hgq
  go_wp2_with fail
  go_loopw [8] (fun pv wq => Below wb.heap.size wb wq ∧ (pv = .int .i64 0 ∨ pv = .int .i64 1 ∨ pv = .int .i64 2)) (fun pv _ => 2 - (intOf pv).toNat)
  case atStart => exact ⟨Below.refl _ _, .inl rfl⟩
  case round =>
    obtain ⟨hbb, hst⟩ := hrel
    have HB := Lib.hid hbb
    obtain ⟨wp, hwp⟩ : ∃ wp : World, wp = wr := ⟨_, rfl⟩
    rw [← hwp] at HB ⊢
    clear hbb hwp
    rcases hst with rfl | rfl | rfl
    · obtain ⟨m, hm⟩ : ∃ k, (P.lst Xa).length = k := ⟨_, rfl⟩
      have BQm := Lib.hid (show Box wp qa 32 #[.slice xa0 m ka0, .slice xa1 (P.lst Ya).length ka1, .slice (some ⟨ba0, 0, none⟩) n n, .slice (some ⟨ba1, 0, none⟩) n n] by rw [← hm]; exact BQa.out.keep (grown_of_below HB.out none))
      have HM := Lib.hid hm
      clear hm
      have hbb := BQm.out
      have pc0 : wp.cell? ⟨qa, 0, none⟩ = some (.slice xa0 m ka0) := hbb.cell 0 _ rfl
      have pc1 : wp.cell? ⟨qa, 1, none⟩ = some (.slice xa1 (P.lst Ya).length ka1) := hbb.cell 1 _ rfl
      have pc2 : wp.cell? ⟨qa, 2, none⟩ = some (.slice (some ⟨ba0, 0, none⟩) n n) := hbb.cell 2 _ rfl
      have pc3 : wp.cell? ⟨qa, 3, none⟩ = some (.slice (some ⟨ba1, 0, none⟩) n n) := hbb.cell 3 _ rfl
      clear hbb
      by_cases hm0 : m = 0
      · have fm : (((m : Nat) : Int) == 0) = true := by rw [beq_iff_eq]; omega
        go_wp2_with fail
        clear pc0 pc1 pc2 pc3
        go_roundw
        case rel => exact ⟨HB.out, .inr (.inl (by first | rfl | go_num))⟩
        case measure => simp [intOf]
      · have fm : (((m : Nat) : Int) == 0) = false := by rw [beq_eq_false_iff_ne]; omega
        have hwn := (dec_parts HR.out HN.out Da.out.ap).1
        obtain ⟨hsn, mvp, hwp⟩ := hwn
        have HWP := Lib.hid (And.intro hsn hwp)
        have hex : ∃ i, P.Bit Xa i := Classical.byContradiction fun hc => hm0 (by
          rw [← HM.out, List.length_eq_zero_iff]
          refine List.eq_nil_iff_forall_not_mem.2 fun i hi => hc ⟨i, (P.mem_lst _ _).1 hi⟩)
        have hhas := P.part_has HR.out hsn hwp hex
        have holen : (g.old Xa).length = m := by unfold P.G.old; rw [P.full_and hsn]; exact HM.out
        have HOF := Lib.hid (show P.ofL (lstI Xa) = Xa from ofL_lstI Xa)
        have HFW := Lib.hid (show FW g Xa = (g.part Xa) ∧ OLW g Xa = ((g.old Xa).map fun (i : Nat) => (i : Int)) ∧ g.has Xa = true ∧ True from ⟨by unfold FW; rw [if_pos hhas], by unfold OLW; rw [if_pos hhas], hhas, trivial⟩)
        have hplen : ((g.part Xa)).owner.length = m ∧ ((g.part Xa)).prio.length = m ∧ ((g.part Xa)).moves.length = m := by rw [P.part_eq]; exact ⟨by rw [List.length_map]; exact holen, by rw [List.length_map]; exact holen, by rw [List.length_map]; exact holen⟩
        have HLE := Lib.hid (show ((g.part Xa)).owner.length = m ∧ ((g.part Xa)).prio.length = m ∧ ((g.part Xa)).moves.length = m ∧ ((g.old Xa).map fun (i : Nat) => (i : Int)).length = m from ⟨hplen.1, hplen.2.1, hplen.2.2, by rw [List.length_map]; exact holen⟩)
        have HPR := Lib.hid (And.intro (P.part_right HR.out hhas) hplen.1)
        have hmany2 : m ≤ 200 := by have := HPR.out.1.many; omega
        have HFP := Lib.hid (fits_part HFI.out Xa)
        have IRm := Lib.hid (show Ints wp (.slice xa0 m ka0) (lstI Xa) by rw [← HM.out]; exact Ia0.out.on HB.out)
        have HOL := Lib.hid holen
        clear hsn hwp hex hhas holen hplen
        replace W := Lib.hid (W.out.trans (HB.out.mono W.out.size))
        replace BQg := Lib.hid (BQg.out.keep (grown_of_below HB.out none))
        go_upto_region 10 with (fail)
        clear pc0 pc1 pc2 pc3
        refine Rt.wp_region_tail 1 (fun idx => match idx with | 0 => (fun v _ _ => v = .agg #[.slice (some ⟨ba, oa, none⟩) n ka, .slice (some ⟨bb, ob, none⟩) n kb, .slice (some ⟨bc_, oc, none⟩) n kc]) | 1 => (fun v _ _ => v = (.int .i64 0)) | 2 => (fun v _ _ => v = (.pointer (some ⟨qa, 0, none⟩))) | 3 => (fun v _ _ => v = (.pointer (some ⟨qa, 0, none⟩))) | 4 => (fun v _ _ => v = (.slice xa0 m ka0)) | 5 => (fun v _ _ => v = .agg #[.int .u64 (P.wrd Xa 0), .int .u64 (P.wrd Xa 1), .int .u64 (P.wrd Xa 2), .int .u64 (P.wrd Xa 3)]) | 6 => (fun v _ w' => (∃ a1 k1 b1 k2 c1 k3 x1 k4 L, v = .tuple #[.agg #[.slice a1 m k1, .slice b1 m k2, .slice c1 m k3], .slice x1 m k4, .bool true] ∧ OwnG w' wp.heap.size (.slice a1 m k1) (.slice b1 m k2) (.slice c1 m k3) L (g.part Xa) ∧ OwnI w' wp.heap.size (.slice x1 m k4) ((g.old Xa).map fun (i : Nat) => (i : Int)))) | 7 => (fun v ds w' => v = ds.getD 0 undef ∧ (∃ a1 k1 b1 k2 c1 k3 x1 k4 L, v = .tuple #[.agg #[.slice a1 m k1, .slice b1 m k2, .slice c1 m k3], .slice x1 m k4, .bool true] ∧ OwnG w' wp.heap.size (.slice a1 m k1) (.slice b1 m k2) (.slice c1 m k3) L (g.part Xa) ∧ OwnI w' wp.heap.size (.slice x1 m k4) ((g.old Xa).map fun (i : Nat) => (i : Int)))) | 8 => (fun v ds _ => v = tupP (ds.getD 0 undef) 0) | 9 => (fun v ds _ => v = tupP (ds.getD 0 undef) 1) | 10 => (fun v ds _ => v = tupP (ds.getD 0 undef) 2) | 11 => (fun v _ _ => ∃ q, v = .pointer (some ⟨q, 0, none⟩) ∧ wp.heap.size ≤ q) | 12 => (fun _ ds w' => ∃ q a1 k1 b1 k2 c1 k3, ds.getD 0 undef = .pointer (some ⟨q, 0, none⟩) ∧ ds.getD 1 undef = .agg #[.slice a1 m k1, .slice b1 m k2, .slice c1 m k3] ∧ Box w' q 25 #[.slice a1 m k1, .slice b1 m k2, .slice c1 m k3]) | 13 => (fun v ds _ => v = ds.getD 0 undef) | _ => fun _ _ _ => True) (fun idx => match idx with | 11 => (fun v _ w' => ∃ q, v = .pointer (some ⟨q, 0, none⟩) ∧ Box w' q 25 #[.slice none 0 0, .slice none 0 0, .slice none 0 0]) | _ => fun _ _ _ => True) (KG wp.heap.size 25) 12 (by kernel_rfl) (by rfl) (by kernel_rfl) (by rfl) ?_ ?_ ?_ ?_
        · refine ⟨?_, ?_, ?_, ?_, ?_, ?_, ?_, ?_, ?_, ?_, ?_, ?_, ?_, ?_, trivial⟩
          · intro A w' K vals h hn hT hgk hK0
            have r0 : A.tmps[1]?.getD undef = (.pointer (some ⟨qg, 0, none⟩)) := Rg.slot h.1
            have bs := BQg.out.keep (keeps_old hgk)
            have cc0 : w'.cell? ⟨qg, 0, none⟩ = some (.slice (some ⟨ba, oa, none⟩) n ka) := bs.cell 0 _ rfl
            have cc1 : w'.cell? ⟨qg, 1, none⟩ = some (.slice (some ⟨bb, ob, none⟩) n kb) := bs.cell 1 _ rfl
            have cc2 : w'.cell? ⟨qg, 2, none⟩ = some (.slice (some ⟨bc_, oc, none⟩) n kc) := bs.cell 2 _ rfl
            clear h hn hT hgk bs
            simp [Oper.wp, execOp, go_sem, r0, cc0, cc1, cc2]
            exact hK0 _ _ (Rk.Keeps.refl _ _) rfl trivial
          · intro A w' K vals h hn hT hgk hK0
            have r0 : A.tmps[8]?.getD undef = .int .i64 0 := Rg.slot h.1
            clear h hn hT hgk
            simp [Oper.wp, execOp, go_sem, r0]
            exact hK0 _ _ (Rk.Keeps.refl _ _) rfl trivial
          · intro A w' K vals h hn hT hgk hK0
            have r0 : A.tmps[6]?.getD undef = .pointer (some ⟨qa, 0, none⟩) := Rg.slot h.1
            clear h hn hT hgk
            simp [Oper.wp, execOp, go_sem, r0]
            exact hK0 _ _ (Rk.Keeps.refl _ _) rfl trivial
          · intro A w' K vals h hn hT hgk hK0
            have r0 : A.tmps[45]?.getD undef = vals 2 := Rg.slot h.1
            have s0 : vals 2 = (.pointer (some ⟨qa, 0, none⟩)) := hn.1
            have r1 : A.tmps[44]?.getD undef = vals 1 := Rg.slot h.2.1
            have s1 : vals 1 = (.int .i64 0) := hn.2.1
            clear h hn hT hgk
            simp [Oper.wp, execOp, go_sem, r0, r1, s0, s1]
            exact hK0 _ _ (Rk.Keeps.refl _ _) rfl trivial
          · intro A w' K vals h hn hT hgk hK0
            have r0 : A.tmps[46]?.getD undef = vals 3 := Rg.slot (h.1)
            have r1 : vals 3 = (.pointer (some ⟨qa, 0, none⟩)) := hn.1
            have c : w'.cell? ⟨qa, 0, none⟩ = some (.slice xa0 m ka0) := (BQm.out.keep (keeps_old hgk)).cell 0 _ rfl
            clear h hn hT hgk
            simp [Oper.wp, execOp, go_sem, r0, r1, c]
            exact hK0 _ _ (Rk.Keeps.refl _ _) rfl trivial
          · intro A w' K vals h hn hT hgk hK0
            have r0 : A.tmps[47]?.getD undef = vals 4 := Rg.slot h.2.1
            have s0 : vals 4 = (.slice xa0 m ka0) := hn.1
            have hb := below_of_grown (keeps_old hgk)
            clear h hn hT hgk
            simp [Oper.wp, go_sem, r0, s0]
            refine (of_ints (IRm.out.on hb)).mono ?_
            rintro e w'' ⟨rfl, hb⟩
            rw [HOF.out]
            exact hK0 _ _ (Rk.keep_of (grown_of_below hb _)) rfl trivial
          · intro A w' K vals h hn hT hgk hK0
            have r0 : A.tmps[43]?.getD undef = vals 0 := Rg.slot h.2.1
            have r1 : A.tmps[48]?.getD undef = vals 5 := Rg.slot h.2.2.1
            have s0 : vals 0 = .agg #[.slice (some ⟨ba, oa, none⟩) n ka, .slice (some ⟨bb, ob, none⟩) n kb, .slice (some ⟨bc_, oc, none⟩) n kc] := hn.1
            have s1 : vals 5 = .agg #[.int .u64 (P.wrd Xa 0), .int .u64 (P.wrd Xa 1), .int .u64 (P.wrd Xa 2), .int .u64 (P.wrd Xa 3)] := hn.2.1
            have hsz := hgk.size
            have hb := W.out.trans ((below_of_grown (keeps_old hgk)).mono W.out.size)
            clear h hn hT hgk
            simp [Oper.wp, go_sem, r0, r1, s0, s1]
            refine (subw_any g Xa _ w' (HV.out.on hb) (T.out.on hb)).mono ?_
            rintro e w'' ⟨u, rfl, hu, hb⟩
            have hu2 := hu.low hsz
            rw [HFW.out.1, HFW.out.2.1, HFW.out.2.2.1] at hu2
            obtain ⟨a1, k1, b1, k2, c1, k3, x1, k4, L, hv, ho, hi⟩ := hu2
            rw [HLE.out.1, HLE.out.2.1, HLE.out.2.2.1] at hv ho
            rw [HLE.out.2.2.2] at hv hi
            exact hK0 _ _ (Rk.keep_of (grown_of_below hb _)) ⟨a1, k1, b1, k2, c1, k3, x1, k4, L, hv, ho, hi⟩ trivial
          · intro A w' K vals h hn hT hgk hK0
            have r0 : A.tmps[49]?.getD undef = vals 6 := Rg.slot h.1
            have n3 : (∃ a1 k1 b1 k2 c1 k3 x1 k4 L, (vals 6) = .tuple #[.agg #[.slice a1 m k1, .slice b1 m k2, .slice c1 m k3], .slice x1 m k4, .bool true] ∧ OwnG w' wp.heap.size (.slice a1 m k1) (.slice b1 m k2) (.slice c1 m k3) L (g.part Xa) ∧ OwnI w' wp.heap.size (.slice x1 m k4) ((g.old Xa).map fun (i : Nat) => (i : Int))) := hn.1
            clear h hn hT hgk
            simp [Oper.wp, execOp, go_sem, r0]
            exact hK0 _ _ (Rk.Keeps.refl _ _) ⟨rfl, n3⟩ trivial
          · intro A w' K vals h hn hT hgk hK0
            have r0 : A.tmps[42]?.getD undef = vals 7 := Rg.slot h.1
            obtain ⟨a1, k1, b1, k2, c1, k3, x1, k4, L, hv, -, -⟩ : (∃ a1 k1 b1 k2 c1 k3 x1 k4 L, (vals 7) = .tuple #[.agg #[.slice a1 m k1, .slice b1 m k2, .slice c1 m k3], .slice x1 m k4, .bool true] ∧ OwnG w' wp.heap.size (.slice a1 m k1) (.slice b1 m k2) (.slice c1 m k3) L (g.part Xa) ∧ OwnI w' wp.heap.size (.slice x1 m k4) ((g.old Xa).map fun (i : Nat) => (i : Int))) := hn.1.2
            clear h hn hT hgk
            simp [Oper.wp, execOp, go_sem, r0, hv]
            refine hK0 _ _ (Rk.Keeps.refl _ _) ?_ trivial
            show _ = tupP (vals 7) 0
            rw [hv]
            rfl
          · intro A w' K vals h hn hT hgk hK0
            have r0 : A.tmps[42]?.getD undef = vals 7 := Rg.slot h.1
            obtain ⟨a1, k1, b1, k2, c1, k3, x1, k4, L, hv, -, -⟩ : (∃ a1 k1 b1 k2 c1 k3 x1 k4 L, (vals 7) = .tuple #[.agg #[.slice a1 m k1, .slice b1 m k2, .slice c1 m k3], .slice x1 m k4, .bool true] ∧ OwnG w' wp.heap.size (.slice a1 m k1) (.slice b1 m k2) (.slice c1 m k3) L (g.part Xa) ∧ OwnI w' wp.heap.size (.slice x1 m k4) ((g.old Xa).map fun (i : Nat) => (i : Int))) := hn.1.2
            clear h hn hT hgk
            simp [Oper.wp, execOp, go_sem, r0, hv]
            refine hK0 _ _ (Rk.Keeps.refl _ _) ?_ trivial
            show _ = tupP (vals 7) 1
            rw [hv]
            rfl
          · intro A w' K vals h hn hT hgk hK0
            have r0 : A.tmps[42]?.getD undef = vals 7 := Rg.slot h.1
            obtain ⟨a1, k1, b1, k2, c1, k3, x1, k4, L, hv, -, -⟩ : (∃ a1 k1 b1 k2 c1 k3 x1 k4 L, (vals 7) = .tuple #[.agg #[.slice a1 m k1, .slice b1 m k2, .slice c1 m k3], .slice x1 m k4, .bool true] ∧ OwnG w' wp.heap.size (.slice a1 m k1) (.slice b1 m k2) (.slice c1 m k3) L (g.part Xa) ∧ OwnI w' wp.heap.size (.slice x1 m k4) ((g.old Xa).map fun (i : Nat) => (i : Int))) := hn.1.2
            clear h hn hT hgk
            simp [Oper.wp, execOp, go_sem, r0, hv]
            refine hK0 _ _ (Rk.Keeps.refl _ _) ?_ trivial
            show _ = tupP (vals 7) 2
            rw [hv]
            rfl
          · intro A w' K vals h hn hT hgk hK0
            have hsz := hgk.size
            clear h hn hT
            simp [Oper.wp, execOp, go_sem]
            exact hK0 _ _ (Rk.keep_of (World.grownBy_alloc _ _ _)) ⟨_, rfl, hsz⟩ ⟨_, rfl, Box.new _ _ _⟩
          · intro A w' K vals h hn hT hgk hK0
            have r0 : A.tmps[9]?.getD undef = vals 11 := Rg.slot h.1
            have r1 : A.tmps[50]?.getD undef = vals 8 := Rg.slot h.2.1
            obtain ⟨q, hp, hbx⟩ : ∃ q, vals 11 = .pointer (some ⟨q, 0, none⟩) ∧ Box w' q 25 #[.slice none 0 0, .slice none 0 0, .slice none 0 0] := (hT rfl).1
            obtain ⟨p', hp', hlo⟩ : ∃ q, vals 11 = .pointer (some ⟨q, 0, none⟩) ∧ wp.heap.size ≤ q := hn.1
            have s5 : vals 8 = tupP (vals 7) 0 := hn.2.1
            obtain ⟨a1, k1, b1, k2, c1, k3, x1, k4, L, s3, ho, hi⟩ : (∃ a1 k1 b1 k2 c1 k3 x1 k4 L, (vals 7) = .tuple #[.agg #[.slice a1 m k1, .slice b1 m k2, .slice c1 m k3], .slice x1 m k4, .bool true] ∧ OwnG w' wp.heap.size (.slice a1 m k1) (.slice b1 m k2) (.slice c1 m k3) L (g.part Xa) ∧ OwnI w' wp.heap.size (.slice x1 m k4) ((g.old Xa).map fun (i : Nat) => (i : Int))) := hn.2.2.2.2.2.2.2.2.2.2.1.2
            rw [s3] at s5
            replace s5 : vals 8 = .agg #[.slice a1 m k1, .slice b1 m k2, .slice c1 m k3] := s5
            obtain rfl : p' = q := by rw [hp'] at hp; injection hp with hp; injection hp with hp; injection hp with hp
            clear h hn hT ho hi s3
            have qc0 : w'.cell? ⟨p', 0, none⟩ = some (.slice none 0 0) := hbx.cell 0 _ rfl
            have qc1 : w'.cell? ⟨p', 1, none⟩ = some (.slice none 0 0) := hbx.cell 1 _ rfl
            have qc2 : w'.cell? ⟨p', 2, none⟩ = some (.slice none 0 0) := hbx.cell 2 _ rfl
            have qf0 : w'.frozen? ⟨p', 0, none⟩ = false := hbx.frozen 0
            have qf1 : w'.frozen? ⟨p', 1, none⟩ = false := hbx.frozen 1
            have qf2 : w'.frozen? ⟨p', 2, none⟩ = false := hbx.frozen 2
            simp [Oper.wp, execOp, go_sem, r0, r1, hp', s5, qc0, qc1, qc2, qf0, qf1, qf2]
            refine hK0 undef _ (((keeps_set hbx hlo _ _).trans (keeps_set (hbx.set _ _) hlo _ _)).trans (keeps_set ((hbx.set _ _).set _ _) hlo _ _)) ⟨p', a1, k1, b1, k2, c1, k3, hp', s5, (((hbx.set 0 (.slice a1 m k1)).set 1 (.slice b1 m k2)).set 2 (.slice c1 m k3))⟩ trivial
          · intro A w' K vals h hn hT hgk hK0
            have r0 : A.tmps[51]?.getD undef = vals 9 := Rg.slot h.1
            clear h hn hT hgk
            simp [Oper.wp, execOp, go_sem, r0]
            exact hK0 _ _ (Rk.Keeps.refl _ _) rfl trivial
        · refine ⟨?_, ?_, ?_, ?_, ?_, ?_, ?_, ?_, ?_, ?_, ?_, ?_, ?_, ?_, trivial⟩
          · exact fun _ _ _ _ _ _ h => h
          · exact fun _ _ _ _ _ _ h => h
          · exact fun _ _ _ _ _ _ h => h
          · exact fun _ _ _ _ _ _ h => h
          · exact fun _ _ _ _ _ _ h => h
          · exact fun _ _ _ _ _ _ h => h
          · exact fun _ _ _ _ _ h ⟨a1, k1, b1, k2, c1, k3, x1, k4, L, h1, h2, h3⟩ => ⟨a1, k1, b1, k2, c1, k3, x1, k4, L, h1, h2.other h (by decide) (by decide), own_other h3 h (by decide)⟩
          · exact fun _ _ _ _ _ h ⟨h0, a1, k1, b1, k2, c1, k3, x1, k4, L, h1, h2, h3⟩ => ⟨h0, a1, k1, b1, k2, c1, k3, x1, k4, L, h1, h2.other h (by decide) (by decide), own_other h3 h (by decide)⟩
          · exact fun _ _ _ _ _ _ h => h
          · exact fun _ _ _ _ _ _ h => h
          · exact fun _ _ _ _ _ _ h => h
          · exact fun _ _ _ _ _ _ h => h
          · exact fun _ _ _ _ _ h ⟨q, a1, k1, b1, k2, c1, k3, h1, h2, hb⟩ => ⟨q, a1, k1, b1, k2, c1, k3, h1, h2, hb.keep (Rk.grown_of h)⟩
          · exact fun _ _ _ _ _ _ h => h
        · intro k v ds w w' hk h
          match k, h with
          | 11, h => exact ⟨h.choose, h.choose_spec.1, h.choose_spec.2.keep (Rk.grown_of hk)⟩
          | 0, _ | 1, _ | 2, _ | 3, _ | 4, _ | 5, _ | 6, _ | 7, _ | 8, _ | 9, _ | 10, _ | _ + 12, _ => trivial
        · intro vals w8 G hgk hS hG
          have hg := keeps_old hgk
          obtain ⟨a1, k1, b1, k2, c1, k3, x1, k4, L, s3, ho, hi⟩ : (∃ a1 k1 b1 k2 c1 k3 x1 k4 L, (vals 7) = .tuple #[.agg #[.slice a1 m k1, .slice b1 m k2, .slice c1 m k3], .slice x1 m k4, .bool true] ∧ OwnG w8 wp.heap.size (.slice a1 m k1) (.slice b1 m k2) (.slice c1 m k3) L (g.part Xa) ∧ OwnI w8 wp.heap.size (.slice x1 m k4) ((g.old Xa).map fun (i : Nat) => (i : Int))) := hS.2.2.2.2.2.2.2.1.2
          have s5 : vals 8 = tupP (vals 7) 0 := hS.2.2.2.2.2.2.2.2.1
          have s6 : vals 9 = tupP (vals 7) 1 := hS.2.2.2.2.2.2.2.2.2.1
          have s7 : vals 10 = tupP (vals 7) 2 := hS.2.2.2.2.2.2.2.2.2.2.1
          obtain ⟨qh, a1', k1', b1', k2', c1', k3', s8, s5', hb5⟩ : ∃ q a1 k1 b1 k2 c1 k3, vals 11 = .pointer (some ⟨q, 0, none⟩) ∧ vals 8 = .agg #[.slice a1 m k1, .slice b1 m k2, .slice c1 m k3] ∧ Box w8 q 25 #[.slice a1 m k1, .slice b1 m k2, .slice c1 m k3] := hS.2.2.2.2.2.2.2.2.2.2.2.2.1
          have s10 : vals 13 = vals 9 := hS.2.2.2.2.2.2.2.2.2.2.2.2.2.1
          clear hS
          rw [s3] at s5 s6 s7
          replace s5 : vals 8 = .agg #[.slice a1 m k1, .slice b1 m k2, .slice c1 m k3] := s5
          replace s6 : vals 9 = .slice x1 m k4 := s6
          replace s7 : vals 10 = .bool true := s7
          rw [s5] at s5'
          simp only [Value.agg.injEq, Array.mk.injEq, List.cons.injEq, Value.slice.injEq, and_true, true_and] at s5'
          obtain ⟨⟨rfl, rfl⟩, ⟨rfl, rfl⟩, rfl, rfl⟩ := s5'
          rw [s6] at s10
          have GH := Lib.hid (ho.game HFP.out)
          have BQh := Lib.hid hb5
          replace HB := Lib.hid (HB.out.trans ((below_of_grown hg).mono HB.out.size))
          replace W := Lib.hid (W.out.trans ((below_of_grown hg).mono W.out.size))
          replace BQm := Lib.hid (BQm.out.keep hg)
          clear hb5 ho hi hgk hg
          refine hG ?_
          clear hG
          simp only [List.take, List.drop, List.length, Nat.reduceSub, Nat.reduceAdd, Rg.putAll, Act.put, List.setIfInBounds_toArray, List.set_cons_succ, List.set_cons_zero, s7, s8, s10]
          clear s3 s5 s6 s7 s8 s10
          have hbb := BQm.out
          have pc0 : w8.cell? ⟨qa, 0, none⟩ = some (.slice xa0 m ka0) := hbb.cell 0 _ rfl
          have pc1 : w8.cell? ⟨qa, 1, none⟩ = some (.slice xa1 (P.lst Ya).length ka1) := hbb.cell 1 _ rfl
          have pc2 : w8.cell? ⟨qa, 2, none⟩ = some (.slice (some ⟨ba0, 0, none⟩) n n) := hbb.cell 2 _ rfl
          have pc3 : w8.cell? ⟨qa, 3, none⟩ = some (.slice (some ⟨ba1, 0, none⟩) n n) := hbb.cell 3 _ rfl
          clear hbb
          go_upto_region 13 with (fail)
          clear pc0 pc1 pc2 pc3
          have hbb := BQh.out
          have rc0 : w8.cell? ⟨qh, 0, none⟩ = some (.slice a1 m k1) := hbb.cell 0 _ rfl
          have rc1 : w8.cell? ⟨qh, 1, none⟩ = some (.slice b1 m k2) := hbb.cell 1 _ rfl
          have rc2 : w8.cell? ⟨qh, 2, none⟩ = some (.slice c1 m k3) := hbb.cell 2 _ rfl
          clear hbb
          go_wp2_with fail
          clear rc0 rc1 rc2
          refine (decomp_any (g.part Xa) HPR.out.1 m HPR.out.2 _ w8 GH.out (T.out.on W.out)).mono ?_
          rintro e w9 ⟨Xb, Yb, chb, depb, rb0, rb1, bb0, bb1, rfl, hd, hb⟩
          obtain ⟨xb0, kb0, rfl, -⟩ := own_at hd.zero.1
          obtain ⟨xb1, kb1, rfl, -⟩ := own_at hd.one.1
          have hpl := part_lens HR.out HWP.out.1 HWP.out.2 (.inl rfl) HPR.out.1 HPR.out.2 HOL.out hmany2 hd.ap
          simp only [if_pos] at hpl
          rw [hpl.1, hpl.2]
          replace HB := Lib.hid (HB.out.trans (hb.mono HB.out.size))
          replace W := Lib.hid (W.out.trans (hb.mono W.out.size))
          clear hd hb hpl
          go_upto_region 14 with (fail)
          have hal := World.grownBy_alloc w9 (.cells #[.slice xb0 m kb0, .slice xb1 0 kb1, .slice (some ⟨bb0, 0, none⟩) m m, .slice (some ⟨bb1, 0, none⟩) m m] 32) none
          have bq : Box (w9.alloc (.cells #[.slice xb0 m kb0, .slice xb1 0 kb1, .slice (some ⟨bb0, 0, none⟩) m m, .slice (some ⟨bb1, 0, none⟩) m m] 32)) w9.heap.size 32 #[.slice xb0 m kb0, .slice xb1 0 kb1, .slice (some ⟨bb0, 0, none⟩) m m, .slice (some ⟨bb1, 0, none⟩) m m] := Box.new _ _ _
          replace HB := Lib.hid (HB.out.trans ((below_of_grown hal).mono HB.out.size))
          clear hal
          generalize (w9.alloc (.cells #[.slice xb0 m kb0, .slice xb1 0 kb1, .slice (some ⟨bb0, 0, none⟩) m m, .slice (some ⟨bb1, 0, none⟩) m m] 32)) = w10 at bq HB ⊢
          generalize w9.heap.size = qd at bq ⊢
          have BQd := Lib.hid bq
          clear bq
          have hbb := BQd.out
          have tc0 : w10.cell? ⟨qd, 0, none⟩ = some (.slice xb0 m kb0) := hbb.cell 0 _ rfl
          have tc1 : w10.cell? ⟨qd, 1, none⟩ = some (.slice xb1 0 kb1) := hbb.cell 1 _ rfl
          have tc2 : w10.cell? ⟨qd, 2, none⟩ = some (.slice (some ⟨bb0, 0, none⟩) m m) := hbb.cell 2 _ rfl
          have tc3 : w10.cell? ⟨qd, 3, none⟩ = some (.slice (some ⟨bb1, 0, none⟩) m m) := hbb.cell 3 _ rfl
          clear hbb
          go_wp2_with fail
          clear tc0 tc1 tc2 tc3
          go_roundw
          case rel => exact ⟨HB.out, .inr (.inl (by first | rfl | go_num))⟩
          case measure => simp [intOf]
    · obtain ⟨m, hm⟩ : ∃ k, (P.lst Ya).length = k := ⟨_, rfl⟩
      have BQm := Lib.hid (show Box wp qa 32 #[.slice xa0 (P.lst Xa).length ka0, .slice xa1 m ka1, .slice (some ⟨ba0, 0, none⟩) n n, .slice (some ⟨ba1, 0, none⟩) n n] by rw [← hm]; exact BQa.out.keep (grown_of_below HB.out none))
      have HM := Lib.hid hm
      clear hm
      have hbb := BQm.out
      have pc0 : wp.cell? ⟨qa, 0, none⟩ = some (.slice xa0 (P.lst Xa).length ka0) := hbb.cell 0 _ rfl
      have pc1 : wp.cell? ⟨qa, 1, none⟩ = some (.slice xa1 m ka1) := hbb.cell 1 _ rfl
      have pc2 : wp.cell? ⟨qa, 2, none⟩ = some (.slice (some ⟨ba0, 0, none⟩) n n) := hbb.cell 2 _ rfl
      have pc3 : wp.cell? ⟨qa, 3, none⟩ = some (.slice (some ⟨ba1, 0, none⟩) n n) := hbb.cell 3 _ rfl
      clear hbb
      by_cases hm0 : m = 0
      · have fm : (((m : Nat) : Int) == 0) = true := by rw [beq_iff_eq]; omega
        go_wp2_with fail
        clear pc0 pc1 pc2 pc3
        go_roundw
        case rel => exact ⟨HB.out, .inr (.inr (by first | rfl | go_num))⟩
        case measure => simp [intOf]
      · have fm : (((m : Nat) : Int) == 0) = false := by rw [beq_eq_false_iff_ne]; omega
        have hwn := (dec_parts HR.out HN.out Da.out.ap).2
        obtain ⟨hsn, mvp, hwp⟩ := hwn
        have HWP := Lib.hid (And.intro hsn hwp)
        have hex : ∃ i, P.Bit Ya i := Classical.byContradiction fun hc => hm0 (by
          rw [← HM.out, List.length_eq_zero_iff]
          refine List.eq_nil_iff_forall_not_mem.2 fun i hi => hc ⟨i, (P.mem_lst _ _).1 hi⟩)
        have hhas := P.part_has HR.out hsn hwp hex
        have holen : (g.old Ya).length = m := by unfold P.G.old; rw [P.full_and hsn]; exact HM.out
        have HOF := Lib.hid (show P.ofL (lstI Ya) = Ya from ofL_lstI Ya)
        have HFW := Lib.hid (show FW g Ya = (g.part Ya) ∧ OLW g Ya = ((g.old Ya).map fun (i : Nat) => (i : Int)) ∧ g.has Ya = true ∧ True from ⟨by unfold FW; rw [if_pos hhas], by unfold OLW; rw [if_pos hhas], hhas, trivial⟩)
        have hplen : ((g.part Ya)).owner.length = m ∧ ((g.part Ya)).prio.length = m ∧ ((g.part Ya)).moves.length = m := by rw [P.part_eq]; exact ⟨by rw [List.length_map]; exact holen, by rw [List.length_map]; exact holen, by rw [List.length_map]; exact holen⟩
        have HLE := Lib.hid (show ((g.part Ya)).owner.length = m ∧ ((g.part Ya)).prio.length = m ∧ ((g.part Ya)).moves.length = m ∧ ((g.old Ya).map fun (i : Nat) => (i : Int)).length = m from ⟨hplen.1, hplen.2.1, hplen.2.2, by rw [List.length_map]; exact holen⟩)
        have HPR := Lib.hid (And.intro (P.part_right HR.out hhas) hplen.1)
        have hmany2 : m ≤ 200 := by have := HPR.out.1.many; omega
        have HFP := Lib.hid (fits_part HFI.out Ya)
        have IRm := Lib.hid (show Ints wp (.slice xa1 m ka1) (lstI Ya) by rw [← HM.out]; exact Ia1.out.on HB.out)
        have HOL := Lib.hid holen
        clear hsn hwp hex hhas holen hplen
        replace W := Lib.hid (W.out.trans (HB.out.mono W.out.size))
        replace BQg := Lib.hid (BQg.out.keep (grown_of_below HB.out none))
        go_upto_region 10 with (fail)
        clear pc0 pc1 pc2 pc3
        refine Rt.wp_region_tail 1 (fun idx => match idx with | 0 => (fun v _ _ => v = .agg #[.slice (some ⟨ba, oa, none⟩) n ka, .slice (some ⟨bb, ob, none⟩) n kb, .slice (some ⟨bc_, oc, none⟩) n kc]) | 1 => (fun v _ _ => v = (.int .i64 1)) | 2 => (fun v _ _ => v = (.pointer (some ⟨qa, 0, none⟩))) | 3 => (fun v _ _ => v = (.pointer (some ⟨qa, 1, none⟩))) | 4 => (fun v _ _ => v = (.slice xa1 m ka1)) | 5 => (fun v _ _ => v = .agg #[.int .u64 (P.wrd Ya 0), .int .u64 (P.wrd Ya 1), .int .u64 (P.wrd Ya 2), .int .u64 (P.wrd Ya 3)]) | 6 => (fun v _ w' => (∃ a1 k1 b1 k2 c1 k3 x1 k4 L, v = .tuple #[.agg #[.slice a1 m k1, .slice b1 m k2, .slice c1 m k3], .slice x1 m k4, .bool true] ∧ OwnG w' wp.heap.size (.slice a1 m k1) (.slice b1 m k2) (.slice c1 m k3) L (g.part Ya) ∧ OwnI w' wp.heap.size (.slice x1 m k4) ((g.old Ya).map fun (i : Nat) => (i : Int)))) | 7 => (fun v ds w' => v = ds.getD 0 undef ∧ (∃ a1 k1 b1 k2 c1 k3 x1 k4 L, v = .tuple #[.agg #[.slice a1 m k1, .slice b1 m k2, .slice c1 m k3], .slice x1 m k4, .bool true] ∧ OwnG w' wp.heap.size (.slice a1 m k1) (.slice b1 m k2) (.slice c1 m k3) L (g.part Ya) ∧ OwnI w' wp.heap.size (.slice x1 m k4) ((g.old Ya).map fun (i : Nat) => (i : Int)))) | 8 => (fun v ds _ => v = tupP (ds.getD 0 undef) 0) | 9 => (fun v ds _ => v = tupP (ds.getD 0 undef) 1) | 10 => (fun v ds _ => v = tupP (ds.getD 0 undef) 2) | 11 => (fun v _ _ => ∃ q, v = .pointer (some ⟨q, 0, none⟩) ∧ wp.heap.size ≤ q) | 12 => (fun _ ds w' => ∃ q a1 k1 b1 k2 c1 k3, ds.getD 0 undef = .pointer (some ⟨q, 0, none⟩) ∧ ds.getD 1 undef = .agg #[.slice a1 m k1, .slice b1 m k2, .slice c1 m k3] ∧ Box w' q 25 #[.slice a1 m k1, .slice b1 m k2, .slice c1 m k3]) | 13 => (fun v ds _ => v = ds.getD 0 undef) | _ => fun _ _ _ => True) (fun idx => match idx with | 11 => (fun v _ w' => ∃ q, v = .pointer (some ⟨q, 0, none⟩) ∧ Box w' q 25 #[.slice none 0 0, .slice none 0 0, .slice none 0 0]) | _ => fun _ _ _ => True) (KG wp.heap.size 25) 12 (by kernel_rfl) (by rfl) (by kernel_rfl) (by rfl) ?_ ?_ ?_ ?_
        · refine ⟨?_, ?_, ?_, ?_, ?_, ?_, ?_, ?_, ?_, ?_, ?_, ?_, ?_, ?_, trivial⟩
          · intro A w' K vals h hn hT hgk hK0
            have r0 : A.tmps[1]?.getD undef = (.pointer (some ⟨qg, 0, none⟩)) := Rg.slot h.1
            have bs := BQg.out.keep (keeps_old hgk)
            have cc0 : w'.cell? ⟨qg, 0, none⟩ = some (.slice (some ⟨ba, oa, none⟩) n ka) := bs.cell 0 _ rfl
            have cc1 : w'.cell? ⟨qg, 1, none⟩ = some (.slice (some ⟨bb, ob, none⟩) n kb) := bs.cell 1 _ rfl
            have cc2 : w'.cell? ⟨qg, 2, none⟩ = some (.slice (some ⟨bc_, oc, none⟩) n kc) := bs.cell 2 _ rfl
            clear h hn hT hgk bs
            simp [Oper.wp, execOp, go_sem, r0, cc0, cc1, cc2]
            exact hK0 _ _ (Rk.Keeps.refl _ _) rfl trivial
          · intro A w' K vals h hn hT hgk hK0
            have r0 : A.tmps[8]?.getD undef = .int .i64 1 := Rg.slot h.1
            clear h hn hT hgk
            simp [Oper.wp, execOp, go_sem, r0]
            exact hK0 _ _ (Rk.Keeps.refl _ _) rfl trivial
          · intro A w' K vals h hn hT hgk hK0
            have r0 : A.tmps[6]?.getD undef = .pointer (some ⟨qa, 0, none⟩) := Rg.slot h.1
            clear h hn hT hgk
            simp [Oper.wp, execOp, go_sem, r0]
            exact hK0 _ _ (Rk.Keeps.refl _ _) rfl trivial
          · intro A w' K vals h hn hT hgk hK0
            have r0 : A.tmps[45]?.getD undef = vals 2 := Rg.slot h.1
            have s0 : vals 2 = (.pointer (some ⟨qa, 0, none⟩)) := hn.1
            have r1 : A.tmps[44]?.getD undef = vals 1 := Rg.slot h.2.1
            have s1 : vals 1 = (.int .i64 1) := hn.2.1
            clear h hn hT hgk
            simp [Oper.wp, execOp, go_sem, r0, r1, s0, s1]
            exact hK0 _ _ (Rk.Keeps.refl _ _) rfl trivial
          · intro A w' K vals h hn hT hgk hK0
            have r0 : A.tmps[46]?.getD undef = vals 3 := Rg.slot (h.1)
            have r1 : vals 3 = (.pointer (some ⟨qa, 1, none⟩)) := hn.1
            have c : w'.cell? ⟨qa, 1, none⟩ = some (.slice xa1 m ka1) := (BQm.out.keep (keeps_old hgk)).cell 1 _ rfl
            clear h hn hT hgk
            simp [Oper.wp, execOp, go_sem, r0, r1, c]
            exact hK0 _ _ (Rk.Keeps.refl _ _) rfl trivial
          · intro A w' K vals h hn hT hgk hK0
            have r0 : A.tmps[47]?.getD undef = vals 4 := Rg.slot h.2.1
            have s0 : vals 4 = (.slice xa1 m ka1) := hn.1
            have hb := below_of_grown (keeps_old hgk)
            clear h hn hT hgk
            simp [Oper.wp, go_sem, r0, s0]
            refine (of_ints (IRm.out.on hb)).mono ?_
            rintro e w'' ⟨rfl, hb⟩
            rw [HOF.out]
            exact hK0 _ _ (Rk.keep_of (grown_of_below hb _)) rfl trivial
          · intro A w' K vals h hn hT hgk hK0
            have r0 : A.tmps[43]?.getD undef = vals 0 := Rg.slot h.2.1
            have r1 : A.tmps[48]?.getD undef = vals 5 := Rg.slot h.2.2.1
            have s0 : vals 0 = .agg #[.slice (some ⟨ba, oa, none⟩) n ka, .slice (some ⟨bb, ob, none⟩) n kb, .slice (some ⟨bc_, oc, none⟩) n kc] := hn.1
            have s1 : vals 5 = .agg #[.int .u64 (P.wrd Ya 0), .int .u64 (P.wrd Ya 1), .int .u64 (P.wrd Ya 2), .int .u64 (P.wrd Ya 3)] := hn.2.1
            have hsz := hgk.size
            have hb := W.out.trans ((below_of_grown (keeps_old hgk)).mono W.out.size)
            clear h hn hT hgk
            simp [Oper.wp, go_sem, r0, r1, s0, s1]
            refine (subw_any g Ya _ w' (HV.out.on hb) (T.out.on hb)).mono ?_
            rintro e w'' ⟨u, rfl, hu, hb⟩
            have hu2 := hu.low hsz
            rw [HFW.out.1, HFW.out.2.1, HFW.out.2.2.1] at hu2
            obtain ⟨a1, k1, b1, k2, c1, k3, x1, k4, L, hv, ho, hi⟩ := hu2
            rw [HLE.out.1, HLE.out.2.1, HLE.out.2.2.1] at hv ho
            rw [HLE.out.2.2.2] at hv hi
            exact hK0 _ _ (Rk.keep_of (grown_of_below hb _)) ⟨a1, k1, b1, k2, c1, k3, x1, k4, L, hv, ho, hi⟩ trivial
          · intro A w' K vals h hn hT hgk hK0
            have r0 : A.tmps[49]?.getD undef = vals 6 := Rg.slot h.1
            have n3 : (∃ a1 k1 b1 k2 c1 k3 x1 k4 L, (vals 6) = .tuple #[.agg #[.slice a1 m k1, .slice b1 m k2, .slice c1 m k3], .slice x1 m k4, .bool true] ∧ OwnG w' wp.heap.size (.slice a1 m k1) (.slice b1 m k2) (.slice c1 m k3) L (g.part Ya) ∧ OwnI w' wp.heap.size (.slice x1 m k4) ((g.old Ya).map fun (i : Nat) => (i : Int))) := hn.1
            clear h hn hT hgk
            simp [Oper.wp, execOp, go_sem, r0]
            exact hK0 _ _ (Rk.Keeps.refl _ _) ⟨rfl, n3⟩ trivial
          · intro A w' K vals h hn hT hgk hK0
            have r0 : A.tmps[42]?.getD undef = vals 7 := Rg.slot h.1
            obtain ⟨a1, k1, b1, k2, c1, k3, x1, k4, L, hv, -, -⟩ : (∃ a1 k1 b1 k2 c1 k3 x1 k4 L, (vals 7) = .tuple #[.agg #[.slice a1 m k1, .slice b1 m k2, .slice c1 m k3], .slice x1 m k4, .bool true] ∧ OwnG w' wp.heap.size (.slice a1 m k1) (.slice b1 m k2) (.slice c1 m k3) L (g.part Ya) ∧ OwnI w' wp.heap.size (.slice x1 m k4) ((g.old Ya).map fun (i : Nat) => (i : Int))) := hn.1.2
            clear h hn hT hgk
            simp [Oper.wp, execOp, go_sem, r0, hv]
            refine hK0 _ _ (Rk.Keeps.refl _ _) ?_ trivial
            show _ = tupP (vals 7) 0
            rw [hv]
            rfl
          · intro A w' K vals h hn hT hgk hK0
            have r0 : A.tmps[42]?.getD undef = vals 7 := Rg.slot h.1
            obtain ⟨a1, k1, b1, k2, c1, k3, x1, k4, L, hv, -, -⟩ : (∃ a1 k1 b1 k2 c1 k3 x1 k4 L, (vals 7) = .tuple #[.agg #[.slice a1 m k1, .slice b1 m k2, .slice c1 m k3], .slice x1 m k4, .bool true] ∧ OwnG w' wp.heap.size (.slice a1 m k1) (.slice b1 m k2) (.slice c1 m k3) L (g.part Ya) ∧ OwnI w' wp.heap.size (.slice x1 m k4) ((g.old Ya).map fun (i : Nat) => (i : Int))) := hn.1.2
            clear h hn hT hgk
            simp [Oper.wp, execOp, go_sem, r0, hv]
            refine hK0 _ _ (Rk.Keeps.refl _ _) ?_ trivial
            show _ = tupP (vals 7) 1
            rw [hv]
            rfl
          · intro A w' K vals h hn hT hgk hK0
            have r0 : A.tmps[42]?.getD undef = vals 7 := Rg.slot h.1
            obtain ⟨a1, k1, b1, k2, c1, k3, x1, k4, L, hv, -, -⟩ : (∃ a1 k1 b1 k2 c1 k3 x1 k4 L, (vals 7) = .tuple #[.agg #[.slice a1 m k1, .slice b1 m k2, .slice c1 m k3], .slice x1 m k4, .bool true] ∧ OwnG w' wp.heap.size (.slice a1 m k1) (.slice b1 m k2) (.slice c1 m k3) L (g.part Ya) ∧ OwnI w' wp.heap.size (.slice x1 m k4) ((g.old Ya).map fun (i : Nat) => (i : Int))) := hn.1.2
            clear h hn hT hgk
            simp [Oper.wp, execOp, go_sem, r0, hv]
            refine hK0 _ _ (Rk.Keeps.refl _ _) ?_ trivial
            show _ = tupP (vals 7) 2
            rw [hv]
            rfl
          · intro A w' K vals h hn hT hgk hK0
            have hsz := hgk.size
            clear h hn hT
            simp [Oper.wp, execOp, go_sem]
            exact hK0 _ _ (Rk.keep_of (World.grownBy_alloc _ _ _)) ⟨_, rfl, hsz⟩ ⟨_, rfl, Box.new _ _ _⟩
          · intro A w' K vals h hn hT hgk hK0
            have r0 : A.tmps[9]?.getD undef = vals 11 := Rg.slot h.1
            have r1 : A.tmps[50]?.getD undef = vals 8 := Rg.slot h.2.1
            obtain ⟨q, hp, hbx⟩ : ∃ q, vals 11 = .pointer (some ⟨q, 0, none⟩) ∧ Box w' q 25 #[.slice none 0 0, .slice none 0 0, .slice none 0 0] := (hT rfl).1
            obtain ⟨p', hp', hlo⟩ : ∃ q, vals 11 = .pointer (some ⟨q, 0, none⟩) ∧ wp.heap.size ≤ q := hn.1
            have s5 : vals 8 = tupP (vals 7) 0 := hn.2.1
            obtain ⟨a1, k1, b1, k2, c1, k3, x1, k4, L, s3, ho, hi⟩ : (∃ a1 k1 b1 k2 c1 k3 x1 k4 L, (vals 7) = .tuple #[.agg #[.slice a1 m k1, .slice b1 m k2, .slice c1 m k3], .slice x1 m k4, .bool true] ∧ OwnG w' wp.heap.size (.slice a1 m k1) (.slice b1 m k2) (.slice c1 m k3) L (g.part Ya) ∧ OwnI w' wp.heap.size (.slice x1 m k4) ((g.old Ya).map fun (i : Nat) => (i : Int))) := hn.2.2.2.2.2.2.2.2.2.2.1.2
            rw [s3] at s5
            replace s5 : vals 8 = .agg #[.slice a1 m k1, .slice b1 m k2, .slice c1 m k3] := s5
            obtain rfl : p' = q := by rw [hp'] at hp; injection hp with hp; injection hp with hp; injection hp with hp
            clear h hn hT ho hi s3
            have qc0 : w'.cell? ⟨p', 0, none⟩ = some (.slice none 0 0) := hbx.cell 0 _ rfl
            have qc1 : w'.cell? ⟨p', 1, none⟩ = some (.slice none 0 0) := hbx.cell 1 _ rfl
            have qc2 : w'.cell? ⟨p', 2, none⟩ = some (.slice none 0 0) := hbx.cell 2 _ rfl
            have qf0 : w'.frozen? ⟨p', 0, none⟩ = false := hbx.frozen 0
            have qf1 : w'.frozen? ⟨p', 1, none⟩ = false := hbx.frozen 1
            have qf2 : w'.frozen? ⟨p', 2, none⟩ = false := hbx.frozen 2
            simp [Oper.wp, execOp, go_sem, r0, r1, hp', s5, qc0, qc1, qc2, qf0, qf1, qf2]
            refine hK0 undef _ (((keeps_set hbx hlo _ _).trans (keeps_set (hbx.set _ _) hlo _ _)).trans (keeps_set ((hbx.set _ _).set _ _) hlo _ _)) ⟨p', a1, k1, b1, k2, c1, k3, hp', s5, (((hbx.set 0 (.slice a1 m k1)).set 1 (.slice b1 m k2)).set 2 (.slice c1 m k3))⟩ trivial
          · intro A w' K vals h hn hT hgk hK0
            have r0 : A.tmps[51]?.getD undef = vals 9 := Rg.slot h.1
            clear h hn hT hgk
            simp [Oper.wp, execOp, go_sem, r0]
            exact hK0 _ _ (Rk.Keeps.refl _ _) rfl trivial
        · refine ⟨?_, ?_, ?_, ?_, ?_, ?_, ?_, ?_, ?_, ?_, ?_, ?_, ?_, ?_, trivial⟩
          · exact fun _ _ _ _ _ _ h => h
          · exact fun _ _ _ _ _ _ h => h
          · exact fun _ _ _ _ _ _ h => h
          · exact fun _ _ _ _ _ _ h => h
          · exact fun _ _ _ _ _ _ h => h
          · exact fun _ _ _ _ _ _ h => h
          · exact fun _ _ _ _ _ h ⟨a1, k1, b1, k2, c1, k3, x1, k4, L, h1, h2, h3⟩ => ⟨a1, k1, b1, k2, c1, k3, x1, k4, L, h1, h2.other h (by decide) (by decide), own_other h3 h (by decide)⟩
          · exact fun _ _ _ _ _ h ⟨h0, a1, k1, b1, k2, c1, k3, x1, k4, L, h1, h2, h3⟩ => ⟨h0, a1, k1, b1, k2, c1, k3, x1, k4, L, h1, h2.other h (by decide) (by decide), own_other h3 h (by decide)⟩
          · exact fun _ _ _ _ _ _ h => h
          · exact fun _ _ _ _ _ _ h => h
          · exact fun _ _ _ _ _ _ h => h
          · exact fun _ _ _ _ _ _ h => h
          · exact fun _ _ _ _ _ h ⟨q, a1, k1, b1, k2, c1, k3, h1, h2, hb⟩ => ⟨q, a1, k1, b1, k2, c1, k3, h1, h2, hb.keep (Rk.grown_of h)⟩
          · exact fun _ _ _ _ _ _ h => h
        · intro k v ds w w' hk h
          match k, h with
          | 11, h => exact ⟨h.choose, h.choose_spec.1, h.choose_spec.2.keep (Rk.grown_of hk)⟩
          | 0, _ | 1, _ | 2, _ | 3, _ | 4, _ | 5, _ | 6, _ | 7, _ | 8, _ | 9, _ | 10, _ | _ + 12, _ => trivial
        · intro vals w8 G hgk hS hG
          have hg := keeps_old hgk
          obtain ⟨a1, k1, b1, k2, c1, k3, x1, k4, L, s3, ho, hi⟩ : (∃ a1 k1 b1 k2 c1 k3 x1 k4 L, (vals 7) = .tuple #[.agg #[.slice a1 m k1, .slice b1 m k2, .slice c1 m k3], .slice x1 m k4, .bool true] ∧ OwnG w8 wp.heap.size (.slice a1 m k1) (.slice b1 m k2) (.slice c1 m k3) L (g.part Ya) ∧ OwnI w8 wp.heap.size (.slice x1 m k4) ((g.old Ya).map fun (i : Nat) => (i : Int))) := hS.2.2.2.2.2.2.2.1.2
          have s5 : vals 8 = tupP (vals 7) 0 := hS.2.2.2.2.2.2.2.2.1
          have s6 : vals 9 = tupP (vals 7) 1 := hS.2.2.2.2.2.2.2.2.2.1
          have s7 : vals 10 = tupP (vals 7) 2 := hS.2.2.2.2.2.2.2.2.2.2.1
          obtain ⟨qh, a1', k1', b1', k2', c1', k3', s8, s5', hb5⟩ : ∃ q a1 k1 b1 k2 c1 k3, vals 11 = .pointer (some ⟨q, 0, none⟩) ∧ vals 8 = .agg #[.slice a1 m k1, .slice b1 m k2, .slice c1 m k3] ∧ Box w8 q 25 #[.slice a1 m k1, .slice b1 m k2, .slice c1 m k3] := hS.2.2.2.2.2.2.2.2.2.2.2.2.1
          have s10 : vals 13 = vals 9 := hS.2.2.2.2.2.2.2.2.2.2.2.2.2.1
          clear hS
          rw [s3] at s5 s6 s7
          replace s5 : vals 8 = .agg #[.slice a1 m k1, .slice b1 m k2, .slice c1 m k3] := s5
          replace s6 : vals 9 = .slice x1 m k4 := s6
          replace s7 : vals 10 = .bool true := s7
          rw [s5] at s5'
          simp only [Value.agg.injEq, Array.mk.injEq, List.cons.injEq, Value.slice.injEq, and_true, true_and] at s5'
          obtain ⟨⟨rfl, rfl⟩, ⟨rfl, rfl⟩, rfl, rfl⟩ := s5'
          rw [s6] at s10
          have GH := Lib.hid (ho.game HFP.out)
          have BQh := Lib.hid hb5
          replace HB := Lib.hid (HB.out.trans ((below_of_grown hg).mono HB.out.size))
          replace W := Lib.hid (W.out.trans ((below_of_grown hg).mono W.out.size))
          replace BQm := Lib.hid (BQm.out.keep hg)
          clear hb5 ho hi hgk hg
          refine hG ?_
          clear hG
          simp only [List.take, List.drop, List.length, Nat.reduceSub, Nat.reduceAdd, Rg.putAll, Act.put, List.setIfInBounds_toArray, List.set_cons_succ, List.set_cons_zero, s7, s8, s10]
          clear s3 s5 s6 s7 s8 s10
          have hbb := BQm.out
          have pc0 : w8.cell? ⟨qa, 0, none⟩ = some (.slice xa0 (P.lst Xa).length ka0) := hbb.cell 0 _ rfl
          have pc1 : w8.cell? ⟨qa, 1, none⟩ = some (.slice xa1 m ka1) := hbb.cell 1 _ rfl
          have pc2 : w8.cell? ⟨qa, 2, none⟩ = some (.slice (some ⟨ba0, 0, none⟩) n n) := hbb.cell 2 _ rfl
          have pc3 : w8.cell? ⟨qa, 3, none⟩ = some (.slice (some ⟨ba1, 0, none⟩) n n) := hbb.cell 3 _ rfl
          clear hbb
          go_upto_region 13 with (fail)
          clear pc0 pc1 pc2 pc3
          have hbb := BQh.out
          have rc0 : w8.cell? ⟨qh, 0, none⟩ = some (.slice a1 m k1) := hbb.cell 0 _ rfl
          have rc1 : w8.cell? ⟨qh, 1, none⟩ = some (.slice b1 m k2) := hbb.cell 1 _ rfl
          have rc2 : w8.cell? ⟨qh, 2, none⟩ = some (.slice c1 m k3) := hbb.cell 2 _ rfl
          clear hbb
          go_wp2_with fail
          clear rc0 rc1 rc2
          refine (decomp_any (g.part Ya) HPR.out.1 m HPR.out.2 _ w8 GH.out (T.out.on W.out)).mono ?_
          rintro e w9 ⟨Xb, Yb, chb, depb, rb0, rb1, bb0, bb1, rfl, hd, hb⟩
          obtain ⟨xb0, kb0, rfl, -⟩ := own_at hd.zero.1
          obtain ⟨xb1, kb1, rfl, -⟩ := own_at hd.one.1
          have hpl := part_lens HR.out HWP.out.1 HWP.out.2 (.inr rfl) HPR.out.1 HPR.out.2 HOL.out hmany2 hd.ap
          simp only [if_neg (show ¬ ((1 : Int) = 0) by decide)] at hpl
          rw [hpl.1, hpl.2]
          replace HB := Lib.hid (HB.out.trans (hb.mono HB.out.size))
          replace W := Lib.hid (W.out.trans (hb.mono W.out.size))
          clear hd hb hpl
          go_upto_region 14 with (fail)
          have hal := World.grownBy_alloc w9 (.cells #[.slice xb0 0 kb0, .slice xb1 m kb1, .slice (some ⟨bb0, 0, none⟩) m m, .slice (some ⟨bb1, 0, none⟩) m m] 32) none
          have bq : Box (w9.alloc (.cells #[.slice xb0 0 kb0, .slice xb1 m kb1, .slice (some ⟨bb0, 0, none⟩) m m, .slice (some ⟨bb1, 0, none⟩) m m] 32)) w9.heap.size 32 #[.slice xb0 0 kb0, .slice xb1 m kb1, .slice (some ⟨bb0, 0, none⟩) m m, .slice (some ⟨bb1, 0, none⟩) m m] := Box.new _ _ _
          replace HB := Lib.hid (HB.out.trans ((below_of_grown hal).mono HB.out.size))
          clear hal
          generalize (w9.alloc (.cells #[.slice xb0 0 kb0, .slice xb1 m kb1, .slice (some ⟨bb0, 0, none⟩) m m, .slice (some ⟨bb1, 0, none⟩) m m] 32)) = w10 at bq HB ⊢
          generalize w9.heap.size = qd at bq ⊢
          have BQd := Lib.hid bq
          clear bq
          have hbb := BQd.out
          have tc0 : w10.cell? ⟨qd, 0, none⟩ = some (.slice xb0 0 kb0) := hbb.cell 0 _ rfl
          have tc1 : w10.cell? ⟨qd, 1, none⟩ = some (.slice xb1 m kb1) := hbb.cell 1 _ rfl
          have tc2 : w10.cell? ⟨qd, 2, none⟩ = some (.slice (some ⟨bb0, 0, none⟩) m m) := hbb.cell 2 _ rfl
          have tc3 : w10.cell? ⟨qd, 3, none⟩ = some (.slice (some ⟨bb1, 0, none⟩) m m) := hbb.cell 3 _ rfl
          clear hbb
          go_wp2_with fail
          clear tc0 tc1 tc2 tc3
          go_roundw
          case rel => exact ⟨HB.out, .inr (.inr (by first | rfl | go_num))⟩
          case measure => simp [intOf]
    · go_wp2_with fail
      have WZ := Lib.hid (W.out.trans (HB.out.mono W.out.size))
      exact bodyPost_ret (v := .bool true) (by simp [results, Tryd.results8, go_sem]) rfl ⟨rfl, WZ.out⟩

set_option maxRecDepth 100000 in
set_option maxHeartbeats 4000000 in
theorem part_wrong_ (g : P.G) (hok : g.ok = false) (v : Value) (w : World) (hv : GameV w v g) (hT : Tab w) : Calls Tryd.prog 8 #[v] w fun e w' => e = .returned (.bool true) ∧ Below w.heap.size w w' := by
  have hq0 : g.right.2 ≠ 0 := by unfold P.G.ok at hok; exact beq_eq_false_iff_ne.1 hok
  have HV := Lib.hid hv
  have T := Lib.hid hT
  obtain ⟨a, b, c, rfl, -⟩ := hv
  clear hok hT
  go_enter Tryd.func8, Tryd.ntmps8
  go_wp2_with fail
  have bx0 : Box (w.alloc (.cells #[a, b, c] 25)) (w.heap.size) 25 #[a, b, c] := Box.new w 25 #[a, b, c]
  have hbq : Below w.heap.size w (w.alloc (.cells #[a, b, c] 25)) := (Below.refl _ w).alloc (Nat.le_refl _) _
  have hle0 : w.heap.size ≤ w.heap.size := Nat.le_refl _
  generalize (w.alloc (.cells #[a, b, c] 25)) = w0 at bx0 hbq  ⊢
  have BQg := Lib.hid bx0
  have W := Lib.hid hbq
  have LEg := Lib.hid hle0
  clear hbq hle0 bx0 
  obtain ⟨qg, hqg⟩ : ∃ qg, w.heap.size = qg := ⟨_, rfl⟩
  rw [hqg] at BQg ⊢
  have LEg : Hid (w.heap.size ≤ qg) := Lib.hid (by omega)
  clear hqg
  refine (shown_any w0 (T.out.on W.out)).mono ?_
  rintro e w1 ⟨rfl, hb⟩
  replace BQg := Lib.hid (BQg.out.keep (grown_of_below hb none))
  replace W := Lib.hid (W.out.trans (hb.mono W.out.size))
  clear hb
  have hbb := BQg.out
  have gc0 : w1.cell? ⟨qg, 0, none⟩ = some a := hbb.cell 0 _ rfl
  have gc1 : w1.cell? ⟨qg, 1, none⟩ = some b := hbb.cell 1 _ rfl
  have gc2 : w1.cell? ⟨qg, 2, none⟩ = some c := hbb.cell 2 _ rfl
  clear hbb
  go_wp2_with fail
  clear gc0 gc1 gc2
  refine (right_any g _ _ (HV.out.on W.out)).mono ?_
  rintro e w2 ⟨rfl, hb⟩
  replace BQg := Lib.hid (BQg.out.keep (grown_of_below hb none))
  replace W := Lib.hid (W.out.trans (hb.mono W.out.size))
  clear hb
  obtain ⟨z, hz⟩ : ∃ z, g.right.2 = z := ⟨_, rfl⟩
  rw [hz] at hq0 ⊢
  have fq : (((z : Nat) : Int) != 0) = true := by rw [bne_iff_ne]; omega
  clear hz hq0
  go_wp2_with fail
  exact bodyPost_ret (v := .bool true) (by simp [results, Tryd.results8, go_sem]) rfl ⟨rfl, W.out⟩
theorem part_law (g : P.G) (v : Value) (w : World) (hv : GameV w v g) (hT : Tab w) : Calls Tryd.prog 8 #[v] w fun e w' => e = .returned (.bool true) ∧ Below w.heap.size w w' := by
  cases hok : g.ok
  · exact part_wrong_ g hok v w hv hT
  · exact part_right_ g ((P.G.ok_iff g).1 hok) v w hv hT
end W
end Go.Proofs.YtpjmboonaciplaaDoor
