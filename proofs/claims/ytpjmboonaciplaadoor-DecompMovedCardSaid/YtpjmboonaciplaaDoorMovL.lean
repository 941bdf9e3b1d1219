/- DecompMoved: the walk. -/
import Derived.Test.YtpjmboonaciplaaDoorShown13
import Derived.Test.YtpjmboonaciplaaDoorGrwM
import Derived.Test.YtpjmboonaciplaaDoorCls
import Derived.Test.YtpjmboonaciplaaDoorKeep
import Derived.Test.YtpjmboonaciplaaDoorSam
import Derived.Deep.Cut
import Derived.Lib.Hide
import Derived.Deep.QuietTactic
import Derived.BigQuiet
import Derived.StillTailTactics
namespace Go.Proofs.YtpjmboonaciplaaDoor
open Go.RowKit
namespace W

theorem ROWS.ints {w : World} {lo n : Nat} {g : P.G} {p : Int} {S : BitVec 256} {c : List Int} {r : Value} {b : Nat} (h : ROWS w lo n g p S c r b) : Ints w r (lstI S) := by
  have hl : (lstI S).length = (P.lst S).length := by unfold lstI; rw [List.length_map]
  refine OwnI.ints (lo := lo) ?_ ?_
  · unfold OwnI
    rw [hl]
    exact h.1
  · rw [hl]
    unfold P.lst
    exact Nat.le_trans (List.length_filter_le _ _) (by simp)
theorem lstI_len (S : BitVec 256) : (lstI S).length = (P.lst S).length := by unfold lstI; rw [List.length_map]
theorem lst_short (S : BitVec 256) : (P.lst S).length ≤ 256 := by unfold P.lst; exact Nat.le_trans (List.length_filter_le _ _) (by simp)
theorem ofL_lst (S : BitVec 256) : P.ofL (lstI S) = S := P.set_ext fun x hx => by
  rw [P.getLsbD_ofL _ x hx, decide_eq_true_eq]
  unfold lstI
  rw [List.mem_map]
  constructor
  · rintro ⟨j, h1, h2⟩
    obtain rfl : j = x := by omega
    exact (P.mem_lst S j).1 h1
  · exact fun h => ⟨x, (P.mem_lst S x).2 h, rfl⟩
theorem off2 {hb kb q n m hk kk : Nat} (h1 : (Value.slice (some ⟨hb, 0, none⟩) n hk).ownBlock ≠ some q) (h2 : (Value.slice (some ⟨kb, 0, none⟩) m kk).ownBlock ≠ some q) : q ∉ [hb, kb] := by
  intro h
  rcases List.mem_cons.1 h with rfl | h
  · exact h1 rfl
  · exact h2 (by rw [List.mem_singleton.1 h]; rfl)
theorem getD_mem_ {l : List Int} {i : Nat} (hi : i < l.length) : l.getD i 0 ∈ l := by
  rw [List.getD_eq_getElem?_getD, List.getElem?_eq_getElem hi]
  exact List.getElem_mem hi

set_option maxRecDepth 100000 in
set_option maxHeartbeats 4000000 in
theorem moved_wrong_ (g : P.G) (hok : g.ok = false) (v : Value) (w : World) (hv : GameV w v g) (hT : Tab w) : Calls Tryd.prog 6 #[v] w fun e w' => e = .returned (.bool true) ∧ Below w.heap.size w w' := by
  have hq0 : g.right.2 ≠ 0 := by unfold P.G.ok at hok; exact beq_eq_false_iff_ne.1 hok
  have HV := Lib.hid hv
  have T := Lib.hid hT
  obtain ⟨a, b, c, rfl, -⟩ := hv
  clear hok hT
  go_enter Tryd.func6, Tryd.ntmps6
  go_wp2_with fail
  have bx0 : Box (w.alloc (.cells #[a, b, c] 25)) (w.heap.size) 25 #[a, b, c] := Box.new w 25 #[a, b, c]
  have hbq : Below w.heap.size w (w.alloc (.cells #[a, b, c] 25)) := (Below.refl _ w).alloc (Nat.le_refl _) _
  have hle0 : w.heap.size ≤ w.heap.size := Nat.le_refl _
  generalize (w.alloc (.cells #[a, b, c] 25)) = w0 at bx0 hbq  ⊢
  have BQg := Lib.hid bx0
  have W := Lib.hid hbq
  have LEg := Lib.hid hle0
  clear hbq hle0 bx0 
  obtain ⟨qg, hqg⟩ : ∃ qg, w.heap.size = qg := ⟨_, rfl⟩
  rw [hqg] at BQg ⊢
  have LEg : Hid (w.heap.size ≤ qg) := Lib.hid (by omega)
  clear hqg
  refine (shown_any w0 (T.out.on W.out)).mono ?_
  rintro e w1 ⟨rfl, hb⟩
  replace BQg := Lib.hid (BQg.out.keep (grown_of_below hb none))
  replace W := Lib.hid (W.out.trans (hb.mono W.out.size))
  clear hb
  have hbb := BQg.out
  have gc0 : w1.cell? ⟨qg, 0, none⟩ = some a := hbb.cell 0 _ rfl
  have gc1 : w1.cell? ⟨qg, 1, none⟩ = some b := hbb.cell 1 _ rfl
  have gc2 : w1.cell? ⟨qg, 2, none⟩ = some c := hbb.cell 2 _ rfl
  clear hbb
  go_wp2_with fail
  clear gc0 gc1 gc2
  refine (right_any g _ _ (HV.out.on W.out)).mono ?_
  rintro e w2 ⟨rfl, hb⟩
  replace BQg := Lib.hid (BQg.out.keep (grown_of_below hb none))
  replace W := Lib.hid (W.out.trans (hb.mono W.out.size))
  clear hb
  obtain ⟨z, hz⟩ : ∃ z, g.right.2 = z := ⟨_, rfl⟩
  rw [hz] at hq0 ⊢
  have fq : (((z : Nat) : Int) != 0) = true := by rw [bne_iff_ne]; omega
  clear hz hq0
  go_wp2_with fail
  exact bodyPost_ret (v := .bool true) (by simp [results, Tryd.results6, go_sem]) rfl ⟨rfl, W.out⟩

set_option maxRecDepth 100000 in
set_option maxHeartbeats 8000000 in
theorem moved_right_ (g : P.G) (hr : g.Right) (v : Value) (w : World) (hv : GameV w v g) (hT : Tab w) : Calls Tryd.prog 6 #[v] w fun e w' => e = .returned (.bool true) ∧ Below w.heap.size w w' := by
  have hq0 : g.right.2 = 0 := by have hok := (P.G.ok_iff g).2 hr; unfold P.G.ok at hok; exact beq_iff_eq.1 hok
  have HV := Lib.hid hv
  have HFI := Lib.hid hv.fits
  have T := Lib.hid hT
  have HR := Lib.hid hr
  obtain ⟨n, hn⟩ : ∃ n, g.owner.length = n := ⟨_, rfl⟩
  have hop := hr.prio
  have hmp := hr.moves
  have hmany := hr.many
  have h0 := hr.pos
  rw [hn] at hop hmp hmany h0
  obtain ⟨ba, oa, ka, bb, ob, kb, bc_, oc, kc, rfl, hco, hcb, hcr⟩ := hv.open_ hn hop hmp h0
  have HCO := Lib.hid hco
  have HCB := Lib.hid hcb
  have HCR := Lib.hid hcr
  clear hco hcb hcr
  have HN := Lib.hid hn
  have HPN := Lib.hid hop
  have HMN := Lib.hid hmp
  clear hr hn hop hmp hv hT 
  go_enter Tryd.func6, Tryd.ntmps6
  go_wp2_with fail
  have bx0 : Box (w.alloc (.cells #[.slice (some ⟨ba, oa, none⟩) n ka, .slice (some ⟨bb, ob, none⟩) n kb, .slice (some ⟨bc_, oc, none⟩) n kc] 25)) (w.heap.size) 25 #[.slice (some ⟨ba, oa, none⟩) n ka, .slice (some ⟨bb, ob, none⟩) n kb, .slice (some ⟨bc_, oc, none⟩) n kc] := Box.new w 25 #[.slice (some ⟨ba, oa, none⟩) n ka, .slice (some ⟨bb, ob, none⟩) n kb, .slice (some ⟨bc_, oc, none⟩) n kc]
  have hbq : Below w.heap.size w (w.alloc (.cells #[.slice (some ⟨ba, oa, none⟩) n ka, .slice (some ⟨bb, ob, none⟩) n kb, .slice (some ⟨bc_, oc, none⟩) n kc] 25)) := (Below.refl _ w).alloc (Nat.le_refl _) _
  have hle0 : w.heap.size ≤ w.heap.size := Nat.le_refl _
  generalize (w.alloc (.cells #[.slice (some ⟨ba, oa, none⟩) n ka, .slice (some ⟨bb, ob, none⟩) n kb, .slice (some ⟨bc_, oc, none⟩) n kc] 25)) = w0 at bx0 hbq  ⊢
  have BQg := Lib.hid bx0
  have W := Lib.hid hbq
  have LEg := Lib.hid hle0
  clear hbq hle0 bx0 
  obtain ⟨qg, hqg⟩ : ∃ qg, w.heap.size = qg := ⟨_, rfl⟩
  rw [hqg] at BQg ⊢
  have LEg : Hid (w.heap.size ≤ qg) := Lib.hid (by omega)
  clear hqg
  refine (shown_any w0 (T.out.on W.out)).mono ?_
  rintro e w1 ⟨rfl, hb⟩
  replace BQg := Lib.hid (BQg.out.keep (grown_of_below hb none))
  replace W := Lib.hid (W.out.trans (hb.mono W.out.size))
  clear hb
  have hbb := BQg.out
  have gc0 : w1.cell? ⟨qg, 0, none⟩ = some (.slice (some ⟨ba, oa, none⟩) n ka) := hbb.cell 0 _ rfl
  have gc1 : w1.cell? ⟨qg, 1, none⟩ = some (.slice (some ⟨bb, ob, none⟩) n kb) := hbb.cell 1 _ rfl
  have gc2 : w1.cell? ⟨qg, 2, none⟩ = some (.slice (some ⟨bc_, oc, none⟩) n kc) := hbb.cell 2 _ rfl
  clear hbb
  go_wp2_with fail
  clear gc0 gc1 gc2
  refine (right_any g _ _ (HV.out.on W.out)).mono ?_
  rintro e w2 ⟨rfl, hb⟩
  replace BQg := Lib.hid (BQg.out.keep (grown_of_below hb none))
  replace W := Lib.hid (W.out.trans (hb.mono W.out.size))
  clear hb
  obtain ⟨z, hz⟩ : ∃ z, g.right.2 = z := ⟨_, rfl⟩
  rw [hz] at hq0 ⊢
  have fq : (((z : Nat) : Int) != 0) = false := by rw [bne_eq_false_iff_eq]; omega
  clear hz hq0
  have hbb := BQg.out
  have gc0 : w2.cell? ⟨qg, 0, none⟩ = some (.slice (some ⟨ba, oa, none⟩) n ka) := hbb.cell 0 _ rfl
  have gc1 : w2.cell? ⟨qg, 1, none⟩ = some (.slice (some ⟨bb, ob, none⟩) n kb) := hbb.cell 1 _ rfl
  have gc2 : w2.cell? ⟨qg, 2, none⟩ = some (.slice (some ⟨bc_, oc, none⟩) n kc) := hbb.cell 2 _ rfl
  clear hbb
  go_wp2_with fail
  clear gc0 gc1 gc2
  have hbb := BQg.out
  have gc0 : w2.cell? ⟨qg, 0, none⟩ = some (.slice (some ⟨ba, oa, none⟩) n ka) := hbb.cell 0 _ rfl
  have gc1 : w2.cell? ⟨qg, 1, none⟩ = some (.slice (some ⟨bb, ob, none⟩) n kb) := hbb.cell 1 _ rfl
  have gc2 : w2.cell? ⟨qg, 2, none⟩ = some (.slice (some ⟨bc_, oc, none⟩) n kc) := hbb.cell 2 _ rfl
  clear hbb
  go_upto_region 7 with (fail)
  clear gc0 gc1 gc2
  obtain ⟨wc, hwc⟩ : ∃ wc, wc = w2 := ⟨_, rfl⟩
  rw [← hwc] at BQg W ⊢
  clear hwc
  have bq : Box (wc.alloc (.cells #[.slice none 0 0, .slice none 0 0, .slice none 0 0] 25)) wc.heap.size 25 #[.slice none 0 0, .slice none 0 0, .slice none 0 0] := Box.new _ _ _
  have hbd := below_of_grown (World.grownBy_alloc wc (.cells #[.slice none 0 0, .slice none 0 0, .slice none 0 0] 25) none)
  generalize (wc.alloc (.cells #[.slice none 0 0, .slice none 0 0, .slice none 0 0] 25)) = wd at bq hbd ⊢
  obtain ⟨qh, hqh⟩ : ∃ qh, wc.heap.size = qh := ⟨_, rfl⟩
  rw [hqh] at bq ⊢
  have BQh := Lib.hid bq
  have HQH := Lib.hid (show wc.heap.size ≤ qh by omega)
  have HBD := Lib.hid hbd
  clear bq hbd hqh
  have GR0 := Lib.hid (show Grw wc wd qh (.slice none 0 0) (.slice none 0 0) (.slice none 0 0) [] P.G.none from ⟨HBD.out, BQh.out, Built.start _ _, HQH.out⟩)
  go_loopw [8] (fun iv wq => ∃ (pp : Nat) (A B C : Value) (L : List Value), iv = .int .i64 ((n : Int) - 1 - (pp : Int)) ∧ pp ≤ n ∧ Grw wc wq qh A B C L (backTo g n pp)) (fun iv _ => (intOf iv + 1).toNat)
  case atStart => exact ⟨0, _, _, _, _, by simp, Nat.zero_le _, by rw [backTo_zero]; exact GR0.out⟩
  case round =>
    obtain ⟨pp, A, B, C, L, rfl, hpn, hgr_⟩ := hrel
    have GR := Lib.hid hgr_
    clear hgr_
    by_cases hlt : pp < n
    · obtain ⟨ii, hii⟩ : ∃ ii : Nat, n - 1 - pp = ii := ⟨_, rfl⟩
      have hcast : (n : Int) - 1 - (pp : Int) = (ii : Int) := by omega
      rw [hcast]
      have hin : ii < n := by omega
      have hki : (ii : Int) < (n : Int) := by omega
      have hk0 : (0 : Int) ≤ (ii : Int) := by omega
      have fk : decide ((0 : Int) ≤ (ii : Int)) = true := decide_eq_true hk0
      have WR := Lib.hid (W.out.trans (GR.out.below.mono W.out.size))
      have hca := HCO.out wr WR.out ii hin
      have hcb := HCB.out wr WR.out ii hin
      obtain ⟨zo, hzo⟩ : ∃ zo, g.owner.getD ii 0 = zo := ⟨_, rfl⟩
      obtain ⟨zp, hzp⟩ : ∃ zp, g.prio.getD ii 0 = zp := ⟨_, rfl⟩
      rw [hzo] at hca
      have HCA := Lib.hid hca
      have HZO := Lib.hid hzo
      have HZP := Lib.hid hzp
      have HII := Lib.hid hii
      have BR := Lib.hid (BQg.out.keep (grown_of_below GR.out.below none))
      have HLN := Lib.hid (backTo_len HR.out HN.out hpn)
      have HBL := Lib.hid (show ba < wc.heap.size from cell_lt (HCO.out wc W.out ii hin))
      clear hca hcb hzo hzp hii
      go_upto_region 10 with (fail)
      refine Rg.wp_region_lit (fun idx => match idx with | 0 => (fun v _ _ => v = (.pointer (some ⟨qh, 0, none⟩))) | 1 => (fun v _ _ => v = A) | 2 => (fun v _ _ => v = (.pointer (some ⟨qg, 0, none⟩))) | 3 => (fun v _ _ => v = (.slice (some ⟨ba, oa, none⟩) n ka)) | 4 => (fun v _ _ => v = (.int .i64 (ii : Int))) | 5 => (fun v _ _ => v = (.pointer (some ⟨ba, oa + ii, none⟩))) | 6 => (fun v _ _ => v = (.int .i64 zo)) | 7 => (fun v _ w' => ∃ p, v = .slice (some ⟨p, 0, none⟩) 1 1 ∧ wr.heap.size ≤ p ∧ p < w'.heap.size ∧ w'.cell? ⟨p, 0, none⟩ = some (.int .i64 zo)) | 8 => (fun v _ w' => w'.ownsRow wc.heap.size 3 1 v (((backTo g n pp)).owner.length + 1) (((backTo g n pp)).owner.map (Value.int .i64) ++ [.int .i64 zo]) ∧ (v.ownBlock = (A : Value).ownBlock ∨ ∃ p, v.ownBlock = some p ∧ wr.heap.size ≤ p)) | 9 => (fun v _ _ => v = (.pointer (some ⟨qh, 0, none⟩))) | _ => fun _ _ _ => True) ((A : Value).ownBlock) 8 (by kernel_rfl) (by rfl) (by kernel_rfl) (by rfl) ?_ ?_ ?_
      · refine ⟨?_, ?_, ?_, ?_, ?_, ?_, ?_, ?_, ?_, ?_, trivial⟩
        · intro A' w' K vals h hn hg hK
          have r0 : A'.tmps[7]?.getD undef = .pointer (some ⟨qh, 0, none⟩) := Rg.slot (h.1)
          clear h hn hg
          simp [Oper.wp, execOp, go_sem, r0]
          exact hK _ _ (Rg.grown_refl _ _) rfl
        · intro A' w' K vals h hn hg hK
          have r0 : A'.tmps[41]?.getD undef = vals 0 := Rg.slot h.1
          have r1 : vals 0 = (.pointer (some ⟨qh, 0, none⟩)) := hn.1
          have c : w'.cell? ⟨qh, 0, none⟩ = some A := (GR.out.box.grown hg (GR.out.neO GR.out.box (by decide))).cell _ _ rfl
          clear h hn
          simp [Oper.wp, execOp, go_sem, r0, r1, c]
          exact hK _ _ (Rg.grown_refl _ _) rfl
        · intro A' w' K vals h hn hg hK
          have r0 : A'.tmps[1]?.getD undef = .pointer (some ⟨qg, 0, none⟩) := Rg.slot (h.1)
          clear h hn hg
          simp [Oper.wp, execOp, go_sem, r0]
          exact hK _ _ (Rg.grown_refl _ _) rfl
        · intro A' w' K vals h hn hg hK
          have r0 : A'.tmps[43]?.getD undef = vals 2 := Rg.slot h.1
          have r1 : vals 2 = (.pointer (some ⟨qg, 0, none⟩)) := hn.1
          have c : w'.cell? ⟨qg, 0, none⟩ = some (.slice (some ⟨ba, oa, none⟩) n ka) := (BR.out.grown hg (GR.out.neO BR.out (by decide))).cell _ _ rfl
          clear h hn
          simp [Oper.wp, execOp, go_sem, r0, r1, c]
          exact hK _ _ (Rg.grown_refl _ _) rfl
        · intro A' w' K vals h hn hg hK
          have r0 : A'.tmps[8]?.getD undef = (.int .i64 (ii : Int)) := Rg.slot (h.1)
          clear h hn hg
          simp [Oper.wp, execOp, go_sem, r0]
          exact hK _ _ (Rg.grown_refl _ _) rfl
        · intro A' w' K vals h hn hg hK
          have r0 : A'.tmps[44]?.getD undef = vals 3 := Rg.slot h.1
          have r1 : A'.tmps[45]?.getD undef = vals 4 := Rg.slot h.2.1
          have r2 : vals 3 = (.slice (some ⟨ba, oa, none⟩) n ka) := hn.1
          have r3 : vals 4 = (.int .i64 (ii : Int)) := hn.2.1
          clear h hn hg
          simp [Oper.wp, execOp, go_sem, r0, r1, r2, r3, hki, hk0]
          exact hK _ _ (Rg.grown_refl _ _) rfl
        · intro A' w' K vals h hn hg hK
          have r0 : A'.tmps[46]?.getD undef = vals 5 := Rg.slot h.1
          have r1 : vals 5 = (.pointer (some ⟨ba, oa + ii, none⟩)) := hn.1
          have c : w'.cell? ⟨ba, oa + ii, none⟩ = some (.int .i64 zo) := hg.cell HCA.out (fun e => by have h1 : wc.heap.size ≤ ba := (own_lt GR.out.built.own.owner _ e.symm).1; have h2 := HBL.out; omega)
          clear h hn
          simp [Oper.wp, execOp, go_sem, r0, r1, c]
          exact hK _ _ (Rg.grown_refl _ _) rfl
        · intro A' w' K vals h hn hg hK
          have r0 : A'.tmps[47]?.getD undef = vals 6 := Rg.slot h.1
          have s0 : vals 6 = .int .i64 zo := hn.1
          clear h hn
          simp [Oper.wp, execOp, go_sem, r0, s0]
          exact hK _ _ (Rg.grown_weak (World.grownBy_alloc _ _ _)) ⟨w'.heap.size, rfl, hg.size, by simp, by simp⟩
        · intro A' w' K vals h hn hg hK
          have r0 : A'.tmps[42]?.getD undef = vals 1 := Rg.slot h.1
          have r1 : A'.tmps[48]?.getD undef = vals 7 := Rg.slot h.2.1
          have r2 : vals 1 = A := hn.1
          obtain ⟨p, e9, hp, hlt9, c9⟩ : ∃ p, vals 7 = .slice (some ⟨p, 0, none⟩) 1 1 ∧ wr.heap.size ≤ p ∧ p < w'.heap.size ∧ w'.cell? ⟨p, 0, none⟩ = some (.int .i64 zo) := hn.2.1
          clear h hn
          have hg : wr.grownBy w' none := hg
          have own : w'.ownsRow wc.heap.size 3 1 A ((backTo g n pp)).owner.length (((backTo g n pp)).owner.map (Value.int .i64)) := own_grown GR.out.built.own.owner hg
          have hlen : ((backTo g n pp)).owner.length = pp := HLN.out.1
          have hrow9 : Row w' (.slice (some ⟨p, 0, none⟩) 1 1) [.int .i64 zo] := ⟨_, _, rfl, .inr ⟨p, 0, rfl, hlt9, fun j u hu => by
            match j, hu with
            | 0, hu => simp at hu; subst hu; exact c9⟩⟩
          obtain ⟨v', w'', hrun, hown, hgr, hat⟩ := run_append elInt 22 own hrow9 (by intro u hu; simp at hu; subst hu; rfl) (by simp; omega) (by simp; omega) (Nat.le_trans GR.out.size hg.size)
          refine op_append rfl (by simp [Act.eval, r0, r2]) (by simp [Act.eval, r1, e9]) hrun (hK _ _ hgr ⟨hown, ?_⟩)
          rcases hat with hat | hat
          · exact .inl hat
          · exact .inr ⟨_, hat, hg.size⟩
        · intro A' w' K vals h hn hg hK
          have r0 : A'.tmps[7]?.getD undef = .pointer (some ⟨qh, 0, none⟩) := Rg.slot (h.1)
          clear h hn hg
          simp [Oper.wp, execOp, go_sem, r0]
          exact hK _ _ (Rg.grown_refl _ _) rfl
      · refine ⟨?_, ?_, ?_, ?_, ?_, ?_, ?_, ?_, ?_, ?_, trivial⟩
        · exact fun _ _ _ _ _ _ h => h
        · exact fun _ _ _ _ _ _ h => h
        · exact fun _ _ _ _ _ _ h => h
        · exact fun _ _ _ _ _ _ h => h
        · exact fun _ _ _ _ _ _ h => h
        · exact fun _ _ _ _ _ _ h => h
        · exact fun _ _ _ _ _ _ h => h
        · exact fun _ _ _ _ _ h ⟨p, hv, hp, hl, hc⟩ => ⟨p, hv, hp, Nat.lt_of_lt_of_le hl h.size, h.cell hc (fun e => by have := (own_lt GR.out.built.own.owner p e.symm).2; omega)⟩
        · exact fun _ _ _ _ _ h ho => ⟨own_grown ho.1 h, ho.2⟩
        · exact fun _ _ _ _ _ _ h => h
      · intro vals w2 G hg hS hG
        have s8 : w2.ownsRow wc.heap.size 3 1 (vals 8) (((backTo g n pp)).owner.length + 1) (((backTo g n pp)).owner.map (Value.int .i64) ++ [.int .i64 zo]) ∧ ((vals 8).ownBlock = (A : Value).ownBlock ∨ ∃ p, (vals 8).ownBlock = some p ∧ wr.heap.size ≤ p) := hS.2.2.2.2.2.2.2.2.1
        have s9 : vals 9 = .pointer (some ⟨qh, 0, none⟩) := hS.2.2.2.2.2.2.2.2.2.1
        clear hS
        obtain ⟨V, hV⟩ : ∃ V, vals 8 = V := ⟨_, rfl⟩
        rw [hV] at s8
        have hgw := GR.out.owner s8.1 hg s8.2
        have hbx := GR.out.box.grown hg (GR.out.neO GR.out.box (by decide))
        have qc : w2.cell? ⟨qh, 0, none⟩ = some A := hbx.cell 0 _ rfl
        have qf : w2.frozen? ⟨qh, 0, none⟩ = false := hbx.frozen 0
        have HGW := Lib.hid hgw
        obtain ⟨vo, vk, rfl, -⟩ := own_at s8.1
        clear hgw hbx s8 hg
        refine hG ?_
        clear hG
        simp [List.dropLast, Rg.putAll, Oper.wp, execOp, go_sem, s9, hV, qc, qf]
        clear qc qf s9 hV
        generalize hwg : (w2.setCell ⟨qh, 0, none⟩ (.slice vo (((backTo g n pp)).owner.length + 1) vk)) = w9 at HGW ⊢
        clear hwg
        obtain ⟨A2, hvn⟩ : ∃ x, Value.slice vo (((backTo g n pp)).owner.length + 1) vk = x := ⟨_, rfl⟩
        obtain ⟨G1, hgn⟩ : ∃ x : P.G, ({ (backTo g n pp) with owner := (backTo g n pp).owner ++ [zo] } : P.G) = x := ⟨_, rfl⟩
        rw [hvn, hgn] at HGW
        rw [hvn]
        have GRB := Lib.hid HGW.out
        have HG1 := Lib.hid hgn
        clear HGW hvn hgn
        have BRB := Lib.hid (BQg.out.keep (grown_of_below GRB.out.below none))
        have WB := Lib.hid (W.out.trans (GRB.out.below.mono W.out.size))
        have hcb := HCB.out w9 WB.out ii hin
        rw [HZP.out] at hcb
        have HCB9 := Lib.hid hcb
        have HLN2 := Lib.hid (show G1.prio.length = pp by rw [← HG1.out]; exact HLN.out.2.1)
        replace HBL := Lib.hid (show bb < wc.heap.size from cell_lt (HCB.out wc W.out ii hin))
        clear hcb
        go_upto_region 11 with (fail)
        refine Rg.wp_region_lit (fun idx => match idx with | 0 => (fun v _ _ => v = (.pointer (some ⟨qh, 1, none⟩))) | 1 => (fun v _ _ => v = B) | 2 => (fun v _ _ => v = (.pointer (some ⟨qg, 1, none⟩))) | 3 => (fun v _ _ => v = (.slice (some ⟨bb, ob, none⟩) n kb)) | 4 => (fun v _ _ => v = (.int .i64 (ii : Int))) | 5 => (fun v _ _ => v = (.pointer (some ⟨bb, ob + ii, none⟩))) | 6 => (fun v _ _ => v = (.int .i64 zp)) | 7 => (fun v _ w' => ∃ p, v = .slice (some ⟨p, 0, none⟩) 1 1 ∧ w9.heap.size ≤ p ∧ p < w'.heap.size ∧ w'.cell? ⟨p, 0, none⟩ = some (.int .i64 zp)) | 8 => (fun v _ w' => w'.ownsRow wc.heap.size 3 1 v ((G1).prio.length + 1) ((G1).prio.map (Value.int .i64) ++ [.int .i64 zp]) ∧ (v.ownBlock = (B : Value).ownBlock ∨ ∃ p, v.ownBlock = some p ∧ w9.heap.size ≤ p)) | 9 => (fun v _ _ => v = (.pointer (some ⟨qh, 1, none⟩))) | _ => fun _ _ _ => True) ((B : Value).ownBlock) 8 (by kernel_rfl) (by rfl) (by kernel_rfl) (by rfl) ?_ ?_ ?_
        · refine ⟨?_, ?_, ?_, ?_, ?_, ?_, ?_, ?_, ?_, ?_, trivial⟩
          · intro A' w' K vals h hn hg hK
            have r0 : A'.tmps[7]?.getD undef = .pointer (some ⟨qh, 0, none⟩) := Rg.slot (h.1)
            clear h hn hg
            simp [Oper.wp, execOp, go_sem, r0]
            exact hK _ _ (Rg.grown_refl _ _) rfl
          · intro A' w' K vals h hn hg hK
            have r0 : A'.tmps[51]?.getD undef = vals 0 := Rg.slot h.1
            have r1 : vals 0 = (.pointer (some ⟨qh, 1, none⟩)) := hn.1
            have c : w'.cell? ⟨qh, 1, none⟩ = some B := (GRB.out.box.grown hg (GRB.out.neP GRB.out.box (by decide))).cell _ _ rfl
            clear h hn
            simp [Oper.wp, execOp, go_sem, r0, r1, c]
            exact hK _ _ (Rg.grown_refl _ _) rfl
          · intro A' w' K vals h hn hg hK
            have r0 : A'.tmps[1]?.getD undef = .pointer (some ⟨qg, 0, none⟩) := Rg.slot (h.1)
            clear h hn hg
            simp [Oper.wp, execOp, go_sem, r0]
            exact hK _ _ (Rg.grown_refl _ _) rfl
          · intro A' w' K vals h hn hg hK
            have r0 : A'.tmps[53]?.getD undef = vals 2 := Rg.slot h.1
            have r1 : vals 2 = (.pointer (some ⟨qg, 1, none⟩)) := hn.1
            have c : w'.cell? ⟨qg, 1, none⟩ = some (.slice (some ⟨bb, ob, none⟩) n kb) := (BRB.out.grown hg (GRB.out.neP BRB.out (by decide))).cell _ _ rfl
            clear h hn
            simp [Oper.wp, execOp, go_sem, r0, r1, c]
            exact hK _ _ (Rg.grown_refl _ _) rfl
          · intro A' w' K vals h hn hg hK
            have r0 : A'.tmps[8]?.getD undef = (.int .i64 (ii : Int)) := Rg.slot (h.1)
            clear h hn hg
            simp [Oper.wp, execOp, go_sem, r0]
            exact hK _ _ (Rg.grown_refl _ _) rfl
          · intro A' w' K vals h hn hg hK
            have r0 : A'.tmps[54]?.getD undef = vals 3 := Rg.slot h.1
            have r1 : A'.tmps[55]?.getD undef = vals 4 := Rg.slot h.2.1
            have r2 : vals 3 = (.slice (some ⟨bb, ob, none⟩) n kb) := hn.1
            have r3 : vals 4 = (.int .i64 (ii : Int)) := hn.2.1
            clear h hn hg
            simp [Oper.wp, execOp, go_sem, r0, r1, r2, r3, hki, hk0]
            exact hK _ _ (Rg.grown_refl _ _) rfl
          · intro A' w' K vals h hn hg hK
            have r0 : A'.tmps[56]?.getD undef = vals 5 := Rg.slot h.1
            have r1 : vals 5 = (.pointer (some ⟨bb, ob + ii, none⟩)) := hn.1
            have c : w'.cell? ⟨bb, ob + ii, none⟩ = some (.int .i64 zp) := hg.cell HCB9.out (fun e => by have h1 : wc.heap.size ≤ bb := (own_lt GRB.out.built.own.prio _ e.symm).1; have h2 := HBL.out; omega)
            clear h hn
            simp [Oper.wp, execOp, go_sem, r0, r1, c]
            exact hK _ _ (Rg.grown_refl _ _) rfl
          · intro A' w' K vals h hn hg hK
            have r0 : A'.tmps[57]?.getD undef = vals 6 := Rg.slot h.1
            have s0 : vals 6 = .int .i64 zp := hn.1
            clear h hn
            simp [Oper.wp, execOp, go_sem, r0, s0]
            exact hK _ _ (Rg.grown_weak (World.grownBy_alloc _ _ _)) ⟨w'.heap.size, rfl, hg.size, by simp, by simp⟩
          · intro A' w' K vals h hn hg hK
            have r0 : A'.tmps[52]?.getD undef = vals 1 := Rg.slot h.1
            have r1 : A'.tmps[58]?.getD undef = vals 7 := Rg.slot h.2.1
            have r2 : vals 1 = B := hn.1
            obtain ⟨p, e9, hp, hlt9, c9⟩ : ∃ p, vals 7 = .slice (some ⟨p, 0, none⟩) 1 1 ∧ w9.heap.size ≤ p ∧ p < w'.heap.size ∧ w'.cell? ⟨p, 0, none⟩ = some (.int .i64 zp) := hn.2.1
            clear h hn
            have hg : w9.grownBy w' none := hg
            have own : w'.ownsRow wc.heap.size 3 1 B (G1).prio.length ((G1).prio.map (Value.int .i64)) := own_grown GRB.out.built.own.prio hg
            have hlen : (G1).prio.length = pp := HLN2.out
            have hrow9 : Row w' (.slice (some ⟨p, 0, none⟩) 1 1) [.int .i64 zp] := ⟨_, _, rfl, .inr ⟨p, 0, rfl, hlt9, fun j u hu => by
              match j, hu with
              | 0, hu => simp at hu; subst hu; exact c9⟩⟩
            obtain ⟨v', w'', hrun, hown, hgr, hat⟩ := run_append elInt 22 own hrow9 (by intro u hu; simp at hu; subst hu; rfl) (by simp; omega) (by simp; omega) (Nat.le_trans GRB.out.size hg.size)
            refine op_append rfl (by simp [Act.eval, r0, r2]) (by simp [Act.eval, r1, e9]) hrun (hK _ _ hgr ⟨hown, ?_⟩)
            rcases hat with hat | hat
            · exact .inl hat
            · exact .inr ⟨_, hat, hg.size⟩
          · intro A' w' K vals h hn hg hK
            have r0 : A'.tmps[7]?.getD undef = .pointer (some ⟨qh, 0, none⟩) := Rg.slot (h.1)
            clear h hn hg
            simp [Oper.wp, execOp, go_sem, r0]
            exact hK _ _ (Rg.grown_refl _ _) rfl
        · refine ⟨?_, ?_, ?_, ?_, ?_, ?_, ?_, ?_, ?_, ?_, trivial⟩
          · exact fun _ _ _ _ _ _ h => h
          · exact fun _ _ _ _ _ _ h => h
          · exact fun _ _ _ _ _ _ h => h
          · exact fun _ _ _ _ _ _ h => h
          · exact fun _ _ _ _ _ _ h => h
          · exact fun _ _ _ _ _ _ h => h
          · exact fun _ _ _ _ _ _ h => h
          · exact fun _ _ _ _ _ h ⟨p, hv, hp, hl, hc⟩ => ⟨p, hv, hp, Nat.lt_of_lt_of_le hl h.size, h.cell hc (fun e => by have := (own_lt GRB.out.built.own.prio p e.symm).2; omega)⟩
          · exact fun _ _ _ _ _ h ho => ⟨own_grown ho.1 h, ho.2⟩
          · exact fun _ _ _ _ _ _ h => h
        · intro vals w2 G hg hS hG
          have s8 : w2.ownsRow wc.heap.size 3 1 (vals 8) ((G1).prio.length + 1) ((G1).prio.map (Value.int .i64) ++ [.int .i64 zp]) ∧ ((vals 8).ownBlock = (B : Value).ownBlock ∨ ∃ p, (vals 8).ownBlock = some p ∧ w9.heap.size ≤ p) := hS.2.2.2.2.2.2.2.2.1
          have s9 : vals 9 = .pointer (some ⟨qh, 1, none⟩) := hS.2.2.2.2.2.2.2.2.2.1
          clear hS
          obtain ⟨V, hV⟩ : ∃ V, vals 8 = V := ⟨_, rfl⟩
          rw [hV] at s8
          have hgw := GRB.out.prio s8.1 hg s8.2
          have hbx := GRB.out.box.grown hg (GRB.out.neP GRB.out.box (by decide))
          have qc : w2.cell? ⟨qh, 1, none⟩ = some B := hbx.cell 1 _ rfl
          have qf : w2.frozen? ⟨qh, 1, none⟩ = false := hbx.frozen 1
          have HGW := Lib.hid hgw
          obtain ⟨vo, vk, rfl, -⟩ := own_at s8.1
          clear hgw hbx s8 hg
          refine hG ?_
          clear hG
          simp [List.dropLast, Rg.putAll, Oper.wp, execOp, go_sem, s9, hV, qc, qf]
          clear qc qf s9 hV
          generalize hwg : (w2.setCell ⟨qh, 1, none⟩ (.slice vo ((G1).prio.length + 1) vk)) = w10 at HGW ⊢
          clear hwg
          obtain ⟨B2, hvn⟩ : ∃ x, Value.slice vo ((G1).prio.length + 1) vk = x := ⟨_, rfl⟩
          obtain ⟨G2, hgn⟩ : ∃ x : P.G, ({ G1 with prio := G1.prio ++ [zp] }) = x := ⟨_, rfl⟩
          rw [hvn, hgn] at HGW
          rw [hvn]
          have GRC := Lib.hid HGW.out
          have HG2 := Lib.hid hgn
          clear HGW hvn hgn
          have WG := Lib.hid (W.out.trans (GRC.out.below.mono W.out.size))
          have BRC := Lib.hid (BQg.out.keep (grown_of_below GRC.out.below none))
          have HG2L := Lib.hid (show G2.moves.length = pp by rw [← HG2.out, ← HG1.out]; exact HLN.out.2.2)
          obtain ⟨x, hcx, hix⟩ := HCR.out w10 WG.out ii hin
          obtain ⟨row, hrow⟩ : ∃ row, g.moves.getD ii [] = row := ⟨_, rfl⟩
          have hat4 := HR.out.at ii (by rw [HN.out]; exact hin)
          rw [hrow] at hix hat4
          have HROW := Lib.hid hrow
          obtain ⟨ml, hml⟩ : ∃ ml, row.length = ml := ⟨_, rfl⟩
          have hml2 : 0 < ml := by rw [← hml]; exact List.length_pos_iff.2 hat4.2.2.2.1
          have hml200 : ml ≤ 200 := by
            have h1 := hat4.2.2.2.2
            rw [HN.out] at h1
            rw [← hml]
            exact P.rise_len h1 hmany
          have HRB := Lib.hid (show ∀ z ∈ row, 0 ≤ z ∧ z < (n : Int) by
            intro z hz
            have h1 := hat4.2.2.2.2
            rw [HN.out] at h1
            have := P.rise_bounds h1 z hz
            omega)
          obtain ⟨bm, om, km, rfl, hcm⟩ := hix.open_ hml hml2
          have HRX := Lib.hid hcx
          have HCM := Lib.hid hcm
          have HML := Lib.hid hml
          clear hcx hcm hml hat4 hrow
          have hrx := HRX.out
          have hbb := BRC.out
          have gc0 : w10.cell? ⟨qg, 0, none⟩ = some (.slice (some ⟨ba, oa, none⟩) n ka) := hbb.cell 0 _ rfl
          have gc1 : w10.cell? ⟨qg, 1, none⟩ = some (.slice (some ⟨bb, ob, none⟩) n kb) := hbb.cell 1 _ rfl
          have gc2 : w10.cell? ⟨qg, 2, none⟩ = some (.slice (some ⟨bc_, oc, none⟩) n kc) := hbb.cell 2 _ rfl
          clear hbb
          go_upto_region 14 with (fail)
          clear gc0 gc1 gc2 hrx
          go_loopw [9, 10] (fun lv kv wq => ∃ r : Nat, kv = .int .i64 ((ml : Int) - 1 - (r : Int)) ∧ r ≤ ml ∧ OwnI wq w10.heap.size lv ((P.backRow n row).take r) ∧ Below w10.heap.size w10 wq) (fun _ kv _ => (intOf kv + 1).toNat)
          case atStart => exact ⟨0, by simp, Nat.zero_le _, OwnI.nil _ _, Below.refl _ _⟩
          case round =>
            obtain ⟨r, rfl, hrm, hown_, hbi⟩ := hrel
            have HOI := Lib.hid hown_
            have HBI := Lib.hid hbi
            clear hown_ hbi
            have WI := Lib.hid (WG.out.trans (HBI.out.mono WG.out.size))
            have BRI := Lib.hid (BRC.out.keep (grown_of_below HBI.out none))
            have hrx := (grown_of_below HBI.out none).cell HRX.out (by simp)
            have hbb := BRI.out
            have gc0 : wr.cell? ⟨qg, 0, none⟩ = some (.slice (some ⟨ba, oa, none⟩) n ka) := hbb.cell 0 _ rfl
            have gc1 : wr.cell? ⟨qg, 1, none⟩ = some (.slice (some ⟨bb, ob, none⟩) n kb) := hbb.cell 1 _ rfl
            have gc2 : wr.cell? ⟨qg, 2, none⟩ = some (.slice (some ⟨bc_, oc, none⟩) n kc) := hbb.cell 2 _ rfl
            clear hbb
            by_cases hrl : r < ml
            · obtain ⟨jj, hjj⟩ : ∃ jj : Nat, ml - 1 - r = jj := ⟨_, rfl⟩
              have hcast2 : (ml : Int) - 1 - (r : Int) = (jj : Int) := by omega
              rw [hcast2]
              have hjl : jj < ml := by omega
              have hji : (jj : Int) < (ml : Int) := by omega
              have hj0 : (0 : Int) ≤ (jj : Int) := by omega
              have fj : decide ((0 : Int) ≤ (jj : Int)) = true := decide_eq_true hj0
              have hcm := HCM.out wr HBI.out jj hjl
              obtain ⟨mz, hmz⟩ : ∃ mz, row.getD jj 0 = mz := ⟨_, rfl⟩
              have hmb := HRB.out mz (by rw [← hmz]; exact getD_mem_ (by rw [HML.out]; exact hjl))
              rw [hmz] at hcm
              obtain ⟨hmb0, hmbn⟩ := hmb
              have HTK := Lib.hid (show (P.backRow n row).take (r + 1) = (P.backRow n row).take r ++ [(n : Int) - 1 - mz] by
                rw [take_snoc_ (d := 0) (by rw [backRow_len, HML.out]; exact hrl), backRow_at (by rw [HML.out]; exact hrl), HML.out, hjj, hmz])
              have HLT := Lib.hid (show ((P.backRow n row).take r).length = r by rw [List.length_take, backRow_len, HML.out]; omega)
              clear hmz hjj
              go_upto_region 16 with (fail)
              go_wp2_with (at_builtin; refine wpl_append elInt rfl (.tmp 72) (.tmp 84) rfl rfl (own_grown HOI.out (World.grownBy_alloc _ _ none)) rfl (row_one _ _ _) ?_ ?_ ?_ ?_ ?_)
              · intro u hu; simp at hu; subst hu; rfl
              · have h1 := HLT.out; show (((P.backRow n row).take r).length + 1) * 8 ≤ 140737488355328; omega
              · have h1 := HLT.out; show ((P.backRow n row).take r).length + 1 ≤ _; first | omega | (simp; omega)
              · have := HBI.out.size; simp; omega
              intro v' w7 hown hgr hat
              have HREL := Lib.hid (show OwnI w7 w10.heap.size v' ((P.backRow n row).take (r + 1)) ∧ Below w10.heap.size w10 w7 from ⟨by
                rw [HTK.out]
                unfold OwnI
                simpa using hown, HBI.out.trans (((Below.refl w10.heap.size wr).alloc HBI.out.size _).grown hgr (by have := HBI.out.size; simp; omega) (fun b hb => (own_lt HOI.out b hb).1))⟩)
              clear hown hgr hat hrx hcm
              go_wp2_with fail
              go_roundw
              case rel => exact ⟨r + 1, by first | rfl | (congr 1 <;> omega), by omega, HREL.out.1, HREL.out.2⟩
              case measure => simp [intOf]
            · obtain rfl : ml = r := by omega
              have hcast2 : (ml : Int) - 1 - (ml : Int) = -1 := by omega
              rw [hcast2]
              have fj : decide ((0 : Int) ≤ -1) = false := by decide
              have hiown := HOI.out
              rw [List.take_of_length_le (by rw [backRow_len, HML.out]; omega)] at hiown
              have GI := Lib.hid (GRC.out.on (grown_of_below HBI.out none))
              clear hrx gc0 gc1 gc2 hrl hrm
              obtain ⟨vo, vk, rfl, -⟩ := own_at hiown
              have hbx := GI.out.box
              have qc2 : wr.cell? ⟨qh, 2, none⟩ = some C := hbx.cell 2 _ rfl
              clear hbx
              have HIO := Lib.hid hiown
              clear hiown
              go_upto_region 17 with (fail)
              go_wp2_with (at_builtin; refine wpl_append elInts rfl (.tmp 87) (.tmp 89) rfl rfl (own_grown GI.out.built.own.head (World.grownBy_alloc _ _ none)) rfl (row_one _ _ _) ?_ ?_ ?_ ?_ ?_)
              · intro u hu; simp at hu; subst hu; rfl
              · have h1 := HG2L.out; show (G2.moves.length + 1) * 24 ≤ 140737488355328; omega
              · have h1 := HG2L.out; show G2.moves.length + 1 ≤ _; first | omega | (simp; omega)
              · have := GI.out.size; simp; omega
              intro v' w13 hown hgr hat
              have hown2 : w13.ownsRow wc.heap.size 22 1 v' (G2.moves.length + 1) (L ++ [.slice vo (P.backRow n row).length vk]) := hown
              have hal := World.grownBy_alloc wr (.cells #[.slice vo (P.backRow n row).length vk] 22) none
              have hgw := GRC.out.row ((grown_of_below HBI.out none).trans hal) (own_grown HIO.out hal) hown2 hgr
              obtain ⟨co3, ck3, rfl, -⟩ := own_at hown2
              have hbx := (GI.out.on hal).box.grown hgr (fun e => own_box (GI.out.on hal).built.own.head (GI.out.on hal).box (by decide) e.symm)
              have qc3 : w13.cell? ⟨qh, 2, none⟩ = some C := hbx.cell 2 _ rfl
              have qf3 : w13.frozen? ⟨qh, 2, none⟩ = false := hbx.frozen 2
              have HREL := Lib.hid (show Grw wc (w13.setCell ⟨qh, 2, none⟩ (.slice co3 (G2.moves.length + 1) ck3)) qh A2 B2 (.slice co3 (G2.moves.length + 1) ck3) (L ++ [.slice vo (P.backRow n row).length vk]) (backTo g n (pp + 1)) by
                rw [backTo_succ HR.out HN.out hlt, HII.out, HZO.out, HZP.out, HROW.out]
                have e2 : ({ G2 with moves := G2.moves ++ [P.backRow n row] } : P.G) = ⟨(backTo g n pp).owner ++ [zo], (backTo g n pp).prio ++ [zp], (backTo g n pp).moves ++ [P.backRow n row]⟩ := by rw [← HG2.out, ← HG1.out]
                rw [← e2]
                exact hgw)
              clear hown hown2 hal hgw hbx hgr hat qc2
              go_wp2_with fail
              go_roundw
              case rel => exact ⟨pp + 1, _, _, _, _, by first | rfl | (congr 1 <;> omega), by omega, HREL.out⟩
              case measure => simp [intOf]
    · obtain rfl : n = pp := by omega
      have hcast : (n : Int) - 1 - (n : Int) = -1 := by omega
      rw [hcast]
      have fk : decide ((0 : Int) ≤ -1) = false := by decide
      clear hlt hpn hcast
      have HBR := Lib.hid (HR.out.back HN.out)
      have Gh := Lib.hid (show GameV wr (.agg #[A, B, C]) (g.back n) by
        have h1 := GR.out
        rw [backTo_all HR.out HN.out] at h1
        exact h1.game HBR.out.1)
      replace BQg := Lib.hid (BQg.out.keep (grown_of_below GR.out.below none))
      have BQh := Lib.hid GR.out.box
      have W2 := Lib.hid (W.out.trans (GR.out.below.mono W.out.size))
      clear W GR
      have W := W2
      clear W2
      have hbb := BQg.out
      have gc0 : wr.cell? ⟨qg, 0, none⟩ = some (.slice (some ⟨ba, oa, none⟩) n ka) := hbb.cell 0 _ rfl
      have gc1 : wr.cell? ⟨qg, 1, none⟩ = some (.slice (some ⟨bb, ob, none⟩) n kb) := hbb.cell 1 _ rfl
      have gc2 : wr.cell? ⟨qg, 2, none⟩ = some (.slice (some ⟨bc_, oc, none⟩) n kc) := hbb.cell 2 _ rfl
      clear hbb
      go_wp2_with fail
      clear gc0 gc1 gc2
      refine (decomp_any g HR.out n HN.out _ wr (HV.out.on W.out) (T.out.on W.out)).mono ?_
      rintro e w7 ⟨Xa, Ya, cha, depa, ra0, ra1, ba0, ba1, rfl, hd, hb⟩
      obtain ⟨xa0, ka0, rfl, -⟩ := own_at hd.zero.1
      obtain ⟨xa1, ka1, rfl, -⟩ := own_at hd.one.1
      have Da := Lib.hid hd
      have Ia0 := Lib.hid hd.zero.ints
      have Ia1 := Lib.hid hd.one.ints
      replace BQh := Lib.hid (BQh.out.keep (grown_of_below hb none))
      replace Gh := Lib.hid (Gh.out.on hb)
      replace W := Lib.hid (W.out.trans (hb.mono W.out.size))
      clear hb hd
      go_upto_region 19 with (fail)
      have bq : Box (w7.alloc (.cells #[.slice xa0 (P.lst Xa).length ka0, .slice xa1 (P.lst Ya).length ka1, .slice (some ⟨ba0, 0, none⟩) n n, .slice (some ⟨ba1, 0, none⟩) n n] 32)) w7.heap.size 32 #[.slice xa0 (P.lst Xa).length ka0, .slice xa1 (P.lst Ya).length ka1, .slice (some ⟨ba0, 0, none⟩) n n, .slice (some ⟨ba1, 0, none⟩) n n] := Box.new _ _ _
      have hgq := World.grownBy_alloc w7 (.cells #[.slice xa0 (P.lst Xa).length ka0, .slice xa1 (P.lst Ya).length ka1, .slice (some ⟨ba0, 0, none⟩) n n, .slice (some ⟨ba1, 0, none⟩) n n] 32) none
      replace BQh := Lib.hid (BQh.out.keep hgq)
      replace Gh := Lib.hid (Gh.out.on (below_of_grown hgq))
      replace W := Lib.hid (W.out.trans ((below_of_grown hgq).mono W.out.size))
      replace Ia0 := Lib.hid (Ia0.out.on (below_of_grown hgq))
      replace Ia1 := Lib.hid (Ia1.out.on (below_of_grown hgq))
      generalize (w7.alloc (.cells #[.slice xa0 (P.lst Xa).length ka0, .slice xa1 (P.lst Ya).length ka1, .slice (some ⟨ba0, 0, none⟩) n n, .slice (some ⟨ba1, 0, none⟩) n n] 32)) = wf at bq BQh Gh W Ia0 Ia1 ⊢
      generalize w7.heap.size = qa at bq ⊢
      have BQa := Lib.hid bq
      clear bq hgq
      have hbb := BQh.out
      have hc0 : wf.cell? ⟨qh, 0, none⟩ = some A := hbb.cell 0 _ rfl
      have hc1 : wf.cell? ⟨qh, 1, none⟩ = some B := hbb.cell 1 _ rfl
      have hc2 : wf.cell? ⟨qh, 2, none⟩ = some C := hbb.cell 2 _ rfl
      clear hbb
      go_wp2_with fail
      clear hc0 hc1 hc2
      refine (decomp_any (g.back n) HBR.out.1 n HBR.out.2 _ wf Gh.out (T.out.on W.out)).mono ?_
      rintro e w8 ⟨Xb, Yb, chb, depb, rb0, rb1, bb0, bb1, rfl, hd, hb⟩
      obtain ⟨xb0, kb0, rfl, -⟩ := own_at hd.zero.1
      obtain ⟨xb1, kb1, rfl, -⟩ := own_at hd.one.1
      have Db := Lib.hid hd
      have Ib0 := Lib.hid hd.zero.ints
      have Ib1 := Lib.hid hd.one.ints
      replace BQa := Lib.hid (BQa.out.keep (grown_of_below hb none))
      replace Ia0 := Lib.hid (Ia0.out.on hb)
      replace W := Lib.hid (W.out.trans (hb.mono W.out.size))
      clear hb hd
      go_upto_region 20 with (fail)
      have bq : Box (w8.alloc (.cells #[.slice xb0 (P.lst Xb).length kb0, .slice xb1 (P.lst Yb).length kb1, .slice (some ⟨bb0, 0, none⟩) n n, .slice (some ⟨bb1, 0, none⟩) n n] 32)) w8.heap.size 32 #[.slice xb0 (P.lst Xb).length kb0, .slice xb1 (P.lst Yb).length kb1, .slice (some ⟨bb0, 0, none⟩) n n, .slice (some ⟨bb1, 0, none⟩) n n] := Box.new _ _ _
      have hgq := World.grownBy_alloc w8 (.cells #[.slice xb0 (P.lst Xb).length kb0, .slice xb1 (P.lst Yb).length kb1, .slice (some ⟨bb0, 0, none⟩) n n, .slice (some ⟨bb1, 0, none⟩) n n] 32) none
      replace BQa := Lib.hid (BQa.out.keep hgq)
      replace Ia0 := Lib.hid (Ia0.out.on (below_of_grown hgq))
      replace W := Lib.hid (W.out.trans ((below_of_grown hgq).mono W.out.size))
      replace Ib0 := Lib.hid (Ib0.out.on (below_of_grown hgq))
      replace Ib1 := Lib.hid (Ib1.out.on (below_of_grown hgq))
      generalize (w8.alloc (.cells #[.slice xb0 (P.lst Xb).length kb0, .slice xb1 (P.lst Yb).length kb1, .slice (some ⟨bb0, 0, none⟩) n n, .slice (some ⟨bb1, 0, none⟩) n n] 32)) = wh at bq BQa Ia0 W Ib0 Ib1 ⊢
      generalize w8.heap.size = qb at bq ⊢
      have BQb := Lib.hid bq
      clear bq hgq
      have HSM := Lib.hid (fun (i : Nat) (hi : i < n) => P.back_same HR.out HN.out (fun i => (P.full_bits HR.out HN.out).1 i) Da.out.ap Db.out.ap hi)
      have hbb := BQa.out
      have pc0 : wh.cell? ⟨qa, 0, none⟩ = some (.slice xa0 (P.lst Xa).length ka0) := hbb.cell 0 _ rfl
      have pc1 : wh.cell? ⟨qa, 1, none⟩ = some (.slice xa1 (P.lst Ya).length ka1) := hbb.cell 1 _ rfl
      have pc2 : wh.cell? ⟨qa, 2, none⟩ = some (.slice (some ⟨ba0, 0, none⟩) n n) := hbb.cell 2 _ rfl
      have pc3 : wh.cell? ⟨qa, 3, none⟩ = some (.slice (some ⟨ba1, 0, none⟩) n n) := hbb.cell 3 _ rfl
      clear hbb
      go_wp2_with fail
      clear pc0 pc1 pc2 pc3
      refine (of_ints Ia0.out).mono ?_
      rintro e wi ⟨rfl, hb⟩
      rw [ofL_lst]
      replace BQb := Lib.hid (BQb.out.keep (grown_of_below hb none))
      replace Ib0 := Lib.hid (Ib0.out.on hb)
      replace W := Lib.hid (W.out.trans (hb.mono W.out.size))
      clear hb
      go_upto_region 21 with (fail)
      have bq : Box (wi.alloc (.cells #[.int .u64 (P.wrd Xa 0), .int .u64 (P.wrd Xa 1), .int .u64 (P.wrd Xa 2), .int .u64 (P.wrd Xa 3)] 45)) wi.heap.size 45 #[.int .u64 (P.wrd Xa 0), .int .u64 (P.wrd Xa 1), .int .u64 (P.wrd Xa 2), .int .u64 (P.wrd Xa 3)] := Box.new _ _ _
      have hgq := World.grownBy_alloc wi (.cells #[.int .u64 (P.wrd Xa 0), .int .u64 (P.wrd Xa 1), .int .u64 (P.wrd Xa 2), .int .u64 (P.wrd Xa 3)] 45) none
      replace BQb := Lib.hid (BQb.out.keep hgq)
      replace Ib0 := Lib.hid (Ib0.out.on (below_of_grown hgq))
      replace W := Lib.hid (W.out.trans ((below_of_grown hgq).mono W.out.size))
      generalize (wi.alloc (.cells #[.int .u64 (P.wrd Xa 0), .int .u64 (P.wrd Xa 1), .int .u64 (P.wrd Xa 2), .int .u64 (P.wrd Xa 3)] 45)) = wj at bq BQb Ib0 W ⊢
      generalize wi.heap.size = qx at bq ⊢
      have BQx := Lib.hid bq
      clear bq hgq
      have hbb := BQb.out
      have pc0 : wj.cell? ⟨qb, 0, none⟩ = some (.slice xb0 (P.lst Xb).length kb0) := hbb.cell 0 _ rfl
      have pc1 : wj.cell? ⟨qb, 1, none⟩ = some (.slice xb1 (P.lst Yb).length kb1) := hbb.cell 1 _ rfl
      have pc2 : wj.cell? ⟨qb, 2, none⟩ = some (.slice (some ⟨bb0, 0, none⟩) n n) := hbb.cell 2 _ rfl
      have pc3 : wj.cell? ⟨qb, 3, none⟩ = some (.slice (some ⟨bb1, 0, none⟩) n n) := hbb.cell 3 _ rfl
      clear hbb
      go_wp2_with fail
      clear pc0 pc1 pc2 pc3
      refine (of_ints Ib0.out).mono ?_
      rintro e wk ⟨rfl, hb⟩
      rw [ofL_lst]
      replace BQx := Lib.hid (BQx.out.keep (grown_of_below hb none))
      replace W := Lib.hid (W.out.trans (hb.mono W.out.size))
      clear hb
      go_upto_region 22 with (fail)
      have bq : Box (wk.alloc (.cells #[.int .u64 (P.wrd Xb 0), .int .u64 (P.wrd Xb 1), .int .u64 (P.wrd Xb 2), .int .u64 (P.wrd Xb 3)] 45)) wk.heap.size 45 #[.int .u64 (P.wrd Xb 0), .int .u64 (P.wrd Xb 1), .int .u64 (P.wrd Xb 2), .int .u64 (P.wrd Xb 3)] := Box.new _ _ _
      have hgq := World.grownBy_alloc wk (.cells #[.int .u64 (P.wrd Xb 0), .int .u64 (P.wrd Xb 1), .int .u64 (P.wrd Xb 2), .int .u64 (P.wrd Xb 3)] 45) none
      replace BQx := Lib.hid (BQx.out.keep hgq)
      replace W := Lib.hid (W.out.trans ((below_of_grown hgq).mono W.out.size))
      generalize (wk.alloc (.cells #[.int .u64 (P.wrd Xb 0), .int .u64 (P.wrd Xb 1), .int .u64 (P.wrd Xb 2), .int .u64 (P.wrd Xb 3)] 45)) = wz at bq BQx W ⊢
      generalize wk.heap.size = qy at bq ⊢
      have BQy := Lib.hid bq
      clear bq hgq
      go_wp2_with fail
      go_loopw [17] (fun iv wq => ∃ k : Nat, iv = .int .i64 (k : Int) ∧ k ≤ n ∧ Below wz.heap.size wz wq) (fun iv _ => n - (intOf iv).toNat)
      case atStart => exact ⟨0, rfl, Nat.zero_le _, Below.refl _ _⟩
      case round =>
        obtain ⟨k, rfl, hkn, hbw⟩ := hrel
        have HBW := Lib.hid hbw
        clear hbw
        by_cases hlt : k < n
        · have fk : decide ((k : Int) < (n : Int)) = true := decide_eq_true (by omega)
          obtain ⟨jj, hjj⟩ : ∃ jj : Nat, n - 1 - k = jj := ⟨_, rfl⟩
          have hw1 : IntKind.i64.wrap ((n : Int) - 1) = (n : Int) - 1 := by rw [IntKind.wrap_i64]; omega
          have hw2 : (n : Int) - 1 - (k : Int) = (jj : Int) := by omega
          have hw3 : IntKind.i64.wrap (jj : Int) = (jj : Int) := by rw [IntKind.wrap_i64]; omega
          replace BQx := Lib.hid (BQx.out.keep (grown_of_below HBW.out none))
          replace BQy := Lib.hid (BQy.out.keep (grown_of_below HBW.out none))
          have HEQ := Lib.hid (show P.has Xa (k : Int) = P.has Xb (jj : Int) by
            rw [P.has_nat, P.has_nat, Bool.eq_iff_iff, ← hjj]
            exact HSM.out k hlt)
          go_upto_region 25 with (fail)
          clear hjj
          refine Rt.wp_region_tail 1 (fun idx => match idx with | 0 => (fun v _ _ => v = .agg #[.int .u64 (P.wrd Xa 0), .int .u64 (P.wrd Xa 1), .int .u64 (P.wrd Xa 2), .int .u64 (P.wrd Xa 3)]) | 1 => (fun v _ _ => v = (.int .i64 (k : Int))) | 2 => (fun v _ _ => v = .bool (P.has Xa (k : Int))) | 3 => (fun v _ _ => v = .agg #[.int .u64 (P.wrd Xb 0), .int .u64 (P.wrd Xb 1), .int .u64 (P.wrd Xb 2), .int .u64 (P.wrd Xb 3)]) | 4 => (fun v _ _ => v = (.int .i64 (n : Int))) | 5 => (fun v _ _ => v = (.int .i64 ((n : Int) - 1))) | 6 => (fun v _ _ => v = (.int .i64 (k : Int))) | 7 => (fun v _ _ => v = (.int .i64 (jj : Int))) | 8 => (fun v _ _ => v = .bool (P.has Xb (jj : Int))) | _ => fun _ _ _ => True) (fun _ _ _ _ => True) (Rk.allK) 99 (by kernel_rfl) (by rfl) (by kernel_rfl) (by rfl) ?_ ?_ ?_ ?_
          · refine ⟨?_, ?_, ?_, ?_, ?_, ?_, ?_, ?_, ?_, trivial⟩
            · intro A w' K vals h hn hT hgk hK0
              have r0 : A.tmps[15]?.getD undef = (.pointer (some ⟨qx, 0, none⟩)) := Rg.slot h.1
              have bs := BQx.out.keep (Rk.grown_of hgk)
              have cc0 : w'.cell? ⟨qx, 0, none⟩ = some (.int .u64 (P.wrd Xa 0)) := bs.cell 0 _ rfl
              have cc1 : w'.cell? ⟨qx, 1, none⟩ = some (.int .u64 (P.wrd Xa 1)) := bs.cell 1 _ rfl
              have cc2 : w'.cell? ⟨qx, 2, none⟩ = some (.int .u64 (P.wrd Xa 2)) := bs.cell 2 _ rfl
              have cc3 : w'.cell? ⟨qx, 3, none⟩ = some (.int .u64 (P.wrd Xa 3)) := bs.cell 3 _ rfl
              clear h hn hT hgk bs
              simp [Oper.wp, execOp, go_sem, r0, cc0, cc1, cc2, cc3]
              exact hK0 _ _ (Rk.Keeps.refl _ _) rfl trivial
            · intro A w' K vals h hn hT hgk hK0
              have r0 : A.tmps[17]?.getD undef = .int .i64 (k : Int) := Rg.slot h.1
              clear h hn hT hgk
              simp [Oper.wp, execOp, go_sem, r0]
              exact hK0 _ _ (Rk.Keeps.refl _ _) rfl trivial
            · intro A w' K vals h hn hT hgk hK0
              have r0 : A.tmps[115]?.getD undef = vals 0 := Rg.slot h.2.1
              have r1 : A.tmps[116]?.getD undef = vals 1 := Rg.slot h.2.2.1
              have s0 : vals 0 = .agg #[.int .u64 (P.wrd Xa 0), .int .u64 (P.wrd Xa 1), .int .u64 (P.wrd Xa 2), .int .u64 (P.wrd Xa 3)] := hn.1
              have s1 : vals 1 = (.int .i64 (k : Int)) := hn.2.1
              clear h hn hT hgk
              simp [Oper.wp, go_sem, r0, r1, s0, s1]
              refine (has_any Xa _ w').mono ?_
              rintro e w'' ⟨rfl, hb⟩
              exact hK0 _ _ (Rk.keep_of (grown_of_below hb _)) rfl trivial
            · intro A w' K vals h hn hT hgk hK0
              have r0 : A.tmps[16]?.getD undef = (.pointer (some ⟨qy, 0, none⟩)) := Rg.slot h.1
              have bs := BQy.out.keep (Rk.grown_of hgk)
              have cc0 : w'.cell? ⟨qy, 0, none⟩ = some (.int .u64 (P.wrd Xb 0)) := bs.cell 0 _ rfl
              have cc1 : w'.cell? ⟨qy, 1, none⟩ = some (.int .u64 (P.wrd Xb 1)) := bs.cell 1 _ rfl
              have cc2 : w'.cell? ⟨qy, 2, none⟩ = some (.int .u64 (P.wrd Xb 2)) := bs.cell 2 _ rfl
              have cc3 : w'.cell? ⟨qy, 3, none⟩ = some (.int .u64 (P.wrd Xb 3)) := bs.cell 3 _ rfl
              clear h hn hT hgk bs
              simp [Oper.wp, execOp, go_sem, r0, cc0, cc1, cc2, cc3]
              exact hK0 _ _ (Rk.Keeps.refl _ _) rfl trivial
            · intro A w' K vals h hn hT hgk hK0
              have r0 : A.tmps[6]?.getD undef = .int .i64 (n : Int) := Rg.slot h.1
              clear h hn hT hgk
              simp [Oper.wp, execOp, go_sem, r0]
              exact hK0 _ _ (Rk.Keeps.refl _ _) rfl trivial
            · intro A w' K vals h hn hT hgk hK0
              have r0 : A.tmps[119]?.getD undef = vals 4 := Rg.slot h.1
              have s0 : vals 4 = (.int .i64 (n : Int)) := hn.1
              clear h hn hT hgk
              simp [Oper.wp, execOp, go_sem, r0, s0, hw1]
              exact hK0 _ _ (Rk.Keeps.refl _ _) rfl trivial
            · intro A w' K vals h hn hT hgk hK0
              have r0 : A.tmps[17]?.getD undef = .int .i64 (k : Int) := Rg.slot h.1
              clear h hn hT hgk
              simp [Oper.wp, execOp, go_sem, r0]
              exact hK0 _ _ (Rk.Keeps.refl _ _) rfl trivial
            · intro A w' K vals h hn hT hgk hK0
              have r0 : A.tmps[120]?.getD undef = vals 5 := Rg.slot h.1
              have s0 : vals 5 = (.int .i64 ((n : Int) - 1)) := hn.1
              have r1 : A.tmps[121]?.getD undef = vals 6 := Rg.slot h.2.1
              have s1 : vals 6 = (.int .i64 (k : Int)) := hn.2.1
              clear h hn hT hgk
              simp [Oper.wp, execOp, go_sem, r0, r1, s0, s1, hw2, hw3]
              exact hK0 _ _ (Rk.Keeps.refl _ _) rfl trivial
            · intro A w' K vals h hn hT hgk hK0
              have r0 : A.tmps[118]?.getD undef = vals 3 := Rg.slot h.2.1
              have r1 : A.tmps[122]?.getD undef = vals 7 := Rg.slot h.2.2.1
              have s0 : vals 3 = .agg #[.int .u64 (P.wrd Xb 0), .int .u64 (P.wrd Xb 1), .int .u64 (P.wrd Xb 2), .int .u64 (P.wrd Xb 3)] := hn.1
              have s1 : vals 7 = (.int .i64 (jj : Int)) := hn.2.1
              clear h hn hT hgk
              simp [Oper.wp, go_sem, r0, r1, s0, s1]
              refine (has_any Xb _ w').mono ?_
              rintro e w'' ⟨rfl, hb⟩
              exact hK0 _ _ (Rk.keep_of (grown_of_below hb _)) rfl trivial
          · refine ⟨?_, ?_, ?_, ?_, ?_, ?_, ?_, ?_, ?_, trivial⟩
            · exact fun _ _ _ _ _ _ h => h
            · exact fun _ _ _ _ _ _ h => h
            · exact fun _ _ _ _ _ _ h => h
            · exact fun _ _ _ _ _ _ h => h
            · exact fun _ _ _ _ _ _ h => h
            · exact fun _ _ _ _ _ _ h => h
            · exact fun _ _ _ _ _ _ h => h
            · exact fun _ _ _ _ _ _ h => h
            · exact fun _ _ _ _ _ _ h => h
          · exact fun _ _ _ _ _ _ h => h
          · intro vals w8 G hgk hS hG
            have s2 : vals 2 = .bool (P.has Xa (k : Int)) := hS.2.2.1
            have s8 : vals 8 = .bool (P.has Xb (jj : Int)) := hS.2.2.2.2.2.2.2.2.1
            clear hS
            have hg := Rk.grown_of hgk
            have HB8 := Lib.hid (HBW.out.trans ((below_of_grown hg).mono HBW.out.size))
            rw [HEQ.out] at s2
            clear hgk hg
            refine hG ?_
            clear hG
            simp only [List.take, List.drop, List.length, Nat.reduceSub, Nat.reduceAdd, Rg.putAll, Act.put, List.setIfInBounds_toArray, List.set_cons_succ, List.set_cons_zero, s2, s8]
            clear s2 s8
            obtain ⟨t, ht⟩ : ∃ t, P.has Xb (jj : Int) = t := ⟨_, rfl⟩
            rw [ht]
            clear ht
            have ft : (t != t) = false := by cases t <;> rfl
            go_wp2_with fail
            go_roundw
            case rel => exact ⟨k + 1, by go_num, by omega, HB8.out⟩
            case measure => simp [intOf]; omega
        · have fk : decide ((k : Int) < (n : Int)) = false := decide_eq_false (by omega)
          have WZ := Lib.hid (W.out.trans (HBW.out.mono W.out.size))
          go_wp2_with fail
          exact bodyPost_ret (v := .bool true) (by simp [results, Tryd.results6, go_sem]) rfl ⟨rfl, WZ.out⟩
theorem moved_law (g : P.G) (v : Value) (w : World) (hv : GameV w v g) (hT : Tab w) : Calls Tryd.prog 6 #[v] w fun e w' => e = .returned (.bool true) ∧ Below w.heap.size w w' := by
  cases hok : g.ok
  · exact moved_wrong_ g hok v w hv hT
  · exact moved_right_ g ((P.G.ok_iff g).1 hok) v w hv hT
end W
end Go.Proofs.YtpjmboonaciplaaDoor
