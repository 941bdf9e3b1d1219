/- The play that goes a way and comes back to a place of it: the walk. -/
import Derived.Test.YtghdjkpndhcplaaTellP
import Derived.Test.YtghdjkpndhcplaaCopy
import Derived.Deep.Cut
import Derived.Lib.Hide
import Derived.Deep.QuietTactic
import Derived.BigQuiet
import Derived.StillTailTactics
namespace Go.Proofs.Ytghdjkpndhcplaa
open Go.RowKit
namespace W

theorem ints_take {w : World} {b o m cz i : Nat} {zs : List Int} (h : Ints w (.slice (some ⟨b, o, none⟩) m cz) zs) (hm : zs.length = m) (hi : i ≤ m) : Ints w (.slice (some ⟨b, o, none⟩) i cz) (zs.take i) := by
  obtain ⟨ao, cap, he, h1, h2⟩ := h
  injection he with ha _ hc
  subst ha hc
  have hl : (zs.take i).length = i := by rw [List.length_take]; omega
  refine ⟨_, _, by rw [hl], by omega, ?_⟩
  rcases h2 with h2 | ⟨b', off, h3, h4, h5⟩
  · exact .inl (by rw [h2]; simp)
  · refine .inr ⟨b', off, h3, h4, fun j hj => ?_⟩
    rw [h5 j (by omega), List.getD_eq_getElem?_getD, List.getD_eq_getElem?_getD, List.getElem?_take_of_lt (by omega)]
theorem ints_drop {w : World} {b o m cz i k : Nat} {zs : List Int} (h : Ints w (.slice (some ⟨b, o, none⟩) m cz) zs) (hm : zs.length = m) (hk : m - i = k) : Ints w (.slice (some ⟨b, o + i, none⟩) k (cz - i)) (zs.drop i) := by
  obtain ⟨ao, cap, he, h1, h2⟩ := h
  injection he with ha _ hc
  subst hc
  have hl : (zs.drop i).length = k := by rw [List.length_drop]; omega
  refine ⟨_, _, by rw [hl], by omega, ?_⟩
  rcases h2 with h2 | ⟨b', off, h3, h4, h5⟩
  · exact .inl (by rw [h2]; simp)
  · rw [← ha] at h3
    injection h3 with h3
    injection h3 with hb ho
    subst hb ho
    refine .inr ⟨_, _, rfl, h4, fun j hj => ?_⟩
    rw [Nat.add_assoc, h5 (i + j) (by omega), List.getD_eq_getElem?_getD, List.getD_eq_getElem?_getD, List.getElem?_drop]

theorem mem_getD17 {l : List Int} {k : Nat} (hk : k < l.length) : l.getD k 0 ∈ l := by
  rw [List.getD_eq_getElem?_getD, List.getElem?_eq_getElem hk]
  exact List.getElem_mem hk
theorem take_snoc17 {l : List Int} {r : Nat} (hr : r < l.length) : l.take (r + 1) = l.take r ++ [l.getD r 0] := by
  rw [List.take_add_one, List.getD_eq_getElem?_getD, List.getElem?_eq_getElem hr]
  rfl
set_option maxRecDepth 100000 in
set_option maxHeartbeats 4000000 in
theorem tell_any (g : P.G) (hr : g.Right) (n : Nat) (hn : g.owner.length = n) (qc : Nat) (a b c : Value) (p : Int) (mv sc : Value) (moves script : List Int) (w : World) (hc : Ct w qc g a b c p mv sc moves script)
    (zs : List Int) (hz : ∀ z ∈ zs, 0 ≤ z ∧ z < (n : Int)) (bz oz m cz i : Nat) (hw : Ints w (.slice (some ⟨bz, oz, none⟩) m cz) zs) (hm : zs.length = m) (hi : i < m) (hcz : m ≤ cz) (hcz2 : m ≤ 140737488355328) :
    Calls Try.prog 18 #[.pointer (some ⟨qc, 0, none⟩), (.slice (some ⟨bz, oz, none⟩) m cz), .int .i64 (i : Int)] w fun e w' => ∃ v1 v2, e = .returned (.agg #[v1, v2, .int .i64 (topZ g 0 (zs.drop i) % 2)]) ∧ OwnI w' w.heap.size v1 (zs.take i) ∧ OwnI w' w.heap.size v2 (zs.drop i) ∧ Apart [v1, v2] ∧ Below w.heap.size w w' := by
  have hop := hr.prio
  have hmp := hr.moves
  have hmany := hr.many
  have h0 := hr.pos
  rw [hn] at hop hmp hmany h0
  obtain ⟨ba, oa, ka, bb, ob, kb, bc, oc, kc, he, -, hcb, -⟩ := hc.game.open_ hn hop hmp h0
  simp only [Value.agg.injEq, Array.mk.injEq, List.cons.injEq, and_true] at he
  obtain ⟨rfl, rfl, rfl⟩ := he
  obtain ⟨bz', oz', cz', hwe, hwc⟩ := hw.open_ hm (by omega)
  injection hwe with hwe _ hwe2
  injection hwe with hwe
  injection hwe with hwe1 hwe3
  subst hwe1 hwe3
  have HR := Lib.hid hr
  have HN := Lib.hid hn
  have HC := Lib.hid hc
  have HZ := Lib.hid hz
  have HW := Lib.hid hw
  have HWC := Lib.hid hwc
  have HCB := Lib.hid hcb
  have HM := Lib.hid hm
  obtain ⟨k, hk⟩ : ∃ k, m - i = k := ⟨_, rfl⟩
  have hki : ((m : Int) - (i : Int)) = (k : Int) := by omega
  clear hr hn hop hmp hc hz hw hwc hcb hm hwe2
  go_enter Try.func18, Try.ntmps18
  go_wp2_with fail
  have bx0 : Box (w.alloc (.cells #[.slice none 0 0, .slice none 0 0, .int .i64 0] 29)) (w.heap.size) 29 #[.slice none 0 0, .slice none 0 0, .int .i64 0] := Box.new w 29 #[.slice none 0 0, .slice none 0 0, .int .i64 0]
  have hbq : Below w.heap.size w (w.alloc (.cells #[.slice none 0 0, .slice none 0 0, .int .i64 0] 29)) := (Below.refl _ w).alloc (Nat.le_refl _) _
  have hle0 : w.heap.size ≤ w.heap.size := Nat.le_refl _
  generalize (w.alloc (.cells #[.slice none 0 0, .slice none 0 0, .int .i64 0] 29)) = w0 at bx0 hbq  ⊢
  have BQr := Lib.hid bx0
  have W := Lib.hid hbq
  have LEr := Lib.hid hle0
  clear hbq hle0 bx0 
  obtain ⟨qr, hqr⟩ : ∃ qr, w.heap.size = qr := ⟨_, rfl⟩
  rw [hqr] at BQr ⊢
  have LEr : Hid (w.heap.size ≤ qr) := Lib.hid (by omega)
  clear hqr
  replace HC := Lib.hid (HC.out.on W.out)
  go_wp2_with fail
  go_loopw [7, 14] (fun hv iv wq => ∃ r : Nat, iv = .int .i64 (r : Int) ∧ r ≤ k ∧ hv = .int .i64 (topZ g 0 ((zs.drop i).take r)) ∧ wq = w0) (fun _ iv _ => k - (intOf iv).toNat)
  case atStart => exact ⟨0, rfl, Nat.zero_le _, rfl, rfl⟩
  case round =>
    obtain ⟨r, rfl, hrk, rfl, hw⟩ := hrel
    rw [hw]
    clear hw
    have htb := topZ_bounds HR.out ((zs.drop i).take r) 0 (fun x hx => by rw [HN.out]; exact HZ.out x (List.mem_of_mem_drop (List.mem_of_mem_take hx))) (by omega) (by omega)
    obtain ⟨tp, htp⟩ : ∃ x, (topZ g 0 ((zs.drop i).take r)) = x := ⟨_, rfl⟩
    rw [htp] at htb ⊢
    obtain ⟨htb0, htb7⟩ := htb
    have HTP := Lib.hid htp
    clear htp
    by_cases hrl : r < k
    · have hri : (r : Int) < (k : Int) := by omega
      have hr0 : (0 : Int) ≤ (r : Int) := by omega
      have fr : decide ((r : Int) < (k : Int)) = true := decide_eq_true hri
      have hcz := HWC.out w0 W.out (i + r) (by omega)
      obtain ⟨z, hz⟩ : ∃ z, zs.getD (i + r) 0 = z := ⟨_, rfl⟩
      have hzm := HZ.out z (by rw [← hz]; exact mem_getD17 (by rw [HM.out]; omega))
      rw [hz, ← Nat.add_assoc] at hcz
      obtain ⟨x, rfl⟩ := Int.eq_ofNat_of_zero_le hzm.1
      have hxn : x < n := by omega
      have hxi : (x : Int) < (n : Int) := hzm.2
      have hx0 : (0 : Int) ≤ (x : Int) := Int.natCast_nonneg _
      have hcp := HCB.out w0 W.out x hxn
      obtain ⟨pz, hpz⟩ : ∃ pz, g.prio.getD x 0 = pz := ⟨_, rfl⟩
      rw [hpz] at hcp
      have HSN := Lib.hid (show (topZ g 0 ((zs.drop i).take (r + 1))) = if tp < pz then pz else tp by
        rw [take_snoc17 (by rw [List.length_drop, HM.out]; omega), topZ_snoc, HTP.out, show (zs.drop i).getD r 0 = (x : Int) by rw [← hz, List.getD_eq_getElem?_getD, List.getD_eq_getElem?_getD, List.getElem?_drop], Int.toNat_natCast, hpz])
      clear hz hzm hpz
      have cc0 : w0.cell? ⟨qc, 0, none⟩ = some (.slice (some ⟨ba, oa, none⟩) n ka) := HC.out.box.cell 0 _ rfl
      have cc1 : w0.cell? ⟨qc, 1, none⟩ = some (.slice (some ⟨bb, ob, none⟩) n kb) := HC.out.box.cell 1 _ rfl
      have cc2 : w0.cell? ⟨qc, 2, none⟩ = some (.slice (some ⟨bc, oc, none⟩) n kc) := HC.out.box.cell 2 _ rfl
      go_upto_region 6 with (fail)
      go_wp2_with fail
      go_roundw
      case rel => exact ⟨r + 1, by go_num, by omega, by rw [HSN.out], by first | trivial | rfl⟩
      case measure => simp [intOf]; omega
    · have fr : decide ((r : Int) < (k : Int)) = false := decide_eq_false (by omega)
      have HTA := Lib.hid (show topZ g 0 (zs.drop i) = tp by rw [← HTP.out, List.take_of_length_le (by rw [List.length_drop, HM.out]; omega)])
      go_upto_region 7 with (fail)
      have HT1 := Lib.hid (ints_take (HW.out.on W.out) HM.out (Nat.le_of_lt hi))
      have HT2 := Lib.hid (ints_drop (HW.out.on W.out) HM.out hk)
      have hi0 : (0 : Int) ≤ (i : Int) := Int.natCast_nonneg _
      have hi1 : i ≤ m := by omega
      have hi2 : i ≤ cz := by omega
      have hci : ¬ cz = i := by omega
      have hqr : qr < w0.heap.size := BQr.out.lt
      have hmod : Int.tmod tp 2 = tp % 2 := Int.tmod_eq_emod_of_nonneg (by omega)
      refine Rg.wp_region_lit (fun idx => match idx with | 0 => (fun v _ _ => v = (.slice (some ⟨bz, oz, none⟩) m cz)) | 1 => (fun v _ _ => v = (.int .i64 (i : Int))) | 2 => (fun v _ _ => v = (.slice (some ⟨bz, oz, none⟩) i cz)) | 3 => (fun v _ w' => OwnI w' w0.heap.size v (zs.take i)) | 4 => (fun v _ _ => v = (.slice (some ⟨bz, oz, none⟩) m cz)) | 5 => (fun v _ _ => v = (.int .i64 (i : Int))) | 6 => (fun v _ _ => v = (.slice (some ⟨bz, oz + i, none⟩) k (cz - i))) | 7 => (fun v ds w' => OwnI w' w0.heap.size v (zs.drop i) ∧ Apart [ds.getD 1 undef, v]) | 8 => (fun v _ _ => v = (.int .i64 tp)) | 9 => (fun v _ _ => v = (.int .i64 (tp % 2))) | 10 => (fun v ds _ => v = .agg #[ds.getD 0 undef, ds.getD 1 undef, (.int .i64 (tp % 2))]) | _ => fun _ _ _ => True) (none) 99 (by kernel_rfl) (by rfl) (by kernel_rfl) (by rfl) ?_ ?_ ?_
      · refine ⟨?_, ?_, ?_, ?_, ?_, ?_, ?_, ?_, ?_, ?_, ?_, trivial⟩
        · intro A w' K vals h hn hg hK
          have r0 : A.tmps[1]?.getD undef = (.slice (some ⟨bz, oz, none⟩) m cz) := Rg.slot (h.1)
          clear h hn hg
          simp [Oper.wp, execOp, go_sem, r0]
          exact hK _ _ (Rg.grown_refl _ _) rfl
        · intro A w' K vals h hn hg hK
          have r0 : A.tmps[2]?.getD undef = (.int .i64 (i : Int)) := Rg.slot (h.1)
          clear h hn hg
          simp [Oper.wp, execOp, go_sem, r0]
          exact hK _ _ (Rg.grown_refl _ _) rfl
        · intro A w' K vals h hn hg hK
          have r0 : A.tmps[29]?.getD undef = vals 0 := Rg.slot h.1
          have r1 : A.tmps[30]?.getD undef = vals 1 := Rg.slot h.2.1
          have r2 : vals 0 = (.slice (some ⟨bz, oz, none⟩) m cz) := hn.1
          have r3 : vals 1 = (.int .i64 (i : Int)) := hn.2.1
          clear h hn hg
          simp [Oper.wp, execOp, go_sem, r0, r1, r2, r3, hi2, hi0]
          exact hK _ _ (Rg.grown_refl _ _) rfl
        · intro A w' K vals h hn hg hK
          have r0 : A.tmps[31]?.getD undef = vals 2 := Rg.slot h.2.1
          have r1 : vals 2 = (.slice (some ⟨bz, oz, none⟩) i cz) := hn.1
          clear h hn
          simp [Oper.wp, go_sem, r0, r1]
          refine (clone_any (.slice (some ⟨bz, oz, none⟩) i cz) _ _ (HT1.out.grown hg)).mono ?_
          rintro e w'' ⟨u, rfl, ho, hb⟩
          exact hK _ _ (grown_of_below hb _) (own_more ho hg.size)
        · intro A w' K vals h hn hg hK
          have r0 : A.tmps[1]?.getD undef = (.slice (some ⟨bz, oz, none⟩) m cz) := Rg.slot (h.1)
          clear h hn hg
          simp [Oper.wp, execOp, go_sem, r0]
          exact hK _ _ (Rg.grown_refl _ _) rfl
        · intro A w' K vals h hn hg hK
          have r0 : A.tmps[2]?.getD undef = (.int .i64 (i : Int)) := Rg.slot (h.1)
          clear h hn hg
          simp [Oper.wp, execOp, go_sem, r0]
          exact hK _ _ (Rg.grown_refl _ _) rfl
        · intro A w' K vals h hn hg hK
          have r0 : A.tmps[33]?.getD undef = vals 4 := Rg.slot h.1
          have r1 : A.tmps[34]?.getD undef = vals 5 := Rg.slot h.2.1
          have r2 : vals 4 = (.slice (some ⟨bz, oz, none⟩) m cz) := hn.1
          have r3 : vals 5 = (.int .i64 (i : Int)) := hn.2.1
          clear h hn hg
          simp [Oper.wp, execOp, go_sem, r0, r1, r2, r3, hi1, hi0, hk, hci]
          exact hK _ _ (Rg.grown_refl _ _) rfl
        · intro A w' K vals h hn hg hK
          have r0 : A.tmps[35]?.getD undef = vals 6 := Rg.slot h.2.1
          have r1 : vals 6 = (.slice (some ⟨bz, oz + i, none⟩) k (cz - i)) := hn.1
          have n2 : OwnI w' w0.heap.size (vals 3) (zs.take i) := hn.2.1
          clear h hn
          simp [Oper.wp, go_sem, r0, r1]
          refine (clone_any (.slice (some ⟨bz, oz + i, none⟩) k (cz - i)) _ _ (HT2.out.grown hg)).mono ?_
          rintro e w'' ⟨u, rfl, ho, hb⟩
          exact hK _ _ (grown_of_below hb _) ⟨own_more ho hg.size, apart_two n2 ho⟩
        · intro A w' K vals h hn hg hK
          have r0 : A.tmps[7]?.getD undef = (.int .i64 tp) := Rg.slot (h.1)
          clear h hn hg
          simp [Oper.wp, execOp, go_sem, r0]
          exact hK _ _ (Rg.grown_refl _ _) rfl
        · intro A w' K vals h hn hg hK
          have r0 : A.tmps[37]?.getD undef = vals 8 := Rg.slot h.1
          have r2 : vals 8 = (.int .i64 tp) := hn.1
          clear h hn hg
          simp [Oper.wp, execOp, go_sem, r0, r2]
          exact hK _ _ (Rg.grown_refl _ _) (by simp [hmod])
        · intro A w' K vals h hn hg hK
          have r0 : A.tmps[32]?.getD undef = vals 3 := Rg.slot h.1
          have r1 : A.tmps[36]?.getD undef = vals 7 := Rg.slot h.2.1
          have r2 : A.tmps[38]?.getD undef = vals 9 := Rg.slot h.2.2.1
          have r3 : vals 9 = (.int .i64 (tp % 2)) := hn.2.2.1
          have n2 : OwnI w' w0.heap.size (vals 3) (zs.take i) := hn.1
          have n5 : OwnI w' w0.heap.size (vals 7) (zs.drop i) := hn.2.1.1
          obtain ⟨a2, c2, e2, -⟩ := own_at n2
          obtain ⟨a5, c5, e5, -⟩ := own_at n5
          clear h hn n2 n5
          simp [Oper.wp, execOp, go_sem, r0, r1, r2, r3, e2, e5]
          refine hK _ _ (Rg.grown_refl _ _) ?_
          show _ = Value.agg #[vals 3, vals 7, _]
          rw [e2, e5]
          simp
      · refine ⟨?_, ?_, ?_, ?_, ?_, ?_, ?_, ?_, ?_, ?_, ?_, trivial⟩
        · exact fun _ _ _ _ _ _ h => h
        · exact fun _ _ _ _ _ _ h => h
        · exact fun _ _ _ _ _ _ h => h
        · exact fun _ _ _ _ _ h ho => own_grown ho h
        · exact fun _ _ _ _ _ _ h => h
        · exact fun _ _ _ _ _ _ h => h
        · exact fun _ _ _ _ _ _ h => h
        · exact fun _ _ _ _ _ h ho => ⟨own_grown ho.1 h, ho.2⟩
        · exact fun _ _ _ _ _ _ h => h
        · exact fun _ _ _ _ _ _ h => h
        · exact fun _ _ _ _ _ _ h => h
      · intro vals w' G hg hS hG
        have s2 : OwnI w' w0.heap.size (vals 3) (zs.take i) := hS.2.2.2.1
        have s5 : OwnI w' w0.heap.size (vals 7) (zs.drop i) := hS.2.2.2.2.2.2.2.1.1
        have s6 : Apart [vals 3, vals 7] := hS.2.2.2.2.2.2.2.1.2
        have s7 : vals 10 = .agg #[vals 3, vals 7, (.int .i64 (tp % 2))] := hS.2.2.2.2.2.2.2.2.2.2.1
        clear hS
        have s1 := BQr.out.keep hg
        have qc0 : w'.cell? ⟨qr, 0, none⟩ = some (.slice none 0 0) := s1.cell 0 _ rfl
        have qc1 : w'.cell? ⟨qr, 1, none⟩ = some (.slice none 0 0) := s1.cell 1 _ rfl
        have qc2 : w'.cell? ⟨qr, 2, none⟩ = some (.int .i64 0) := s1.cell 2 _ rfl
        have qf0 : w'.frozen? ⟨qr, 0, none⟩ = false := s1.frozen 0
        have qf1 : w'.frozen? ⟨qr, 1, none⟩ = false := s1.frozen 1
        have qf2 : w'.frozen? ⟨qr, 2, none⟩ = false := s1.frozen 2
        obtain ⟨a2, k2, e2, -⟩ := own_at s2
        obtain ⟨a5, k5, e5, -⟩ := own_at s5
        rw [e2, e5] at s7 s6
        rw [e2] at s2
        rw [e5] at s5
        clear s1
        refine hG ?_
        clear hG
        simp [List.dropLast, Rg.putAll, Oper.wp, execOp, go_sem, s7, e2, e5, qc0, qc1, qc2, qf0, qf1, qf2]
        clear e2 e5 s7
        simp only [List.length_take, List.length_drop] at s2 s5 s6
        go_wp2_with fail
        have HBEL := Lib.hid (((((W.out.trans (below_mono_grown hg W.out.size (by intro q hq; cases hq))).setCell (p := ⟨qr, 0, none⟩) LEr.out (.slice a2 (min i zs.length) k2)).setCell (p := ⟨qr, 1, none⟩) LEr.out (.slice a5 (zs.length - i) k5)).setCell (p := ⟨qr, 2, none⟩) LEr.out (.int .i64 (tp % 2))))
        refine bodyPost_ret (v := .agg #[.slice a2 (min i zs.length) k2, .slice a5 (zs.length - i) k5, .int .i64 (tp % 2)]) (by simp [results, Try.results18, go_sem, qc0, qc1, qc2]) rfl ⟨_, _, by rw [HTA.out], ?_, ?_, s6, HBEL.out⟩
        · exact own_more (ownsRow_setCell_below (ownsRow_setCell_below (ownsRow_setCell_below s2 hqr _) hqr _) hqr _) W.out.size
        · exact own_more (ownsRow_setCell_below (ownsRow_setCell_below (ownsRow_setCell_below s5 hqr _) hqr _) hqr _) W.out.size
end W
end Go.Proofs.Ytghdjkpndhcplaa
