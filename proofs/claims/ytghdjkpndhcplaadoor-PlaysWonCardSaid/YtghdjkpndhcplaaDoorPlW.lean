/- The play that goes a way and comes back to a place of it: the walk. The stand behind one: the walk. Run: the walk. -/
import Derived.Test.YtghdjkpndhcplaaDoorPlA
import Derived.Test.YtghdjkpndhcplaaDoorCopy
import Derived.Deep.Cut
import Derived.Lib.Hide
import Derived.Deep.QuietTactic
import Derived.BigQuiet
import Derived.StillTailTactics
import Derived.Test.YtghdjkpndhcplaaDoorFind
import Derived.Test.YtghdjkpndhcplaaDoorSam
import Derived.Test.YtghdjkpndhcplaaDoorGrowR
import Derived.Test.YtghdjkpndhcplaaDoorRight
import Derived.Deep.CutRange
import Derived.Maps.OwnSet
import Derived.Maps.OwnOps
section
namespace Go.Proofs.YtghdjkpndhcplaaDoor
open Go.RowKit
namespace W

theorem ints_take {w : World} {b o m cz i : Nat} {zs : List Int} (h : Ints w (.slice (some ⟨b, o, none⟩) m cz) zs) (hm : zs.length = m) (hi : i ≤ m) : Ints w (.slice (some ⟨b, o, none⟩) i cz) (zs.take i) := by
  obtain ⟨ao, cap, he, h1, h2⟩ := h
  injection he with ha _ hc
  subst ha hc
  have hl : (zs.take i).length = i := by rw [List.length_take]; omega
  refine ⟨_, _, by rw [hl], by omega, ?_⟩
  rcases h2 with h2 | ⟨b', off, h3, h4, h5⟩
  · exact .inl (by rw [h2]; simp)
  · refine .inr ⟨b', off, h3, h4, fun j hj => ?_⟩
    rw [h5 j (by omega), List.getD_eq_getElem?_getD, List.getD_eq_getElem?_getD, List.getElem?_take_of_lt (by omega)]
theorem ints_drop {w : World} {b o m cz i k : Nat} {zs : List Int} (h : Ints w (.slice (some ⟨b, o, none⟩) m cz) zs) (hm : zs.length = m) (hk : m - i = k) : Ints w (.slice (some ⟨b, o + i, none⟩) k (cz - i)) (zs.drop i) := by
  obtain ⟨ao, cap, he, h1, h2⟩ := h
  injection he with ha _ hc
  subst hc
  have hl : (zs.drop i).length = k := by rw [List.length_drop]; omega
  refine ⟨_, _, by rw [hl], by omega, ?_⟩
  rcases h2 with h2 | ⟨b', off, h3, h4, h5⟩
  · exact .inl (by rw [h2]; simp)
  · rw [← ha] at h3
    injection h3 with h3
    injection h3 with hb ho
    subst hb ho
    refine .inr ⟨_, _, rfl, h4, fun j hj => ?_⟩
    rw [Nat.add_assoc, h5 (i + j) (by omega), List.getD_eq_getElem?_getD, List.getD_eq_getElem?_getD, List.getElem?_drop]

theorem mem_getD17 {l : List Int} {k : Nat} (hk : k < l.length) : l.getD k 0 ∈ l := by
  rw [List.getD_eq_getElem?_getD, List.getElem?_eq_getElem hk]
  exact List.getElem_mem hk
theorem take_snoc17 {l : List Int} {r : Nat} (hr : r < l.length) : l.take (r + 1) = l.take r ++ [l.getD r 0] := by
  rw [List.take_add_one, List.getD_eq_getElem?_getD, List.getElem?_eq_getElem hr]
  rfl
set_option maxRecDepth 100000 in
set_option maxHeartbeats 4000000 in
theorem tell_any (g : P.G) (hr : g.Right) (n : Nat) (hn : g.owner.length = n) (qc : Nat) (a b c : Value) (p : Int) (mv sc : Value) (moves script : List Int) (w : World) (hc : Ct w qc g a b c p mv sc moves script)
    (zs : List Int) (hz : ∀ z ∈ zs, 0 ≤ z ∧ z < (n : Int)) (bz oz m cz i : Nat) (hw : Ints w (.slice (some ⟨bz, oz, none⟩) m cz) zs) (hm : zs.length = m) (hi : i < m) (hcz : m ≤ cz) (hcz2 : m ≤ 140737488355328) :
    Calls Tryd.prog 18 #[.pointer (some ⟨qc, 0, none⟩), (.slice (some ⟨bz, oz, none⟩) m cz), .int .i64 (i : Int)] w fun e w' => ∃ v1 v2, e = .returned (.agg #[v1, v2, .int .i64 (topZ g 0 (zs.drop i) % 2)]) ∧ OwnI w' w.heap.size v1 (zs.take i) ∧ OwnI w' w.heap.size v2 (zs.drop i) ∧ Apart [v1, v2] ∧ Below w.heap.size w w' := by
  have hop := hr.prio
  have hmp := hr.moves
  have hmany := hr.many
  have h0 := hr.pos
  rw [hn] at hop hmp hmany h0
  obtain ⟨ba, oa, ka, bb, ob, kb, bc, oc, kc, he, -, hcb, -⟩ := hc.game.open_ hn hop hmp h0
  simp only [Value.agg.injEq, Array.mk.injEq, List.cons.injEq, and_true] at he
  obtain ⟨rfl, rfl, rfl⟩ := he
  obtain ⟨bz', oz', cz', hwe, hwc⟩ := hw.open_ hm (by omega)
  injection hwe with hwe _ hwe2
  injection hwe with hwe
  injection hwe with hwe1 hwe3
  subst hwe1 hwe3
  have HR := Lib.hid hr
  have HN := Lib.hid hn
  have HC := Lib.hid hc
  have HZ := Lib.hid hz
  have HW := Lib.hid hw
  have HWC := Lib.hid hwc
  have HCB := Lib.hid hcb
  have HM := Lib.hid hm
  obtain ⟨k, hk⟩ : ∃ k, m - i = k := ⟨_, rfl⟩
  have hki : ((m : Int) - (i : Int)) = (k : Int) := by omega
  clear hr hn hop hmp hc hz hw hwc hcb hm hwe2
  go_enter Tryd.func18, Tryd.ntmps18
  go_wp2_with fail
  have bx0 : Box (w.alloc (.cells #[.slice none 0 0, .slice none 0 0, .int .i64 0] 40)) (w.heap.size) 40 #[.slice none 0 0, .slice none 0 0, .int .i64 0] := Box.new w 40 #[.slice none 0 0, .slice none 0 0, .int .i64 0]
  have hbq : Below w.heap.size w (w.alloc (.cells #[.slice none 0 0, .slice none 0 0, .int .i64 0] 40)) := (Below.refl _ w).alloc (Nat.le_refl _) _
  have hle0 : w.heap.size ≤ w.heap.size := Nat.le_refl _
  generalize (w.alloc (.cells #[.slice none 0 0, .slice none 0 0, .int .i64 0] 40)) = w0 at bx0 hbq  ⊢
  have BQr := Lib.hid bx0
  have W := Lib.hid hbq
  have LEr := Lib.hid hle0
  clear hbq hle0 bx0 
  obtain ⟨qr, hqr⟩ : ∃ qr, w.heap.size = qr := ⟨_, rfl⟩
  rw [hqr] at BQr ⊢
  have LEr : Hid (w.heap.size ≤ qr) := Lib.hid (by omega)
  clear hqr
  replace HC := Lib.hid (HC.out.on W.out)
  go_wp2_with fail
  go_loopw [7, 14] (fun hv iv wq => ∃ r : Nat, iv = .int .i64 (r : Int) ∧ r ≤ k ∧ hv = .int .i64 (topZ g 0 ((zs.drop i).take r)) ∧ wq = w0) (fun _ iv _ => k - (intOf iv).toNat)
  case atStart => exact ⟨0, rfl, Nat.zero_le _, rfl, rfl⟩
  case round =>
    obtain ⟨r, rfl, hrk, rfl, hw⟩ := hrel
    rw [hw]
    clear hw
    have htb := topZ_bounds HR.out ((zs.drop i).take r) 0 (fun x hx => by rw [HN.out]; exact HZ.out x (List.mem_of_mem_drop (List.mem_of_mem_take hx))) (by omega) (by omega)
    obtain ⟨tp, htp⟩ : ∃ x, (topZ g 0 ((zs.drop i).take r)) = x := ⟨_, rfl⟩
    rw [htp] at htb ⊢
    obtain ⟨htb0, htb7⟩ := htb
    have HTP := Lib.hid htp
    clear htp
    by_cases hrl : r < k
    · have hri : (r : Int) < (k : Int) := by omega
      have hr0 : (0 : Int) ≤ (r : Int) := by omega
      have fr : decide ((r : Int) < (k : Int)) = true := decide_eq_true hri
      have hcz := HWC.out w0 W.out (i + r) (by omega)
      obtain ⟨z, hz⟩ : ∃ z, zs.getD (i + r) 0 = z := ⟨_, rfl⟩
      have hzm := HZ.out z (by rw [← hz]; exact mem_getD17 (by rw [HM.out]; omega))
      rw [hz, ← Nat.add_assoc] at hcz
      obtain ⟨x, rfl⟩ := Int.eq_ofNat_of_zero_le hzm.1
      have hxn : x < n := by omega
      have hxi : (x : Int) < (n : Int) := hzm.2
      have hx0 : (0 : Int) ≤ (x : Int) := Int.natCast_nonneg _
      have hcp := HCB.out w0 W.out x hxn
      obtain ⟨pz, hpz⟩ : ∃ pz, g.prio.getD x 0 = pz := ⟨_, rfl⟩
      rw [hpz] at hcp
      have HSN := Lib.hid (show (topZ g 0 ((zs.drop i).take (r + 1))) = if tp < pz then pz else tp by
        rw [take_snoc17 (by rw [List.length_drop, HM.out]; omega), topZ_snoc, HTP.out, show (zs.drop i).getD r 0 = (x : Int) by rw [← hz, List.getD_eq_getElem?_getD, List.getD_eq_getElem?_getD, List.getElem?_drop], Int.toNat_natCast, hpz])
      clear hz hzm hpz
      have cc0 : w0.cell? ⟨qc, 0, none⟩ = some (.slice (some ⟨ba, oa, none⟩) n ka) := HC.out.box.cell 0 _ rfl
      have cc1 : w0.cell? ⟨qc, 1, none⟩ = some (.slice (some ⟨bb, ob, none⟩) n kb) := HC.out.box.cell 1 _ rfl
      have cc2 : w0.cell? ⟨qc, 2, none⟩ = some (.slice (some ⟨bc, oc, none⟩) n kc) := HC.out.box.cell 2 _ rfl
      go_upto_region 6 with (fail)
      go_wp2_with fail
      go_roundw
      case rel => exact ⟨r + 1, by go_num, by omega, by rw [HSN.out], by first | trivial | rfl⟩
      case measure => simp [intOf]; omega
    · have fr : decide ((r : Int) < (k : Int)) = false := decide_eq_false (by omega)
      have HTA := Lib.hid (show topZ g 0 (zs.drop i) = tp by rw [← HTP.out, List.take_of_length_le (by rw [List.length_drop, HM.out]; omega)])
      go_upto_region 7 with (fail)
      have HT1 := Lib.hid (ints_take (HW.out.on W.out) HM.out (Nat.le_of_lt hi))
      have HT2 := Lib.hid (ints_drop (HW.out.on W.out) HM.out hk)
      have hi0 : (0 : Int) ≤ (i : Int) := Int.natCast_nonneg _
      have hi1 : i ≤ m := by omega
      have hi2 : i ≤ cz := by omega
      have hci : ¬ cz = i := by omega
      have hqr : qr < w0.heap.size := BQr.out.lt
      have hmod : Int.tmod tp 2 = tp % 2 := Int.tmod_eq_emod_of_nonneg (by omega)
      refine Rg.wp_region_lit (fun idx => match idx with | 0 => (fun v _ _ => v = (.slice (some ⟨bz, oz, none⟩) m cz)) | 1 => (fun v _ _ => v = (.int .i64 (i : Int))) | 2 => (fun v _ _ => v = (.slice (some ⟨bz, oz, none⟩) i cz)) | 3 => (fun v _ w' => OwnI w' w0.heap.size v (zs.take i)) | 4 => (fun v _ _ => v = (.slice (some ⟨bz, oz, none⟩) m cz)) | 5 => (fun v _ _ => v = (.int .i64 (i : Int))) | 6 => (fun v _ _ => v = (.slice (some ⟨bz, oz + i, none⟩) k (cz - i))) | 7 => (fun v ds w' => OwnI w' w0.heap.size v (zs.drop i) ∧ Apart [ds.getD 1 undef, v]) | 8 => (fun v _ _ => v = (.int .i64 tp)) | 9 => (fun v _ _ => v = (.int .i64 (tp % 2))) | 10 => (fun v ds _ => v = .agg #[ds.getD 0 undef, ds.getD 1 undef, (.int .i64 (tp % 2))]) | _ => fun _ _ _ => True) (none) 99 (by kernel_rfl) (by rfl) (by kernel_rfl) (by rfl) ?_ ?_ ?_
      · refine ⟨?_, ?_, ?_, ?_, ?_, ?_, ?_, ?_, ?_, ?_, ?_, trivial⟩
        · intro A w' K vals h hn hg hK
          have r0 : A.tmps[1]?.getD undef = (.slice (some ⟨bz, oz, none⟩) m cz) := Rg.slot (h.1)
          clear h hn hg
          simp [Oper.wp, execOp, go_sem, r0]
          exact hK _ _ (Rg.grown_refl _ _) rfl
        · intro A w' K vals h hn hg hK
          have r0 : A.tmps[2]?.getD undef = (.int .i64 (i : Int)) := Rg.slot (h.1)
          clear h hn hg
          simp [Oper.wp, execOp, go_sem, r0]
          exact hK _ _ (Rg.grown_refl _ _) rfl
        · intro A w' K vals h hn hg hK
          have r0 : A.tmps[29]?.getD undef = vals 0 := Rg.slot h.1
          have r1 : A.tmps[30]?.getD undef = vals 1 := Rg.slot h.2.1
          have r2 : vals 0 = (.slice (some ⟨bz, oz, none⟩) m cz) := hn.1
          have r3 : vals 1 = (.int .i64 (i : Int)) := hn.2.1
          clear h hn hg
          simp [Oper.wp, execOp, go_sem, r0, r1, r2, r3, hi2, hi0]
          exact hK _ _ (Rg.grown_refl _ _) rfl
        · intro A w' K vals h hn hg hK
          have r0 : A.tmps[31]?.getD undef = vals 2 := Rg.slot h.2.1
          have r1 : vals 2 = (.slice (some ⟨bz, oz, none⟩) i cz) := hn.1
          clear h hn
          simp [Oper.wp, go_sem, r0, r1]
          refine (clone_any (.slice (some ⟨bz, oz, none⟩) i cz) _ _ (HT1.out.grown hg)).mono ?_
          rintro e w'' ⟨u, rfl, ho, hb⟩
          exact hK _ _ (grown_of_below hb _) (own_more ho hg.size)
        · intro A w' K vals h hn hg hK
          have r0 : A.tmps[1]?.getD undef = (.slice (some ⟨bz, oz, none⟩) m cz) := Rg.slot (h.1)
          clear h hn hg
          simp [Oper.wp, execOp, go_sem, r0]
          exact hK _ _ (Rg.grown_refl _ _) rfl
        · intro A w' K vals h hn hg hK
          have r0 : A.tmps[2]?.getD undef = (.int .i64 (i : Int)) := Rg.slot (h.1)
          clear h hn hg
          simp [Oper.wp, execOp, go_sem, r0]
          exact hK _ _ (Rg.grown_refl _ _) rfl
        · intro A w' K vals h hn hg hK
          have r0 : A.tmps[33]?.getD undef = vals 4 := Rg.slot h.1
          have r1 : A.tmps[34]?.getD undef = vals 5 := Rg.slot h.2.1
          have r2 : vals 4 = (.slice (some ⟨bz, oz, none⟩) m cz) := hn.1
          have r3 : vals 5 = (.int .i64 (i : Int)) := hn.2.1
          clear h hn hg
          simp [Oper.wp, execOp, go_sem, r0, r1, r2, r3, hi1, hi0, hk, hci]
          exact hK _ _ (Rg.grown_refl _ _) rfl
        · intro A w' K vals h hn hg hK
          have r0 : A.tmps[35]?.getD undef = vals 6 := Rg.slot h.2.1
          have r1 : vals 6 = (.slice (some ⟨bz, oz + i, none⟩) k (cz - i)) := hn.1
          have n2 : OwnI w' w0.heap.size (vals 3) (zs.take i) := hn.2.1
          clear h hn
          simp [Oper.wp, go_sem, r0, r1]
          refine (clone_any (.slice (some ⟨bz, oz + i, none⟩) k (cz - i)) _ _ (HT2.out.grown hg)).mono ?_
          rintro e w'' ⟨u, rfl, ho, hb⟩
          exact hK _ _ (grown_of_below hb _) ⟨own_more ho hg.size, apart_two n2 ho⟩
        · intro A w' K vals h hn hg hK
          have r0 : A.tmps[7]?.getD undef = (.int .i64 tp) := Rg.slot (h.1)
          clear h hn hg
          simp [Oper.wp, execOp, go_sem, r0]
          exact hK _ _ (Rg.grown_refl _ _) rfl
        · intro A w' K vals h hn hg hK
          have r0 : A.tmps[37]?.getD undef = vals 8 := Rg.slot h.1
          have r2 : vals 8 = (.int .i64 tp) := hn.1
          clear h hn hg
          simp [Oper.wp, execOp, go_sem, r0, r2]
          exact hK _ _ (Rg.grown_refl _ _) (by simp [hmod])
        · intro A w' K vals h hn hg hK
          have r0 : A.tmps[32]?.getD undef = vals 3 := Rg.slot h.1
          have r1 : A.tmps[36]?.getD undef = vals 7 := Rg.slot h.2.1
          have r2 : A.tmps[38]?.getD undef = vals 9 := Rg.slot h.2.2.1
          have r3 : vals 9 = (.int .i64 (tp % 2)) := hn.2.2.1
          have n2 : OwnI w' w0.heap.size (vals 3) (zs.take i) := hn.1
          have n5 : OwnI w' w0.heap.size (vals 7) (zs.drop i) := hn.2.1.1
          obtain ⟨a2, c2, e2, -⟩ := own_at n2
          obtain ⟨a5, c5, e5, -⟩ := own_at n5
          clear h hn n2 n5
          simp [Oper.wp, execOp, go_sem, r0, r1, r2, r3, e2, e5]
          refine hK _ _ (Rg.grown_refl _ _) ?_
          show _ = Value.agg #[vals 3, vals 7, _]
          rw [e2, e5]
          simp
      · refine ⟨?_, ?_, ?_, ?_, ?_, ?_, ?_, ?_, ?_, ?_, ?_, trivial⟩
        · exact fun _ _ _ _ _ _ h => h
        · exact fun _ _ _ _ _ _ h => h
        · exact fun _ _ _ _ _ _ h => h
        · exact fun _ _ _ _ _ h ho => own_grown ho h
        · exact fun _ _ _ _ _ _ h => h
        · exact fun _ _ _ _ _ _ h => h
        · exact fun _ _ _ _ _ _ h => h
        · exact fun _ _ _ _ _ h ho => ⟨own_grown ho.1 h, ho.2⟩
        · exact fun _ _ _ _ _ _ h => h
        · exact fun _ _ _ _ _ _ h => h
        · exact fun _ _ _ _ _ _ h => h
      · intro vals w' G hg hS hG
        have s2 : OwnI w' w0.heap.size (vals 3) (zs.take i) := hS.2.2.2.1
        have s5 : OwnI w' w0.heap.size (vals 7) (zs.drop i) := hS.2.2.2.2.2.2.2.1.1
        have s6 : Apart [vals 3, vals 7] := hS.2.2.2.2.2.2.2.1.2
        have s7 : vals 10 = .agg #[vals 3, vals 7, (.int .i64 (tp % 2))] := hS.2.2.2.2.2.2.2.2.2.2.1
        clear hS
        have s1 := BQr.out.keep hg
        have qc0 : w'.cell? ⟨qr, 0, none⟩ = some (.slice none 0 0) := s1.cell 0 _ rfl
        have qc1 : w'.cell? ⟨qr, 1, none⟩ = some (.slice none 0 0) := s1.cell 1 _ rfl
        have qc2 : w'.cell? ⟨qr, 2, none⟩ = some (.int .i64 0) := s1.cell 2 _ rfl
        have qf0 : w'.frozen? ⟨qr, 0, none⟩ = false := s1.frozen 0
        have qf1 : w'.frozen? ⟨qr, 1, none⟩ = false := s1.frozen 1
        have qf2 : w'.frozen? ⟨qr, 2, none⟩ = false := s1.frozen 2
        obtain ⟨a2, k2, e2, -⟩ := own_at s2
        obtain ⟨a5, k5, e5, -⟩ := own_at s5
        rw [e2, e5] at s7 s6
        rw [e2] at s2
        rw [e5] at s5
        clear s1
        refine hG ?_
        clear hG
        simp [List.dropLast, Rg.putAll, Oper.wp, execOp, go_sem, s7, e2, e5, qc0, qc1, qc2, qf0, qf1, qf2]
        clear e2 e5 s7
        simp only [List.length_take, List.length_drop] at s2 s5 s6
        go_wp2_with fail
        have HBEL := Lib.hid (((((W.out.trans (below_mono_grown hg W.out.size (by intro q hq; cases hq))).setCell (p := ⟨qr, 0, none⟩) LEr.out (.slice a2 (min i zs.length) k2)).setCell (p := ⟨qr, 1, none⟩) LEr.out (.slice a5 (zs.length - i) k5)).setCell (p := ⟨qr, 2, none⟩) LEr.out (.int .i64 (tp % 2))))
        refine bodyPost_ret (v := .agg #[.slice a2 (min i zs.length) k2, .slice a5 (zs.length - i) k5, .int .i64 (tp % 2)]) (by simp [results, Tryd.results18, go_sem, qc0, qc1, qc2]) rfl ⟨_, _, by rw [HTA.out], ?_, ?_, s6, HBEL.out⟩
        · exact own_more (ownsRow_setCell_below (ownsRow_setCell_below (ownsRow_setCell_below s2 hqr _) hqr _) hqr _) W.out.size
        · exact own_more (ownsRow_setCell_below (ownsRow_setCell_below (ownsRow_setCell_below s5 hqr _) hqr _) hqr _) W.out.size
end W
end Go.Proofs.YtghdjkpndhcplaaDoor
end
section
namespace Go.Proofs.YtghdjkpndhcplaaDoor
open Go.RowKit
namespace W

/-- What move tells: the stand behind, or that there is none. -/
def stepV : Option (Nat × Nat) → Value
  | some b => .tuple #[.agg #[.int .i64 (b.1 : Int), .int .i64 (b.2 : Int)], .int .i64 0]
  | none => .tuple #[.agg #[.int .i64 0, .int .i64 0], .int .i64 16]
theorem rem_turn {z k : Int} (hk : 0 < k) : Int.tmod (Int.tmod z k + k) k = z % k ∧ -k < Int.tmod z k ∧ Int.tmod z k < k := by
  have h1 : -k < Int.tmod z k ∧ Int.tmod z k < k := by
    have h2 := Int.natAbs_tmod z k
    have h3 := Nat.mod_lt z.natAbs (show 0 < k.natAbs by omega)
    omega
  refine ⟨?_, h1⟩
  rw [Int.tmod_eq_emod_of_nonneg (by omega), Int.add_emod_right]
  have h4 := Int.mul_tdiv_add_tmod z k
  have e : Int.tmod z k = z + k * (-(z.tdiv k)) := by rw [Int.mul_neg]; omega
  rw [e, Int.add_mul_emod_self_left]

set_option maxRecDepth 100000 in
set_option maxHeartbeats 4000000 in
theorem move_any (g : P.G) (hr : g.Right) (n : Nat) (hn : g.owner.length = n) (qc : Nat) (a b c : Value) (p : Int) (mv sc : Value) (moves script : List Int) (w : World) (hc : Ct w qc g a b c p mv sc moves script)
    (x y m : Nat) (hx : x < n) (hm : script.length = m) (hy : y < m) (hm64 : m ≤ 64) :
    Calls Tryd.prog 19 #[.pointer (some ⟨qc, 0, none⟩), .agg #[.int .i64 (x : Int), .int .i64 (y : Int)]] w fun e w' => e = .returned (stepV (P.stepS g p moves script (x, y))) ∧ Below w.heap.size w w' := by
  have hop := hr.prio
  have hmp := hr.moves
  have h0 := hr.pos
  have hat := hr.at x (by omega)
  have hin := hr.moves_in (i := x) (by omega)
  rw [hn] at hop hmp h0 hat hin
  obtain ⟨ba, oa, ka, bb, ob, kb, bc, oc, kc, he, hca, -, hcc⟩ := hc.game.open_ hn hop hmp h0
  simp only [Value.agg.injEq, Array.mk.injEq, List.cons.injEq, and_true] at he
  obtain ⟨rfl, rfl, rfl⟩ := he
  obtain ⟨bs, os, ks, rfl, hcs⟩ := hc.script.open_ hm (by omega)
  obtain ⟨row, hrow⟩ : ∃ row, g.moves.getD x [] = row := ⟨_, rfl⟩
  rw [hrow] at hat hin
  obtain ⟨rv, hcr, hri⟩ := hcc w (Below.refl _ _) x hx
  rw [hrow] at hri
  obtain ⟨k, hk⟩ : ∃ k, row.length = k := ⟨_, rfl⟩
  have hk0 : 0 < k := by
    rw [← hk]
    exact List.length_pos_iff.2 hat.2.2.2.1
  have hk1 : k ≤ 17592186043904 := by rw [← hk]; exact hri.fits1
  obtain ⟨bm, om, km, rfl, hcm⟩ := hri.open_ hk hk0
  have HCR : Hid (∀ w', Below w.heap.size w w' → w'.cell? ⟨bc, oc + x, none⟩ = some (.slice (some ⟨bm, om, none⟩) k km)) := Lib.hid fun w' hb => by rw [hb.cell (p := ⟨bc, oc + x, none⟩) (cell_lt hcr)]; exact hcr
  have HN := Lib.hid hn
  have GC := Lib.hid hc
  have HCA := Lib.hid hca
  have HCS := Lib.hid hcs
  have HM := Lib.hid hm
  have HIN := Lib.hid hin
  have HROW := Lib.hid hrow
  have HK := Lib.hid hk
  have GI := Lib.hid hri
  have HCM := Lib.hid hcm
  obtain ⟨ow, how⟩ : ∃ ow, g.owner.getD x 0 = ow := ⟨_, rfl⟩
  have HOW := Lib.hid how
  have hxi : (x : Int) < (n : Int) := by omega
  have hx0 : (0 : Int) ≤ (x : Int) := Int.natCast_nonneg _
  have hyi : (y : Int) < (m : Int) := by omega
  have hy0 : (0 : Int) ≤ (y : Int) := Int.natCast_nonneg _
  have hmi : (m : Int) ≤ 64 := by omega
  clear hr hn hop hmp hc hca hcc hcs hm hat how hin hrow hk hri hcm hcr
  go_enter Tryd.func19, Tryd.ntmps19
  go_wp2_with fail
  have bx0 : Box ((w.alloc (.cells #[.int .i64 (x : Int), .int .i64 (y : Int)] 59)).alloc (.cells #[.int .i64 0, .int .i64 0] 59)) (w.heap.size) 59 #[.int .i64 (x : Int), .int .i64 (y : Int)] := Box.alloc (Box.new w 59 #[.int .i64 (x : Int), .int .i64 (y : Int)]) (.cells #[.int .i64 0, .int .i64 0] 59)
  have bx1 : Box ((w.alloc (.cells #[.int .i64 (x : Int), .int .i64 (y : Int)] 59)).alloc (.cells #[.int .i64 0, .int .i64 0] 59)) (w.heap.size + 1) 59 #[.int .i64 0, .int .i64 0] := by
    have := Box.new (w.alloc (.cells #[.int .i64 (x : Int), .int .i64 (y : Int)] 59)) 59 #[.int .i64 0, .int .i64 0]
    simpa using this
  have hbq : Below w.heap.size w ((w.alloc (.cells #[.int .i64 (x : Int), .int .i64 (y : Int)] 59)).alloc (.cells #[.int .i64 0, .int .i64 0] 59)) := ((Below.refl _ w).alloc (Nat.le_refl _) _).alloc (by simp) _
  have lt0 : w.heap.size < w.heap.size + 1 := Nat.lt_succ_self _
  have hle0 : w.heap.size ≤ w.heap.size := Nat.le_refl _
  replace GC := Lib.hid (GC.out.on hbq)
  replace GI := Lib.hid (GI.out.on hbq)
  generalize ((w.alloc (.cells #[.int .i64 (x : Int), .int .i64 (y : Int)] 59)).alloc (.cells #[.int .i64 0, .int .i64 0] 59)) = w0 at bx0 bx1 hbq GC GI ⊢
  have BQh := Lib.hid bx0
  have BQr := Lib.hid bx1
  have W := Lib.hid hbq
  have LThr := Lib.hid lt0
  have LEh := Lib.hid hle0
  clear hbq hle0 bx0 bx1 lt0
  generalize w.heap.size + 1 = qr at BQr LThr ⊢
  obtain ⟨qh, hqh⟩ : ∃ qh, w.heap.size = qh := ⟨_, rfl⟩
  rw [hqh] at BQh LThr ⊢
  have LEh : Hid (w.heap.size ≤ qh) := Lib.hid (by omega)
  clear hqh
  have HQR := Lib.hid (show w.heap.size ≤ qr by have h1 := LEh.out; have h2 := LThr.out; omega)
  clear LEh LThr
  go_upto_region 1 with (fail)
  have hcr := HCR.out w0 W.out
  have cc0 : w0.cell? ⟨qc, 0, none⟩ = some (.slice (some ⟨ba, oa, none⟩) n ka) := GC.out.box.cell 0 _ rfl
  have cc1 : w0.cell? ⟨qc, 1, none⟩ = some (.slice (some ⟨bb, ob, none⟩) n kb) := GC.out.box.cell 1 _ rfl
  have cc2 : w0.cell? ⟨qc, 2, none⟩ = some (.slice (some ⟨bc, oc, none⟩) n kc) := GC.out.box.cell 2 _ rfl
  have cc3 : w0.cell? ⟨qc, 3, none⟩ = some (.int .i64 p) := GC.out.box.cell 3 _ rfl
  have cc4 : w0.cell? ⟨qc, 4, none⟩ = some mv := GC.out.box.cell 4 _ rfl
  have cc5 : w0.cell? ⟨qc, 5, none⟩ = some (.slice (some ⟨bs, os, none⟩) m ks) := GC.out.box.cell 5 _ rfl
  have hc0 : w0.cell? ⟨qh, 0, none⟩ = some (.int .i64 (x : Int)) := BQh.out.cell 0 _ rfl
  have hc1 : w0.cell? ⟨qh, 1, none⟩ = some (.int .i64 (y : Int)) := BQh.out.cell 1 _ rfl
  go_quiet ((fail))
  clear cc0 cc1 cc2 cc3 cc4 cc5 hc0 hc1
  have hb := below_drewN (Below.refl w0.heap.size w0) nq
  replace W := Lib.hid (W.out.trans (hb.mono W.out.size))
  replace BQh := Lib.hid (BQh.out.keep (grown_of_below hb none))
  replace BQr := Lib.hid (BQr.out.keep (grown_of_below hb none))
  replace GC := Lib.hid (GC.out.on hb)
  replace GI := Lib.hid (GI.out.on hb)
  clear hb
  generalize w0.drewN nq = w1 at W BQh BQr GC GI ⊢
  clear hcr
  by_cases hown : ow = p
  · have fo : (ow == p) = true := beq_iff_eq.2 hown
    go_upto_region 2 with (fail)
    have hco := HCA.out w1 W.out x hx
    rw [HOW.out] at hco
    have cc0 : w1.cell? ⟨qc, 0, none⟩ = some (.slice (some ⟨ba, oa, none⟩) n ka) := GC.out.box.cell 0 _ rfl
    have cc1 : w1.cell? ⟨qc, 1, none⟩ = some (.slice (some ⟨bb, ob, none⟩) n kb) := GC.out.box.cell 1 _ rfl
    have cc2 : w1.cell? ⟨qc, 2, none⟩ = some (.slice (some ⟨bc, oc, none⟩) n kc) := GC.out.box.cell 2 _ rfl
    have cc3 : w1.cell? ⟨qc, 3, none⟩ = some (.int .i64 p) := GC.out.box.cell 3 _ rfl
    have cc4 : w1.cell? ⟨qc, 4, none⟩ = some mv := GC.out.box.cell 4 _ rfl
    have cc5 : w1.cell? ⟨qc, 5, none⟩ = some (.slice (some ⟨bs, os, none⟩) m ks) := GC.out.box.cell 5 _ rfl
    have hc0 : w1.cell? ⟨qh, 0, none⟩ = some (.int .i64 (x : Int)) := BQh.out.cell 0 _ rfl
    have hc1 : w1.cell? ⟨qh, 1, none⟩ = some (.int .i64 (y : Int)) := BQh.out.cell 1 _ rfl
    go_quiet ((fail))
    clear cc0 cc1 cc2 cc3 cc4 cc5 hc0 hc1
    have hb := below_drewN (Below.refl w1.heap.size w1) nq
    replace W := Lib.hid (W.out.trans (hb.mono W.out.size))
    replace BQh := Lib.hid (BQh.out.keep (grown_of_below hb none))
    replace BQr := Lib.hid (BQr.out.keep (grown_of_below hb none))
    replace GC := Lib.hid (GC.out.on hb)
    replace GI := Lib.hid (GI.out.on hb)
    clear hb
    generalize w1.drewN nq = w2 at W BQh BQr GC GI ⊢
    clear hco
    have hmov := GC.out.moves
    obtain ⟨mm, hmm⟩ : ∃ mm, moves.length = mm := ⟨_, rfl⟩
    have HMM := Lib.hid hmm
    by_cases hxm : x < mm
    · have hxmi : (x : Int) < (mm : Int) := by omega
      have fx : decide ((mm : Int) ≤ (x : Int)) = false := decide_eq_false (by omega)
      obtain ⟨am, xm, cm, rfl, hcm⟩ := hmov.open_ hmm (by omega)
      have HCM2 := Lib.hid hcm
      have hmml : mm ≤ 17592186043904 := by rw [← hmm]; exact hmov.fits1
      obtain ⟨u, hu⟩ : ∃ u, moves.getD x 0 = u := ⟨_, rfl⟩
      have HU := Lib.hid hu
      clear hmov hmm hcm hu
      have HOM := Lib.hid (show P.ownMove moves x = u by rw [P.ownMove, if_pos (by rw [HMM.out]; exact hxm), HU.out])
      by_cases hmem : u ∈ row
      · have fm : decide (u ∈ row) = true := decide_eq_true hmem
        have hu0 := HIN.out u hmem
        have HF := Lib.hid (show P.stepS g p moves script (x, y) = some (u.toNat, y) by
          unfold P.stepS
          simp only []
          rw [HOW.out, if_pos hown, HROW.out, HOM.out, if_pos hmem])
        have HUN := Lib.hid (show ((u.toNat : Nat) : Int) = u by omega)
        have hmu : moves.getD x 0 = u := HU.out
        have hcu := HCM2.out w2 (Below.refl _ _) x hxm
        rw [hmu] at hcu
        clear hmu
        go_upto_region 6 with (fail)
        have cc0 : w2.cell? ⟨qc, 0, none⟩ = some (.slice (some ⟨ba, oa, none⟩) n ka) := GC.out.box.cell 0 _ rfl
        have cc1 : w2.cell? ⟨qc, 1, none⟩ = some (.slice (some ⟨bb, ob, none⟩) n kb) := GC.out.box.cell 1 _ rfl
        have cc2 : w2.cell? ⟨qc, 2, none⟩ = some (.slice (some ⟨bc, oc, none⟩) n kc) := GC.out.box.cell 2 _ rfl
        have cc3 : w2.cell? ⟨qc, 3, none⟩ = some (.int .i64 p) := GC.out.box.cell 3 _ rfl
        have cc4 : w2.cell? ⟨qc, 4, none⟩ = some (.slice (some ⟨am, xm, none⟩) mm cm) := GC.out.box.cell 4 _ rfl
        have cc5 : w2.cell? ⟨qc, 5, none⟩ = some (.slice (some ⟨bs, os, none⟩) m ks) := GC.out.box.cell 5 _ rfl
        have hc0 : w2.cell? ⟨qh, 0, none⟩ = some (.int .i64 (x : Int)) := BQh.out.cell 0 _ rfl
        have hc1 : w2.cell? ⟨qh, 1, none⟩ = some (.int .i64 (y : Int)) := BQh.out.cell 1 _ rfl
        go_quiet ((go_at_call 31; refine Calls.quiet_of_same ((contains_any _ row u _ (GI.out.on (below_drewN (Below.refl _ _) _))).mono fun _ _ h => ⟨h.1, h.2.symm⟩)))
        clear cc0 cc1 cc2 cc3 cc4 cc5 hc0 hc1
        have hb := below_drewN (Below.refl w2.heap.size w2) nq
        replace W := Lib.hid (W.out.trans (hb.mono W.out.size))
        replace BQh := Lib.hid (BQh.out.keep (grown_of_below hb none))
        replace BQr := Lib.hid (BQr.out.keep (grown_of_below hb none))
        replace GC := Lib.hid (GC.out.on hb)
        replace GI := Lib.hid (GI.out.on hb)
        clear hb
        generalize w2.drewN nq = w3 at W BQh BQr GC GI ⊢
        clear hcu
        go_upto_region 8 with (fail)
        have HCU := Lib.hid (show ∀ w', Below w3.heap.size w3 w' → w'.cell? ⟨am, xm + x, none⟩ = some (.int .i64 u) from fun w' hb => by
          obtain ⟨am', xm', cm', he, hc2⟩ := GC.out.moves.open_ HMM.out (by omega)
          injection he with he
          injection he with he
          injection he with he1 he2
          subst he1 he2
          rw [← HU.out]
          exact hc2 w' hb x hxm)
        refine Rt.wp_region_tail 2 (fun idx => match idx with | 0 => (fun v _ _ => v = (.pointer (some ⟨qc, 0, none⟩))) | 1 => (fun v _ _ => v = (.pointer (some ⟨qc, 0, none⟩))) | 2 => (fun v _ _ => v = (.pointer (some ⟨qc, 4, none⟩))) | 3 => (fun v _ _ => v = (.slice (some ⟨am, xm, none⟩) mm cm)) | 4 => (fun v _ _ => v = (.pointer (some ⟨qh, 0, none⟩))) | 5 => (fun v _ _ => v = (.int .i64 (x : Int))) | 6 => (fun v _ _ => v = (.pointer (some ⟨am, xm + x, none⟩))) | 7 => (fun v _ _ => v = (.int .i64 u)) | 8 => (fun v _ _ => v = (.pointer (some ⟨qh, 1, none⟩))) | 9 => (fun v _ _ => v = (.int .i64 (y : Int))) | 10 => (fun v _ _ => v = .agg #[(.int .i64 u), (.int .i64 (y : Int))]) | _ => fun _ _ _ => True) (fun _ _ _ _ => True) (Rk.allK) 99 (by kernel_rfl) (by rfl) (by kernel_rfl) (by rfl) ?_ ?_ ?_ ?_
        · refine ⟨?_, ?_, ?_, ?_, ?_, ?_, ?_, ?_, ?_, ?_, ?_, trivial⟩
          · intro A w' K vals h hn hT hgk hK0
            have r0 : A.tmps[0]?.getD undef = (.pointer (some ⟨qc, 0, none⟩)) := Rg.slot h.1
            clear h hn hT hgk
            simp [Oper.wp, execOp, go_sem, r0]
            exact hK0 _ _ (Rk.Keeps.refl _ _) rfl trivial
          · intro A w' K vals h hn hT hgk hK0
            have r0 : A.tmps[84]?.getD undef = vals 0 := Rg.slot h.1
            have s0 : vals 0 = (.pointer (some ⟨qc, 0, none⟩)) := hn.1
            clear h hn hT hgk
            simp [Oper.wp, execOp, go_sem, r0, s0]
            exact hK0 _ _ (Rk.Keeps.refl _ _) rfl trivial
          · intro A w' K vals h hn hT hgk hK0
            have r0 : A.tmps[85]?.getD undef = vals 1 := Rg.slot h.1
            have s0 : vals 1 = (.pointer (some ⟨qc, 0, none⟩)) := hn.1
            clear h hn hT hgk
            simp [Oper.wp, execOp, go_sem, r0, s0]
            exact hK0 _ _ (Rk.Keeps.refl _ _) rfl trivial
          · intro A w' K vals h hn hT hgk hK0
            have r0 : A.tmps[86]?.getD undef = vals 2 := Rg.slot (h.1)
            have r1 : vals 2 = (.pointer (some ⟨qc, 4, none⟩)) := hn.1
            have c : w'.cell? ⟨qc, 4, none⟩ = some (.slice (some ⟨am, xm, none⟩) mm cm) := (GC.out.box.keep (Rk.grown_of hgk)).cell 4 _ rfl
            clear h hn hT hgk
            simp [Oper.wp, execOp, go_sem, r0, r1, c]
            exact hK0 _ _ (Rk.Keeps.refl _ _) rfl trivial
          · intro A w' K vals h hn hT hgk hK0
            have r0 : A.tmps[3]?.getD undef = (.pointer (some ⟨qh, 0, none⟩)) := Rg.slot h.1
            clear h hn hT hgk
            simp [Oper.wp, execOp, go_sem, r0]
            exact hK0 _ _ (Rk.Keeps.refl _ _) rfl trivial
          · intro A w' K vals h hn hT hgk hK0
            have r0 : A.tmps[88]?.getD undef = vals 4 := Rg.slot (h.1)
            have r1 : vals 4 = (.pointer (some ⟨qh, 0, none⟩)) := hn.1
            have c : w'.cell? ⟨qh, 0, none⟩ = some (.int .i64 (x : Int)) := (BQh.out.keep (Rk.grown_of hgk)).cell 0 _ rfl
            clear h hn hT hgk
            simp [Oper.wp, execOp, go_sem, r0, r1, c]
            exact hK0 _ _ (Rk.Keeps.refl _ _) rfl trivial
          · intro A w' K vals h hn hT hgk hK0
            have r0 : A.tmps[87]?.getD undef = vals 3 := Rg.slot h.1
            have s0 : vals 3 = (.slice (some ⟨am, xm, none⟩) mm cm) := hn.1
            have r1 : A.tmps[89]?.getD undef = vals 5 := Rg.slot h.2.1
            have s1 : vals 5 = (.int .i64 (x : Int)) := hn.2.1
            clear h hn hT hgk
            simp [Oper.wp, execOp, go_sem, r0, r1, s0, s1, hxm, hx0]
            exact hK0 _ _ (Rk.Keeps.refl _ _) rfl trivial
          · intro A w' K vals h hn hT hgk hK0
            have r0 : A.tmps[90]?.getD undef = vals 6 := Rg.slot (h.1)
            have r1 : vals 6 = (.pointer (some ⟨am, xm + x, none⟩)) := hn.1
            have c : w'.cell? ⟨am, xm + x, none⟩ = some (.int .i64 u) := HCU.out w' (below_of_grown (Rk.grown_of hgk))
            clear h hn hT hgk
            simp [Oper.wp, execOp, go_sem, r0, r1, c]
            exact hK0 _ _ (Rk.Keeps.refl _ _) rfl trivial
          · intro A w' K vals h hn hT hgk hK0
            have r0 : A.tmps[3]?.getD undef = (.pointer (some ⟨qh, 0, none⟩)) := Rg.slot h.1
            clear h hn hT hgk
            simp [Oper.wp, execOp, go_sem, r0]
            exact hK0 _ _ (Rk.Keeps.refl _ _) rfl trivial
          · intro A w' K vals h hn hT hgk hK0
            have r0 : A.tmps[92]?.getD undef = vals 8 := Rg.slot (h.1)
            have r1 : vals 8 = (.pointer (some ⟨qh, 1, none⟩)) := hn.1
            have c : w'.cell? ⟨qh, 1, none⟩ = some (.int .i64 (y : Int)) := (BQh.out.keep (Rk.grown_of hgk)).cell 1 _ rfl
            clear h hn hT hgk
            simp [Oper.wp, execOp, go_sem, r0, r1, c]
            exact hK0 _ _ (Rk.Keeps.refl _ _) rfl trivial
          · intro A w' K vals h hn hT hgk hK0
            have r0 : A.tmps[91]?.getD undef = vals 7 := Rg.slot h.1
            have s0 : vals 7 = (.int .i64 u) := hn.1
            have r1 : A.tmps[93]?.getD undef = vals 9 := Rg.slot h.2.1
            have s1 : vals 9 = (.int .i64 (y : Int)) := hn.2.1
            clear h hn hT hgk
            simp [Oper.wp, execOp, go_sem, r0, r1, s0, s1]
            exact hK0 _ _ (Rk.Keeps.refl _ _) rfl trivial
        · refine ⟨?_, ?_, ?_, ?_, ?_, ?_, ?_, ?_, ?_, ?_, ?_, trivial⟩
          · exact fun _ _ _ _ _ _ h => h
          · exact fun _ _ _ _ _ _ h => h
          · exact fun _ _ _ _ _ _ h => h
          · exact fun _ _ _ _ _ _ h => h
          · exact fun _ _ _ _ _ _ h => h
          · exact fun _ _ _ _ _ _ h => h
          · exact fun _ _ _ _ _ _ h => h
          · exact fun _ _ _ _ _ _ h => h
          · exact fun _ _ _ _ _ _ h => h
          · exact fun _ _ _ _ _ _ h => h
          · exact fun _ _ _ _ _ _ h => h
        · exact fun _ _ _ _ _ _ h => h
        · intro vals w9 G hgk hS hG
          have sB : vals 10 = .agg #[(.int .i64 u), (.int .i64 (y : Int))] := hS.2.2.2.2.2.2.2.2.2.2.1
          clear hS
          have hb := below_of_grown (Rk.grown_of hgk)
          replace W := Lib.hid (W.out.trans (hb.mono W.out.size))
          replace BQh := Lib.hid (BQh.out.keep (grown_of_below hb none))
          replace BQr := Lib.hid (BQr.out.keep (grown_of_below hb none))
          replace GC := Lib.hid (GC.out.on hb)
          replace GI := Lib.hid (GI.out.on hb)
          clear hb hgk
          have rc0 : w9.cell? ⟨qr, 0, none⟩ = some (.int .i64 0) := BQr.out.cell 0 _ rfl
          have rc1 : w9.cell? ⟨qr, 1, none⟩ = some (.int .i64 0) := BQr.out.cell 1 _ rfl
          have rf0 : w9.frozen? ⟨qr, 0, none⟩ = false := BQr.out.frozen 0
          have rf1 : w9.frozen? ⟨qr, 1, none⟩ = false := BQr.out.frozen 1
          refine hG ?_
          clear hG
          simp only [List.take, List.drop, List.length, Nat.reduceSub, Nat.reduceAdd, Rg.putAll, Act.put, List.setIfInBounds_toArray, List.set_cons_succ, List.set_cons_zero, sB]
          clear sB
          go_wp2_with fail
          have HBEL := Lib.hid ((W.out.setCell (p := ⟨qr, 0, none⟩) HQR.out (.int .i64 u)).setCell (p := ⟨qr, 1, none⟩) HQR.out (.int .i64 (y : Int)))
          refine bodyPost_ret (v := .tuple #[.agg #[(.int .i64 u), (.int .i64 (y : Int))], .int .i64 0]) (by simp [results, Tryd.results19, go_sem, rc0, rc1]) rfl ⟨by rw [HF.out]; simp only [stepV, HUN.out], HBEL.out⟩

      · have fm : decide (u ∈ row) = false := decide_eq_false hmem
        have HF := Lib.hid (show P.stepS g p moves script (x, y) = none by
          unfold P.stepS
          simp only []
          rw [HOW.out, if_pos hown, HROW.out, HOM.out, if_neg hmem])
        have hmu : moves.getD x 0 = u := HU.out
        have hcu := HCM2.out w2 (Below.refl _ _) x hxm
        rw [hmu] at hcu
        clear hmu
        go_upto_region 6 with (fail)
        have cc0 : w2.cell? ⟨qc, 0, none⟩ = some (.slice (some ⟨ba, oa, none⟩) n ka) := GC.out.box.cell 0 _ rfl
        have cc1 : w2.cell? ⟨qc, 1, none⟩ = some (.slice (some ⟨bb, ob, none⟩) n kb) := GC.out.box.cell 1 _ rfl
        have cc2 : w2.cell? ⟨qc, 2, none⟩ = some (.slice (some ⟨bc, oc, none⟩) n kc) := GC.out.box.cell 2 _ rfl
        have cc3 : w2.cell? ⟨qc, 3, none⟩ = some (.int .i64 p) := GC.out.box.cell 3 _ rfl
        have cc4 : w2.cell? ⟨qc, 4, none⟩ = some (.slice (some ⟨am, xm, none⟩) mm cm) := GC.out.box.cell 4 _ rfl
        have cc5 : w2.cell? ⟨qc, 5, none⟩ = some (.slice (some ⟨bs, os, none⟩) m ks) := GC.out.box.cell 5 _ rfl
        have hc0 : w2.cell? ⟨qh, 0, none⟩ = some (.int .i64 (x : Int)) := BQh.out.cell 0 _ rfl
        have hc1 : w2.cell? ⟨qh, 1, none⟩ = some (.int .i64 (y : Int)) := BQh.out.cell 1 _ rfl
        go_quiet ((go_at_call 31; refine Calls.quiet_of_same ((contains_any _ row u _ (GI.out.on (below_drewN (Below.refl _ _) _))).mono fun _ _ h => ⟨h.1, h.2.symm⟩)))
        clear cc0 cc1 cc2 cc3 cc4 cc5 hc0 hc1
        have hb := below_drewN (Below.refl w2.heap.size w2) nq
        replace W := Lib.hid (W.out.trans (hb.mono W.out.size))
        replace BQh := Lib.hid (BQh.out.keep (grown_of_below hb none))
        replace BQr := Lib.hid (BQr.out.keep (grown_of_below hb none))
        replace GC := Lib.hid (GC.out.on hb)
        replace GI := Lib.hid (GI.out.on hb)
        clear hb
        generalize w2.drewN nq = w3 at W BQh BQr GC GI ⊢
        clear hcu
        have rc0 : w3.cell? ⟨qr, 0, none⟩ = some (.int .i64 0) := BQr.out.cell 0 _ rfl
        have rc1 : w3.cell? ⟨qr, 1, none⟩ = some (.int .i64 0) := BQr.out.cell 1 _ rfl
        have rf0 : w3.frozen? ⟨qr, 0, none⟩ = false := BQr.out.frozen 0
        have rf1 : w3.frozen? ⟨qr, 1, none⟩ = false := BQr.out.frozen 1
        go_wp2_with fail
        have HBEL := Lib.hid ((W.out.setCell (p := ⟨qr, 0, none⟩) HQR.out (.int .i64 0)).setCell (p := ⟨qr, 1, none⟩) HQR.out (.int .i64 0))
        refine bodyPost_ret (v := .tuple #[.agg #[.int .i64 0, .int .i64 0], .int .i64 16]) (by simp [results, Tryd.results19, go_sem, rc0, rc1]) rfl ⟨by rw [HF.out]; rfl, HBEL.out⟩

    · have fx : decide ((mm : Int) ≤ (x : Int)) = true := decide_eq_true (by omega)
      have HF := Lib.hid (show P.stepS g p moves script (x, y) = none by
        unfold P.stepS
        simp only []
        rw [HOW.out, if_pos hown, HROW.out, show P.ownMove moves x = -1 by rw [P.ownMove, if_neg (by rw [HMM.out]; exact hxm)], if_neg fun h => by have h1 := (HIN.out _ h).1; omega])
      obtain ⟨am, cm, rfl, hmml, -⟩ := hmov
      rw [hmm] at GC hmml
      clear hmm
      go_upto_region 6 with (fail)
      have cc0 : w2.cell? ⟨qc, 0, none⟩ = some (.slice (some ⟨ba, oa, none⟩) n ka) := GC.out.box.cell 0 _ rfl
      have cc1 : w2.cell? ⟨qc, 1, none⟩ = some (.slice (some ⟨bb, ob, none⟩) n kb) := GC.out.box.cell 1 _ rfl
      have cc2 : w2.cell? ⟨qc, 2, none⟩ = some (.slice (some ⟨bc, oc, none⟩) n kc) := GC.out.box.cell 2 _ rfl
      have cc3 : w2.cell? ⟨qc, 3, none⟩ = some (.int .i64 p) := GC.out.box.cell 3 _ rfl
      have cc4 : w2.cell? ⟨qc, 4, none⟩ = some (.slice am mm cm) := GC.out.box.cell 4 _ rfl
      have cc5 : w2.cell? ⟨qc, 5, none⟩ = some (.slice (some ⟨bs, os, none⟩) m ks) := GC.out.box.cell 5 _ rfl
      have hc0 : w2.cell? ⟨qh, 0, none⟩ = some (.int .i64 (x : Int)) := BQh.out.cell 0 _ rfl
      have hc1 : w2.cell? ⟨qh, 1, none⟩ = some (.int .i64 (y : Int)) := BQh.out.cell 1 _ rfl
      go_quiet ((fail))
      clear cc0 cc1 cc2 cc3 cc4 cc5 hc0 hc1
      have hb := below_drewN (Below.refl w2.heap.size w2) nq
      replace W := Lib.hid (W.out.trans (hb.mono W.out.size))
      replace BQh := Lib.hid (BQh.out.keep (grown_of_below hb none))
      replace BQr := Lib.hid (BQr.out.keep (grown_of_below hb none))
      replace GC := Lib.hid (GC.out.on hb)
      replace GI := Lib.hid (GI.out.on hb)
      clear hb
      generalize w2.drewN nq = w3 at W BQh BQr GC GI ⊢

      have rc0 : w3.cell? ⟨qr, 0, none⟩ = some (.int .i64 0) := BQr.out.cell 0 _ rfl
      have rc1 : w3.cell? ⟨qr, 1, none⟩ = some (.int .i64 0) := BQr.out.cell 1 _ rfl
      have rf0 : w3.frozen? ⟨qr, 0, none⟩ = false := BQr.out.frozen 0
      have rf1 : w3.frozen? ⟨qr, 1, none⟩ = false := BQr.out.frozen 1
      go_wp2_with fail
      have HBEL := Lib.hid ((W.out.setCell (p := ⟨qr, 0, none⟩) HQR.out (.int .i64 0)).setCell (p := ⟨qr, 1, none⟩) HQR.out (.int .i64 0))
      refine bodyPost_ret (v := .tuple #[.agg #[.int .i64 0, .int .i64 0], .int .i64 16]) (by simp [results, Tryd.results19, go_sem, rc0, rc1]) rfl ⟨by rw [HF.out]; rfl, HBEL.out⟩

  · have fo : (ow == p) = false := beq_eq_false_iff_ne.2 hown
    have hcz0 := HCS.out w1 W.out y hy
    obtain ⟨z, hz⟩ : ∃ z, script.getD y 0 = z := ⟨_, rfl⟩
    rw [hz] at hcz0
    have HZ := Lib.hid hz
    clear hz hcz0
    have hki : (0 : Int) < (k : Int) := by omega
    have hkm : (k : Int) ≤ 17592186043904 := by omega
    obtain ⟨ht1, ht2, ht3⟩ := rem_turn (z := z) hki
    have hj1 := Int.emod_nonneg z (show (k : Int) ≠ 0 by omega)
    have hj2 := Int.emod_lt_of_pos z hki
    obtain ⟨j, hj⟩ := Int.eq_ofNat_of_zero_le hj1
    rw [hj] at ht1
    have hjk : j < k := by omega
    have HJ := Lib.hid (show P.pick z k = j by unfold P.pick; omega)
    clear hj1 hj2 hj
    go_upto_region 2 with (fail)
    have hco := HCA.out w1 W.out x hx
    rw [HOW.out] at hco
    have cc0 : w1.cell? ⟨qc, 0, none⟩ = some (.slice (some ⟨ba, oa, none⟩) n ka) := GC.out.box.cell 0 _ rfl
    have cc1 : w1.cell? ⟨qc, 1, none⟩ = some (.slice (some ⟨bb, ob, none⟩) n kb) := GC.out.box.cell 1 _ rfl
    have cc2 : w1.cell? ⟨qc, 2, none⟩ = some (.slice (some ⟨bc, oc, none⟩) n kc) := GC.out.box.cell 2 _ rfl
    have cc3 : w1.cell? ⟨qc, 3, none⟩ = some (.int .i64 p) := GC.out.box.cell 3 _ rfl
    have cc4 : w1.cell? ⟨qc, 4, none⟩ = some mv := GC.out.box.cell 4 _ rfl
    have cc5 : w1.cell? ⟨qc, 5, none⟩ = some (.slice (some ⟨bs, os, none⟩) m ks) := GC.out.box.cell 5 _ rfl
    have hc0 : w1.cell? ⟨qh, 0, none⟩ = some (.int .i64 (x : Int)) := BQh.out.cell 0 _ rfl
    have hc1 : w1.cell? ⟨qh, 1, none⟩ = some (.int .i64 (y : Int)) := BQh.out.cell 1 _ rfl
    go_quiet ((fail))
    clear cc0 cc1 cc2 cc3 cc4 cc5 hc0 hc1
    have hb := below_drewN (Below.refl w1.heap.size w1) nq
    replace W := Lib.hid (W.out.trans (hb.mono W.out.size))
    replace BQh := Lib.hid (BQh.out.keep (grown_of_below hb none))
    replace BQr := Lib.hid (BQr.out.keep (grown_of_below hb none))
    replace GC := Lib.hid (GC.out.on hb)
    replace GI := Lib.hid (GI.out.on hb)
    clear hb
    generalize w1.drewN nq = w2 at W BQh BQr GC GI ⊢
    clear hco
    have hcz := HCS.out w2 W.out y hy
    rw [HZ.out] at hcz
    go_upto_region 4 with (fail)
    have cc0 : w2.cell? ⟨qc, 0, none⟩ = some (.slice (some ⟨ba, oa, none⟩) n ka) := GC.out.box.cell 0 _ rfl
    have cc1 : w2.cell? ⟨qc, 1, none⟩ = some (.slice (some ⟨bb, ob, none⟩) n kb) := GC.out.box.cell 1 _ rfl
    have cc2 : w2.cell? ⟨qc, 2, none⟩ = some (.slice (some ⟨bc, oc, none⟩) n kc) := GC.out.box.cell 2 _ rfl
    have cc3 : w2.cell? ⟨qc, 3, none⟩ = some (.int .i64 p) := GC.out.box.cell 3 _ rfl
    have cc4 : w2.cell? ⟨qc, 4, none⟩ = some mv := GC.out.box.cell 4 _ rfl
    have cc5 : w2.cell? ⟨qc, 5, none⟩ = some (.slice (some ⟨bs, os, none⟩) m ks) := GC.out.box.cell 5 _ rfl
    have hc0 : w2.cell? ⟨qh, 0, none⟩ = some (.int .i64 (x : Int)) := BQh.out.cell 0 _ rfl
    have hc1 : w2.cell? ⟨qh, 1, none⟩ = some (.int .i64 (y : Int)) := BQh.out.cell 1 _ rfl
    go_quiet ((fail))
    clear cc0 cc1 cc2 cc3 cc4 cc5 hc0 hc1
    have hb := below_drewN (Below.refl w2.heap.size w2) nq
    replace W := Lib.hid (W.out.trans (hb.mono W.out.size))
    replace BQh := Lib.hid (BQh.out.keep (grown_of_below hb none))
    replace BQr := Lib.hid (BQr.out.keep (grown_of_below hb none))
    replace GC := Lib.hid (GC.out.on hb)
    replace GI := Lib.hid (GI.out.on hb)
    clear hb
    generalize w2.drewN nq = w3 at W BQh BQr GC GI ⊢
    clear hcz ht1 ht2 ht3
    go_upto_region 5 with (fail)
    obtain ⟨u, hu⟩ : ∃ u, row.getD j 0 = u := ⟨_, rfl⟩
    have hmem : u ∈ row := by rw [← hu]; exact mem_getD17 (by rw [HK.out]; exact hjk)
    have hu0 := HIN.out u hmem
    have HU := Lib.hid hu
    have HUN := Lib.hid (show ((u.toNat : Nat) : Int) = u by omega)
    have HCU := Lib.hid (show ∀ w', Below w3.heap.size w3 w' → w'.cell? ⟨bm, om + j, none⟩ = some (.int .i64 u) from fun w' hb => by
      rw [← HU.out]
      exact HCM.out w' (W.out.trans (hb.mono W.out.size)) j hjk)
    have HF := Lib.hid (show P.stepS g p moves script (x, y) = some (u.toNat, (y + 1) % m) by
      unfold P.stepS
      simp only []
      rw [HOW.out, if_neg hown, HROW.out, HK.out, HZ.out, HJ.out, HU.out, HM.out])
    have hji : (j : Int) < (k : Int) := by omega
    have hj0 : (0 : Int) ≤ (j : Int) := Int.natCast_nonneg _
    have hyw : IntKind.i64.wrap ((y : Int) + 1) = (y : Int) + 1 := by rw [IntKind.wrap_i64]; omega
    have hym : Int.tmod ((y : Int) + 1) (m : Int) = ((y : Int) + 1) % (m : Int) := Int.tmod_eq_emod_of_nonneg (by omega)
    have HYM := Lib.hid (show (((y + 1) % m : Nat) : Int) = ((y : Int) + 1) % (m : Int) by rw [Int.natCast_emod]; rfl)
    have hm00 : ¬ m = 0 := by omega
    clear hu hmem
    refine Rt.wp_region_tail 2 (fun idx => match idx with | 0 => (fun v _ _ => v = (.slice (some ⟨bm, om, none⟩) k km)) | 1 => (fun v _ _ => v = (.int .i64 (j : Int))) | 2 => (fun v _ _ => v = (.pointer (some ⟨bm, om + j, none⟩))) | 3 => (fun v _ _ => v = (.int .i64 u)) | 4 => (fun v _ _ => v = (.pointer (some ⟨qh, 1, none⟩))) | 5 => (fun v _ _ => v = (.int .i64 (y : Int))) | 6 => (fun v _ _ => v = (.int .i64 ((y : Int) + 1))) | 7 => (fun v _ _ => v = (.pointer (some ⟨qc, 0, none⟩))) | 8 => (fun v _ _ => v = (.pointer (some ⟨qc, 0, none⟩))) | 9 => (fun v _ _ => v = (.pointer (some ⟨qc, 5, none⟩))) | 10 => (fun v _ _ => v = (.slice (some ⟨bs, os, none⟩) m ks)) | 11 => (fun v _ _ => v = (.int .i64 (m : Int))) | 12 => (fun v _ _ => v = (.int .i64 (((y : Int) + 1) % (m : Int)))) | 13 => (fun v _ _ => v = .agg #[(.int .i64 u), (.int .i64 (((y : Int) + 1) % (m : Int)))]) | _ => fun _ _ _ => True) (fun _ _ _ _ => True) (Rk.allK) 99 (by kernel_rfl) (by rfl) (by kernel_rfl) (by rfl) ?_ ?_ ?_ ?_
    · refine ⟨?_, ?_, ?_, ?_, ?_, ?_, ?_, ?_, ?_, ?_, ?_, ?_, ?_, ?_, trivial⟩
      · intro A w' K vals h hn hT hgk hK0
        have r0 : A.tmps[6]?.getD undef = (.slice (some ⟨bm, om, none⟩) k km) := Rg.slot h.1
        clear h hn hT hgk
        simp [Oper.wp, execOp, go_sem, r0]
        exact hK0 _ _ (Rk.Keeps.refl _ _) rfl trivial
      · intro A w' K vals h hn hT hgk hK0
        have r0 : A.tmps[8]?.getD undef = (.int .i64 (j : Int)) := Rg.slot h.1
        clear h hn hT hgk
        simp [Oper.wp, execOp, go_sem, r0]
        exact hK0 _ _ (Rk.Keeps.refl _ _) rfl trivial
      · intro A w' K vals h hn hT hgk hK0
        have r0 : A.tmps[48]?.getD undef = vals 0 := Rg.slot h.1
        have s0 : vals 0 = (.slice (some ⟨bm, om, none⟩) k km) := hn.1
        have r1 : A.tmps[49]?.getD undef = vals 1 := Rg.slot h.2.1
        have s1 : vals 1 = (.int .i64 (j : Int)) := hn.2.1
        clear h hn hT hgk
        simp [Oper.wp, execOp, go_sem, r0, r1, s0, s1, hji, hj0]
        exact hK0 _ _ (Rk.Keeps.refl _ _) rfl trivial
      · intro A w' K vals h hn hT hgk hK0
        have r0 : A.tmps[50]?.getD undef = vals 2 := Rg.slot (h.1)
        have r1 : vals 2 = (.pointer (some ⟨bm, om + j, none⟩)) := hn.1
        have c : w'.cell? ⟨bm, om + j, none⟩ = some (.int .i64 u) := HCU.out w' (below_of_grown (Rk.grown_of hgk))
        clear h hn hT hgk
        simp [Oper.wp, execOp, go_sem, r0, r1, c]
        exact hK0 _ _ (Rk.Keeps.refl _ _) rfl trivial
      · intro A w' K vals h hn hT hgk hK0
        have r0 : A.tmps[3]?.getD undef = (.pointer (some ⟨qh, 0, none⟩)) := Rg.slot h.1
        clear h hn hT hgk
        simp [Oper.wp, execOp, go_sem, r0]
        exact hK0 _ _ (Rk.Keeps.refl _ _) rfl trivial
      · intro A w' K vals h hn hT hgk hK0
        have r0 : A.tmps[52]?.getD undef = vals 4 := Rg.slot (h.1)
        have r1 : vals 4 = (.pointer (some ⟨qh, 1, none⟩)) := hn.1
        have c : w'.cell? ⟨qh, 1, none⟩ = some (.int .i64 (y : Int)) := (BQh.out.keep (Rk.grown_of hgk)).cell 1 _ rfl
        clear h hn hT hgk
        simp [Oper.wp, execOp, go_sem, r0, r1, c]
        exact hK0 _ _ (Rk.Keeps.refl _ _) rfl trivial
      · intro A w' K vals h hn hT hgk hK0
        have r0 : A.tmps[53]?.getD undef = vals 5 := Rg.slot h.1
        have s0 : vals 5 = (.int .i64 (y : Int)) := hn.1
        clear h hn hT hgk
        simp [Oper.wp, execOp, go_sem, r0, s0, hyw]
        exact hK0 _ _ (Rk.Keeps.refl _ _) rfl trivial
      · intro A w' K vals h hn hT hgk hK0
        have r0 : A.tmps[0]?.getD undef = (.pointer (some ⟨qc, 0, none⟩)) := Rg.slot h.1
        clear h hn hT hgk
        simp [Oper.wp, execOp, go_sem, r0]
        exact hK0 _ _ (Rk.Keeps.refl _ _) rfl trivial
      · intro A w' K vals h hn hT hgk hK0
        have r0 : A.tmps[55]?.getD undef = vals 7 := Rg.slot h.1
        have s0 : vals 7 = (.pointer (some ⟨qc, 0, none⟩)) := hn.1
        clear h hn hT hgk
        simp [Oper.wp, execOp, go_sem, r0, s0]
        exact hK0 _ _ (Rk.Keeps.refl _ _) rfl trivial
      · intro A w' K vals h hn hT hgk hK0
        have r0 : A.tmps[56]?.getD undef = vals 8 := Rg.slot h.1
        have s0 : vals 8 = (.pointer (some ⟨qc, 0, none⟩)) := hn.1
        clear h hn hT hgk
        simp [Oper.wp, execOp, go_sem, r0, s0]
        exact hK0 _ _ (Rk.Keeps.refl _ _) rfl trivial
      · intro A w' K vals h hn hT hgk hK0
        have r0 : A.tmps[57]?.getD undef = vals 9 := Rg.slot (h.1)
        have r1 : vals 9 = (.pointer (some ⟨qc, 5, none⟩)) := hn.1
        have c : w'.cell? ⟨qc, 5, none⟩ = some (.slice (some ⟨bs, os, none⟩) m ks) := (GC.out.box.keep (Rk.grown_of hgk)).cell 5 _ rfl
        clear h hn hT hgk
        simp [Oper.wp, execOp, go_sem, r0, r1, c]
        exact hK0 _ _ (Rk.Keeps.refl _ _) rfl trivial
      · intro A w' K vals h hn hT hgk hK0
        have r0 : A.tmps[58]?.getD undef = vals 10 := Rg.slot h.1
        have s0 : vals 10 = (.slice (some ⟨bs, os, none⟩) m ks) := hn.1
        clear h hn hT hgk
        simp [Oper.wp, go_sem, r0, s0]
        exact hK0 _ _ (Rk.Keeps.refl _ _) rfl trivial
      · intro A w' K vals h hn hT hgk hK0
        have r0 : A.tmps[54]?.getD undef = vals 6 := Rg.slot h.1
        have s0 : vals 6 = (.int .i64 ((y : Int) + 1)) := hn.1
        have r1 : A.tmps[59]?.getD undef = vals 11 := Rg.slot h.2.1
        have s1 : vals 11 = (.int .i64 (m : Int)) := hn.2.1
        clear h hn hT hgk
        simp [Oper.wp, execOp, go_sem, r0, r1, s0, s1, hym, hm00]
        exact hK0 _ _ (Rk.Keeps.refl _ _) rfl trivial
      · intro A w' K vals h hn hT hgk hK0
        have r0 : A.tmps[51]?.getD undef = vals 3 := Rg.slot h.1
        have s0 : vals 3 = (.int .i64 u) := hn.1
        have r1 : A.tmps[60]?.getD undef = vals 12 := Rg.slot h.2.1
        have s1 : vals 12 = (.int .i64 (((y : Int) + 1) % (m : Int))) := hn.2.1
        clear h hn hT hgk
        simp [Oper.wp, execOp, go_sem, r0, r1, s0, s1]
        exact hK0 _ _ (Rk.Keeps.refl _ _) rfl trivial
    · refine ⟨?_, ?_, ?_, ?_, ?_, ?_, ?_, ?_, ?_, ?_, ?_, ?_, ?_, ?_, trivial⟩
      · exact fun _ _ _ _ _ _ h => h
      · exact fun _ _ _ _ _ _ h => h
      · exact fun _ _ _ _ _ _ h => h
      · exact fun _ _ _ _ _ _ h => h
      · exact fun _ _ _ _ _ _ h => h
      · exact fun _ _ _ _ _ _ h => h
      · exact fun _ _ _ _ _ _ h => h
      · exact fun _ _ _ _ _ _ h => h
      · exact fun _ _ _ _ _ _ h => h
      · exact fun _ _ _ _ _ _ h => h
      · exact fun _ _ _ _ _ _ h => h
      · exact fun _ _ _ _ _ _ h => h
      · exact fun _ _ _ _ _ _ h => h
      · exact fun _ _ _ _ _ _ h => h
    · exact fun _ _ _ _ _ _ h => h
    · intro vals w9 G hgk hS hG
      have sB : vals 13 = .agg #[(.int .i64 u), (.int .i64 (((y : Int) + 1) % (m : Int)))] := hS.2.2.2.2.2.2.2.2.2.2.2.2.2.1
      clear hS
      have hb := below_of_grown (Rk.grown_of hgk)
      replace W := Lib.hid (W.out.trans (hb.mono W.out.size))
      replace BQh := Lib.hid (BQh.out.keep (grown_of_below hb none))
      replace BQr := Lib.hid (BQr.out.keep (grown_of_below hb none))
      replace GC := Lib.hid (GC.out.on hb)
      replace GI := Lib.hid (GI.out.on hb)
      clear hb hgk
      have rc0 : w9.cell? ⟨qr, 0, none⟩ = some (.int .i64 0) := BQr.out.cell 0 _ rfl
      have rc1 : w9.cell? ⟨qr, 1, none⟩ = some (.int .i64 0) := BQr.out.cell 1 _ rfl
      have rf0 : w9.frozen? ⟨qr, 0, none⟩ = false := BQr.out.frozen 0
      have rf1 : w9.frozen? ⟨qr, 1, none⟩ = false := BQr.out.frozen 1
      refine hG ?_
      clear hG
      simp only [List.take, List.drop, List.length, Nat.reduceSub, Nat.reduceAdd, Rg.putAll, Act.put, List.setIfInBounds_toArray, List.set_cons_succ, List.set_cons_zero, sB]
      clear sB
      go_wp2_with fail
      have HBEL := Lib.hid ((W.out.setCell (p := ⟨qr, 0, none⟩) HQR.out (.int .i64 u)).setCell (p := ⟨qr, 1, none⟩) HQR.out (.int .i64 (((y : Int) + 1) % (m : Int))))
      refine bodyPost_ret (v := .tuple #[.agg #[(.int .i64 u), (.int .i64 (((y : Int) + 1) % (m : Int)))], .int .i64 0]) (by simp [results, Tryd.results19, go_sem, rc0, rc1]) rfl ⟨by rw [HF.out]; simp only [stepV, HUN.out, HYM.out], HBEL.out⟩

end W
end Go.Proofs.YtghdjkpndhcplaaDoor
end
section
namespace Go.Proofs.YtghdjkpndhcplaaDoor
open Go.RowKit Go.Maps
namespace W

set_option maxRecDepth 100000 in
set_option maxHeartbeats 8000000 in
theorem run_any (g : P.G) (v : Value) (z p : Int) (mv sc : Value) (moves script : List Int) (w : World) (hv : GameV w v g) (hm : Ints w mv moves) (hs : Ints w sc script) :
    Calls Tryd.prog 8 #[v, .int .i64 z, .int .i64 p, mv, sc] w fun e w' => RunV g z p moves script w.heap.size e w' ∧ Below w.heap.size w w' := by
  have TV := Lib.hid hv
  have TM := Lib.hid hm
  have TS := Lib.hid hs
  obtain ⟨a, b, c, rfl, hga, hgb, hgc⟩ := hv
  obtain ⟨n, hn⟩ : ∃ n, g.owner.length = n := ⟨_, rfl⟩
  have HN := Lib.hid hn
  obtain ⟨oa, ka, rfl, hnl, -⟩ := hga
  obtain ⟨ob, kb, rfl, -⟩ := hgb
  obtain ⟨oc, kc, rfl, -⟩ := hgc
  obtain ⟨n2, hn2⟩ : ∃ k, g.prio.length = k := ⟨_, rfl⟩
  obtain ⟨n3, hn3⟩ : ∃ k, g.moves.length = k := ⟨_, rfl⟩
  obtain ⟨om, km, rfl, -⟩ := hm
  obtain ⟨nm, hnm⟩ : ∃ k, moves.length = k := ⟨_, rfl⟩
  rw [hnm] at TM ⊢
  rw [hn, hn2, hn3] at TV ⊢
  rw [hn] at hnl
  obtain ⟨os, cs, rfl, hsl, -⟩ := hs
  obtain ⟨ms, hms⟩ : ∃ ms, script.length = ms := ⟨_, rfl⟩
  rw [hms] at TS hsl ⊢
  have HMS := Lib.hid hms
  clear hn hms hn2 hn3 hnm
  go_enter Tryd.func8, Tryd.ntmps8
  go_wp2_with fail
  have bx0 : Box ((w.alloc (.cells #[.slice oa n ka, .slice ob n2 kb, .slice oc n3 kc] 25)).alloc (.cells #[.slice none 0 0, .slice none 0 0, .int .i64 0] 40)) (w.heap.size) 25 #[.slice oa n ka, .slice ob n2 kb, .slice oc n3 kc] := Box.alloc (Box.new w 25 #[.slice oa n ka, .slice ob n2 kb, .slice oc n3 kc]) (.cells #[.slice none 0 0, .slice none 0 0, .int .i64 0] 40)
  have bx1 : Box ((w.alloc (.cells #[.slice oa n ka, .slice ob n2 kb, .slice oc n3 kc] 25)).alloc (.cells #[.slice none 0 0, .slice none 0 0, .int .i64 0] 40)) (w.heap.size + 1) 40 #[.slice none 0 0, .slice none 0 0, .int .i64 0] := by
    have := Box.new (w.alloc (.cells #[.slice oa n ka, .slice ob n2 kb, .slice oc n3 kc] 25)) 40 #[.slice none 0 0, .slice none 0 0, .int .i64 0]
    simpa using this
  have hbq : Below w.heap.size w ((w.alloc (.cells #[.slice oa n ka, .slice ob n2 kb, .slice oc n3 kc] 25)).alloc (.cells #[.slice none 0 0, .slice none 0 0, .int .i64 0] 40)) := ((Below.refl _ w).alloc (Nat.le_refl _) _).alloc (by simp) _
  have lt0 : w.heap.size < w.heap.size + 1 := Nat.lt_succ_self _
  have hle0 : w.heap.size ≤ w.heap.size := Nat.le_refl _
  replace TV := Lib.hid (TV.out.on hbq)
  replace TM := Lib.hid (TM.out.on hbq)
  replace TS := Lib.hid (TS.out.on hbq)
  generalize ((w.alloc (.cells #[.slice oa n ka, .slice ob n2 kb, .slice oc n3 kc] 25)).alloc (.cells #[.slice none 0 0, .slice none 0 0, .int .i64 0] 40)) = w0 at bx0 bx1 hbq TV TM TS ⊢
  have BQg := Lib.hid bx0
  have BQr := Lib.hid bx1
  have W := Lib.hid hbq
  have LTgr := Lib.hid lt0
  have LEg := Lib.hid hle0
  clear hbq hle0 bx0 bx1 lt0
  generalize w.heap.size + 1 = qr at BQr LTgr ⊢
  obtain ⟨qg, hqg⟩ : ∃ qg, w.heap.size = qg := ⟨_, rfl⟩
  rw [hqg] at BQg LTgr ⊢
  have LEg : Hid (w.heap.size ≤ qg) := Lib.hid (by omega)
  clear hqg
  have HQR := Lib.hid (show w.heap.size ≤ qr by have h1 := LEg.out; have h2 := LTgr.out; omega)
  clear LEg LTgr
  have gc0 : w0.cell? ⟨qg, 0, none⟩ = some (.slice oa n ka) := BQg.out.cell 0 _ rfl
  have gc1 : w0.cell? ⟨qg, 1, none⟩ = some (.slice ob n2 kb) := BQg.out.cell 1 _ rfl
  have gc2 : w0.cell? ⟨qg, 2, none⟩ = some (.slice oc n3 kc) := BQg.out.cell 2 _ rfl
  go_wp2_with fail
  refine (right_any g _ _ TV.out).mono ?_
  rintro e w1 ⟨rfl, hb⟩
  replace W := Lib.hid (W.out.trans (hb.mono W.out.size))
  replace BQg := Lib.hid (BQg.out.keep (grown_of_below hb none))
  replace BQr := Lib.hid (BQr.out.keep (grown_of_below hb none))
  replace TV := Lib.hid (TV.out.on hb)
  replace TM := Lib.hid (TM.out.on hb)
  replace TS := Lib.hid (TS.out.on hb)
  clear hb gc0 gc1 gc2
  have HOK := Lib.hid (show g.ok = true ↔ g.right.2 = 0 by unfold P.G.ok; rw [beq_iff_eq])
  obtain ⟨r1, hr1⟩ : ∃ r, g.right.1 = r := ⟨_, rfl⟩
  obtain ⟨r2, hr2⟩ : ∃ r, g.right.2 = r := ⟨_, rfl⟩
  rw [hr1, hr2]
  rw [hr2] at HOK
  clear hr1 hr2
  go_upto_region 2 with (fail)
  obtain ⟨bw, hbw⟩ : ∃ bw : Bool, (bw = true ↔ ¬ P.fine g z p) := by
    by_cases h : P.fine g z p
    · exact ⟨false, by simp [h]⟩
    · exact ⟨true, by simp [h]⟩
  have HBW := Lib.hid hbw
  clear hbw
  go_cut [47] from 27 to 47 (fun t wx => t = .bool bw ∧ wx = w1)
  case first =>
    by_cases h2 : r2 = 0
    · have f2 : ((r2 : Int) != 0) = false := by rw [bne_eq_false_iff_eq]; omega
      have HO := Lib.hid (HOK.out.2 h2)
      clear h2
      by_cases hz0 : z < 0
      · have f3 : decide (z < 0) = true := decide_eq_true hz0
        have hb : bw = true := HBW.out.2 fun h => by have := h.2.1; omega
        go_wp2_with fail
        go_meet
        exact ⟨by rw [hb], rfl⟩
      · have f3 : decide (z < 0) = false := decide_eq_false hz0
        have gc0 : w1.cell? ⟨qg, 0, none⟩ = some (.slice oa n ka) := BQg.out.cell 0 _ rfl
        by_cases hzn : (n : Int) ≤ z
        · have f4 : decide ((n : Int) ≤ z) = true := decide_eq_true hzn
          have hb : bw = true := HBW.out.2 fun h => by have h1 := h.2.1; rw [HN.out] at h1; omega
          go_wp2_with fail
          go_meet
          exact ⟨by rw [hb], rfl⟩
        · have f4 : decide ((n : Int) ≤ z) = false := decide_eq_false hzn
          by_cases hp0 : p = 0
          · have f5 : (p != 0) = false := by rw [bne_eq_false_iff_eq]; exact hp0
            have hb : bw = false := by
              cases hbe : bw with
              | false => rfl
              | true => exact absurd ⟨HO.out, ⟨by omega, by rw [HN.out]; omega⟩, .inl hp0⟩ (HBW.out.1 hbe)
            clear hp0
            go_wp2_with fail
            go_meet
            exact ⟨by rw [hb], rfl⟩
          · have f5 : (p != 0) = true := by rw [bne_iff_ne]; exact hp0
            by_cases hp1 : p = 1
            · have f6 : (p != 1) = false := by rw [bne_eq_false_iff_eq]; exact hp1
              have hb : bw = false := by
                cases hbe : bw with
                | false => rfl
                | true => exact absurd ⟨HO.out, ⟨by omega, by rw [HN.out]; omega⟩, .inr hp1⟩ (HBW.out.1 hbe)
              clear hp1
              go_wp2_with fail
              go_meet
              exact ⟨by rw [hb], rfl⟩
            · have f6 : (p != 1) = true := by rw [bne_iff_ne]; exact hp1
              have hb : bw = true := HBW.out.2 fun h => by have h1 := h.2.2; omega
              go_wp2_with fail
              go_meet
              exact ⟨by rw [hb], rfl⟩
    · have f2 : ((r2 : Int) != 0) = true := by rw [bne_iff_ne]; omega
      have hb : bw = true := HBW.out.2 fun h => h2 (HOK.out.1 h.1)
      go_wp2_with fail
      go_meet
      exact ⟨by rw [hb], rfl⟩
  case rest =>
    obtain ⟨hu, hwx⟩ := hcut
    rw [hu, hwx]
    clear hu hwx HOK
    cases bw with
    | true =>
      have rc0 : w1.cell? ⟨qr, 0, none⟩ = some (.slice none 0 0) := BQr.out.cell 0 _ rfl
      have rc1 : w1.cell? ⟨qr, 1, none⟩ = some (.slice none 0 0) := BQr.out.cell 1 _ rfl
      have rc2 : w1.cell? ⟨qr, 2, none⟩ = some (.int .i64 0) := BQr.out.cell 2 _ rfl
      have rf0 : w1.frozen? ⟨qr, 0, none⟩ = false := BQr.out.frozen 0
      have rf1 : w1.frozen? ⟨qr, 1, none⟩ = false := BQr.out.frozen 1
      have rf2 : w1.frozen? ⟨qr, 2, none⟩ = false := BQr.out.frozen 2
      go_wp2_with fail
      have HBEL := Lib.hid (((W.out.setCell (p := ⟨qr, 0, none⟩) HQR.out (.slice none 0 0)).setCell (p := ⟨qr, 1, none⟩) HQR.out (.slice none 0 0)).setCell (p := ⟨qr, 2, none⟩) HQR.out (.int .i64 0))
      exact bodyPost_ret (v := .tuple #[.agg #[.slice none 0 0, .slice none 0 0, .int .i64 0], .int .i64 1]) (by simp [results, Tryd.results8, go_sem, rc0, rc1, rc2]) rfl ⟨RunV.bad (c := 1) (.inl ⟨HBW.out.1 (by trivial), rfl, rfl, rfl, rfl⟩) _ _, HBEL.out⟩
    | false =>
      have hfi : P.fine g z p := Classical.byContradiction fun h => by have := HBW.out.2 h; cases this
      have HFI := Lib.hid hfi
      obtain ⟨hok, ⟨hz0, hzn⟩, hp⟩ := hfi
      rw [HN.out] at hzn
      have HR := Lib.hid ((P.G.ok_iff g).1 hok)
      have HP := Lib.hid hp
      obtain ⟨x0, rfl⟩ := Int.eq_ofNat_of_zero_le hz0
      have hx0 : x0 < n := by omega
      clear hok hp hzn HBW
      by_cases hlong : 64 < ms
      · have f7 : decide ((64 : Int) < (ms : Int)) = true := decide_eq_true (by omega)
        have rc0 : w1.cell? ⟨qr, 0, none⟩ = some (.slice none 0 0) := BQr.out.cell 0 _ rfl
        have rc1 : w1.cell? ⟨qr, 1, none⟩ = some (.slice none 0 0) := BQr.out.cell 1 _ rfl
        have rc2 : w1.cell? ⟨qr, 2, none⟩ = some (.int .i64 0) := BQr.out.cell 2 _ rfl
        have rf0 : w1.frozen? ⟨qr, 0, none⟩ = false := BQr.out.frozen 0
        have rf1 : w1.frozen? ⟨qr, 1, none⟩ = false := BQr.out.frozen 1
        have rf2 : w1.frozen? ⟨qr, 2, none⟩ = false := BQr.out.frozen 2
        go_wp2_with fail
        have HBEL := Lib.hid (((W.out.setCell (p := ⟨qr, 0, none⟩) HQR.out (.slice none 0 0)).setCell (p := ⟨qr, 1, none⟩) HQR.out (.slice none 0 0)).setCell (p := ⟨qr, 2, none⟩) HQR.out (.int .i64 0))
        exact bodyPost_ret (v := .tuple #[.agg #[.slice none 0 0, .slice none 0 0, .int .i64 0], .int .i64 10]) (by simp [results, Tryd.results8, go_sem, rc0, rc1, rc2]) rfl ⟨RunV.bad (c := 10) (.inr (.inl ⟨HFI.out, by rw [HMS.out]; exact hlong, rfl, rfl, rfl, rfl⟩)) _ _, HBEL.out⟩
      · have f7 : decide ((64 : Int) < (ms : Int)) = false := decide_eq_false (by omega)
        go_upto_if 55 with (fail)
        go_cut [4] from 56 to 56 (fun s4 wx => Ints wx s4 (P.scr script) ∧ Below w1.heap.size w1 wx)
        case first =>
          by_cases hm0 : ms = 0
          · have f8 : ((ms : Int) == 0) = true := by rw [beq_iff_eq]; omega
            have HSC := Lib.hid (show P.scr script = [0] by unfold P.scr; rw [if_pos (by rw [HMS.out]; exact hm0)])
            clear hm0
            go_wp2_with fail
            go_meet
            rw [HSC.out]
            exact ⟨⟨_, 1, rfl, by decide, .inr ⟨_, _, rfl, by simp, fun j hj => by
              obtain rfl : j = 0 := by simpa using hj
              exact (Box.new w1 3 #[.int .i64 0]).cell 0 _ rfl⟩⟩, (Below.refl _ w1).alloc (Nat.le_refl _) _⟩
          · have f8 : ((ms : Int) == 0) = false := by rw [beq_eq_false_iff_ne]; omega
            have HSC := Lib.hid (show P.scr script = script by unfold P.scr; rw [if_neg (by rw [HMS.out]; exact hm0)])
            go_wp2_with fail
            go_meet
            rw [HSC.out]
            exact ⟨TS.out, Below.refl _ w1⟩
        case rest =>
          obtain ⟨his, hb⟩ := hcut
          obtain ⟨m, hm⟩ : ∃ m, (P.scr script).length = m := ⟨_, rfl⟩
          have hm0 : 0 < m := by rw [← hm]; exact P.scr_pos script
          have hm64 : m ≤ 64 := by
            rw [← hm]
            unfold P.scr
            split
            · decide
            · rw [HMS.out]; omega
          obtain ⟨bs, os, ks, rfl, -⟩ := his.open_ hm hm0
          obtain ⟨S, hS⟩ : ∃ S, P.scr script = S := ⟨_, rfl⟩
          rw [hS] at his hm
          have HS := Lib.hid hS
          have HM := Lib.hid hm
          replace TS := Lib.hid his
          replace W := Lib.hid (W.out.trans (hb.mono W.out.size))
          replace BQg := Lib.hid (BQg.out.keep (grown_of_below hb none))
          replace BQr := Lib.hid (BQr.out.keep (grown_of_below hb none))
          replace TV := Lib.hid (TV.out.on hb)
          replace TM := Lib.hid (TM.out.on hb)
          clear hb his hS hm
          have gc0 : wc.cell? ⟨qg, 0, none⟩ = some (.slice oa n ka) := BQg.out.cell 0 _ rfl
          have gc1 : wc.cell? ⟨qg, 1, none⟩ = some (.slice ob n2 kb) := BQg.out.cell 1 _ rfl
          have gc2 : wc.cell? ⟨qg, 2, none⟩ = some (.slice oc n3 kc) := BQg.out.cell 2 _ rfl
          go_upto_region 9 with (fail)
          clear gc0 gc1 gc2
          have bq : Box (wc.alloc (.cells #[.slice oa n ka, .slice ob n2 kb, .slice oc n3 kc, .int .i64 p, .slice om nm km, .slice (some ⟨bs, os, none⟩) m ks] 56)) wc.heap.size 56 #[.slice oa n ka, .slice ob n2 kb, .slice oc n3 kc, .int .i64 p, .slice om nm km, .slice (some ⟨bs, os, none⟩) m ks] := Box.new _ _ _
          have hgq := World.grownBy_alloc wc (.cells #[.slice oa n ka, .slice ob n2 kb, .slice oc n3 kc, .int .i64 p, .slice om nm km, .slice (some ⟨bs, os, none⟩) m ks] 56) none
          replace W := Lib.hid (W.out.trans ((below_of_grown hgq).mono W.out.size))
          replace BQg := Lib.hid (BQg.out.keep hgq)
          replace BQr := Lib.hid (BQr.out.keep hgq)
          replace TV := Lib.hid (TV.out.on (below_of_grown hgq))
          replace TM := Lib.hid (TM.out.on (below_of_grown hgq))
          replace TS := Lib.hid (TS.out.on (below_of_grown hgq))
          generalize (wc.alloc (.cells #[.slice oa n ka, .slice ob n2 kb, .slice oc n3 kc, .int .i64 p, .slice om nm km, .slice (some ⟨bs, os, none⟩) m ks] 56)) = w5 at bq W BQg BQr TV TM TS ⊢
          generalize wc.heap.size = qc at bq ⊢
          have BQc := Lib.hid bq
          clear bq hgq

          have HCT := Lib.hid (show Ct w5 qc g (.slice oa n ka) (.slice ob n2 kb) (.slice oc n3 kc) p (.slice om nm km) (.slice (some ⟨bs, os, none⟩) m ks) moves S from ⟨BQc.out, TV.out, TM.out, TS.out⟩)
          clear BQc TV TM TS
          have hmk := run_makeMap (P := Tryd.prog) 57 w5
          go_wp2_with fail
          clear hmk
          have hlp : Lp w5 ((w5.alloc (.map #[] 0)).alloc (.cells #[.int .i64 (x0 : Int), .int .i64 0] 59)) g p moves S n m x0 (.slice none 0 0) w5.heap.size [] x0 0 (w5.heap.size + 1) (.map []) := {
            below := ((Below.refl _ w5).alloc (Nat.le_refl _) _).alloc (by simp) _
            way := OwnI.nil _ _
            map := (World.ownsMap_made w5 _ _ _).alloc _
            met := Met.start
            here := by
              have := Box.new (w5.alloc (.map #[] 0)) 59 #[.int .i64 (x0 : Int), .int .i64 0]
              simpa using this
            low := Nat.le_refl _
            high := Nat.le_succ _
            go := P.Way.start _ _
            ins := fun a h => (by cases h)
            hx := hx0
            hy := hm0 }
          obtain ⟨w6, hw6⟩ : ∃ w6, (w5.alloc (.map #[] 0)).alloc (.cells #[.int .i64 (x0 : Int), .int .i64 0] 59) = w6 := ⟨_, rfl⟩
          obtain ⟨qm, hqm⟩ : ∃ q, w5.heap.size = q := ⟨_, rfl⟩
          obtain ⟨qh, hqh⟩ : ∃ q, w5.heap.size + 1 = q := ⟨_, rfl⟩
          rw [hqh, hqm, hw6] at hlp
          rw [hqh, hqm, hw6]
          have HLP := Lib.hid hlp
          have HN200 := Lib.hid (show n ≤ 200 by have h := HR.out.many; rw [HN.out] at h; exact h)
          clear hlp hw6 hqm hqh
          go_loopw [15, 17] (fun vw vh wr => ∃ (l : List (Nat × Nat)) (x y qh : Nat) (D : DataW Nat), vh = .pointer (some ⟨qh, 0, none⟩) ∧ Lp w5 wr g p moves S n m x0 vw qm l x y qh D) (fun vw _ _ => 12801 - (match vw with | .slice _ k _ => k | _ => 0))
          case atStart => exact ⟨[], x0, 0, _, _, rfl, HLP.out⟩
          case round =>
            obtain ⟨l, x, y, qh, D, rfl, hlp⟩ := hrel
            have HLP := Lib.hid hlp
            obtain ⟨wo, wk, rfl, -⟩ := own_at hlp.way
            obtain ⟨k, hk⟩ : ∃ k, l.length = k := ⟨_, rfl⟩
            have hks := hlp.short HN200.out hm64
            rw [hk] at hks
            rw [List.length_map, hk]
            have hkl := key_mk (Nat.lt_of_lt_of_le hlp.hx (Nat.le_trans HN200.out (by decide))) (Nat.lt_of_lt_of_le hlp.hy (Nat.le_trans hm64 (by decide)))
            have hown := hlp.map
            have hlpmap := hlp.map
            have hx := hlp.hx
            have hy := hlp.hy
            rw [hk] at hown
            have HK := Lib.hid hk
            clear hk
            have hhas := hlp.met.has x y (Nat.lt_of_lt_of_le hlp.hx (Nat.le_trans HN200.out (by decide))) (Nat.lt_of_lt_of_le hlp.hy (Nat.le_trans hm64 (by decide)))
            have hc0 : wr.cell? ⟨qh, 0, none⟩ = some (.int .i64 (x : Int)) := hlp.here.cell 0 _ rfl
            have hc1 : wr.cell? ⟨qh, 1, none⟩ = some (.int .i64 (y : Int)) := hlp.here.cell 1 _ rfl
            have hf0 : wr.frozen? ⟨qh, 0, none⟩ = false := hlp.here.frozen 0
            have hf1 : wr.frozen? ⟨qh, 1, none⟩ = false := hlp.here.frozen 1
            clear hlp
            by_cases hmem : (x, y) ∈ l
            · have HMEM := Lib.hid hmem
              rw [decide_eq_true hmem] at hhas
              clear hmem
              go_wp2_with (first | (at_lookup; refine wpList_lookup_own_ok_int _ rfl _ _ 57 rfl 59 3 .i64 stand_law Tryd.underlying57 Tryd.underlying3 (zero_int _) qm k D rfl hown (standV x y) (kl x y) rfl hkl ?_; intro cL hat hwc; rw [hhas]) | fail)
              obtain ⟨i, hi⟩ := List.mem_iff_getElem?.1 HMEM.out
              have hil := (List.getElem?_eq_some_iff.1 hi).1
              rw [HK.out] at hil
              have hci : cL = (i : Int) := by
                have h1 := HLP.out.met.place i x y hi (Nat.lt_of_lt_of_le HLP.out.hx (Nat.le_trans HN200.out (by decide))) (Nat.lt_of_lt_of_le HLP.out.hy (Nat.le_trans hm64 (by decide)))
                rw [hat] at h1
                simpa using h1
              rw [hci]
              have hzs : (l.map fun a => (a.1 : Int)).length = k := by rw [List.length_map, HK.out]
              have hway := HLP.out.way
              rw [hzs] at hway
              obtain ⟨bw, kw, hwe, hlo, hlt, -⟩ := own_form hway (by rw [hzs]; omega)
              have hkw : k ≤ kw := by
                rcases hway.2 with ⟨h1, -⟩ | ⟨_, cap, _, h1, -, -, h2, -⟩
                · rw [hwe] at h1; cases h1
                · rw [hwe] at h1
                  injection h1 with _ _ h1
                  rw [h1, ← hzs]
                  exact h2
              rw [hzs] at hwe
              rw [hwe] at hway ⊢
              refine (tell_any g HR.out n HN.out qc _ _ _ p _ _ moves S _ (HCT.out.on HLP.out.below) (l.map fun a => (a.1 : Int)) (fun z hz => by
                obtain ⟨a, ha, rfl⟩ := List.mem_map.1 hz
                have := (HLP.out.ins a ha).1
                omega) bw 0 k kw i (hway.ints (by rw [hzs]; omega)) hzs hil hkw (by omega)).mono ?_
              rintro e w7 ⟨v1, v2, rfl, ho1, ho2, hap, hb⟩
              obtain ⟨A, hA⟩ : ∃ A, (l.map fun a => (a.1 : Int)).take i = A := ⟨_, rfl⟩
              obtain ⟨B, hB⟩ : ∃ B, (l.map fun a => (a.1 : Int)).drop i = B := ⟨_, rfl⟩
              have htp : topZ g 0 B % 2 = P.topS g 0 (l.drop i) % 2 := by rw [← hB, ← List.map_drop, topZ_map]
              rw [hB, htp]
              rw [hA] at ho1
              rw [hB] at ho2
              have HPP := Lib.hid (show P.PlayP g (x0 : Int) p moves script A B (P.topS g 0 (l.drop i) % 2) 0 from .inr (.inr ⟨HFI.out, by rw [HMS.out]; omega, .inl ⟨l, (x, y), i, by rw [HS.out]; exact HLP.out.go, hi, by rw [← hA, List.map_take], by rw [← hB, List.map_drop], rfl, rfl⟩⟩))
              obtain ⟨tq, htq⟩ : ∃ t, P.topS g 0 (l.drop i) % 2 = t := ⟨_, rfl⟩
              rw [htq] at HPP ⊢
              obtain ⟨a1, k1, e1, -⟩ := own_at ho1
              obtain ⟨a2, k2, e2, -⟩ := own_at ho2
              obtain ⟨n1, hn1⟩ : ∃ n, A.length = n := ⟨_, rfl⟩
              obtain ⟨n2', hn2⟩ : ∃ n, B.length = n := ⟨_, rfl⟩
              rw [hn1] at e1
              rw [hn2] at e2
              subst e1 e2
              have BQr7 := Lib.hid ((BQr.out.keep (grown_of_below HLP.out.below none)).keep (grown_of_below hb none))
              have W7 := Lib.hid ((W.out.trans (HLP.out.below.mono W.out.size)).trans (hb.mono (Nat.le_trans W.out.size HLP.out.below.size)))
              have hqr : qr < wr.heap.size := (BQr.out.keep (grown_of_below HLP.out.below none)).lt
              have HO1 := Lib.hid ho1
              have HO2 := Lib.hid ho2
              have HAP := Lib.hid hap
              clear hA hB htp htq hn1 hn2 ho1 ho2 hap hb hway hwe hkw hzs hat hwc hci hhas hown hlpmap hkl hi hil hlo hlt hc0 hc1 hf0 hf1
              have rc0 : w7.cell? ⟨qr, 0, none⟩ = some (.slice none 0 0) := BQr7.out.cell 0 _ rfl
              have rc1 : w7.cell? ⟨qr, 1, none⟩ = some (.slice none 0 0) := BQr7.out.cell 1 _ rfl
              have rc2 : w7.cell? ⟨qr, 2, none⟩ = some (.int .i64 0) := BQr7.out.cell 2 _ rfl
              have rf0 : w7.frozen? ⟨qr, 0, none⟩ = false := BQr7.out.frozen 0
              have rf1 : w7.frozen? ⟨qr, 1, none⟩ = false := BQr7.out.frozen 1
              have rf2 : w7.frozen? ⟨qr, 2, none⟩ = false := BQr7.out.frozen 2
              go_wp2_with fail
              have HBEL := Lib.hid (((W7.out.setCell (p := ⟨qr, 0, none⟩) HQR.out (.slice a1 n1 k1)).setCell (p := ⟨qr, 1, none⟩) HQR.out (.slice a2 n2' k2)).setCell (p := ⟨qr, 2, none⟩) HQR.out (.int .i64 tq))
              exact bodyPost_ret (v := .tuple #[.agg #[.slice a1 n1 k1, .slice a2 n2' k2, .int .i64 tq], .int .i64 0]) (by simp [results, Tryd.results8, go_sem, rc0, rc1, rc2]) rfl
                ⟨⟨_, _, A, B, tq, 0, rfl, own_more (ownsRow_setCell_below (ownsRow_setCell_below (ownsRow_setCell_below HO1.out hqr _) hqr _) hqr _) (Nat.le_trans W.out.size HLP.out.below.size), own_more (ownsRow_setCell_below (ownsRow_setCell_below (ownsRow_setCell_below HO2.out hqr _) hqr _) hqr _) (Nat.le_trans W.out.size HLP.out.below.size), HAP.out, HPP.out⟩, HBEL.out⟩
            · have HMEM := Lib.hid hmem
              rw [decide_eq_false hmem] at hhas
              clear hmem
              go_upto_region 16 with (first | (at_lookup; refine wpList_lookup_own_ok_int _ rfl _ _ 57 rfl 59 3 .i64 stand_law Tryd.underlying57 Tryd.underlying3 (zero_int _) qm k D rfl hown (standV x y) (kl x y) rfl hkl ?_; intro cL hat hwc; rw [hhas]; clear hat hwc) | (at_mapUpdate; refine wpList_mapUpdate_own _ rfl _ _ _ 57 rfl 59 3 stand_law Tryd.underlying57 _ qm k D rfl hown (by unfold maxLen; omega) (standV x y) (.int .i64 (k : Int)) (kl x y) rfl rfl hkl (i64D (k : Int)) [] (plainElem_int Tryd.underlying3 (wf_small2 hks)) ?_; intro w7 hown7 hgr7) | fail)
              simp only [Act.put]
              have hbx := HLP.out.here
              have hwy := HLP.out.way
              rw [List.length_map, HK.out] at hwy
              have HW7 := Lib.hid (hwy.kept hgr7 (row_ne_map hwy hlpmap))
              have HH7 := Lib.hid (hbx.grown hgr7 (fun e => map_ne_box hlpmap hbx (by injection e with e; exact e.symm)))
              have HB7 := Lib.hid (HLP.out.below.grown hgr7 HLP.out.below.size (fun k e => by injection e with e; rw [← e]; exact HLP.out.low))
              have HM7 := Lib.hid hown7
              clear hbx hwy hown7 hgr7 hown hkl hhas hc0 hc1 hf0 hf1
              have hc0 : w7.cell? ⟨qh, 0, none⟩ = some (.int .i64 (x : Int)) := HH7.out.cell 0 _ rfl
              have hc1 : w7.cell? ⟨qh, 1, none⟩ = some (.int .i64 (y : Int)) := HH7.out.cell 1 _ rfl
              have hf0 : w7.frozen? ⟨qh, 0, none⟩ = false := HH7.out.frozen 0
              have hf1 : w7.frozen? ⟨qh, 1, none⟩ = false := HH7.out.frozen 1
              go_wp2_with (at_builtin; refine wpl_append elInt rfl (.tmp 79) (.tmp 82) rfl rfl (own_grown HW7.out (World.grownBy_alloc _ _ none)) rfl (row_one w7 _ _) ?_ ?_ ?_ ?_ ?_)
              · first | rfl | (intro u hu; simp at hu; subst hu; rfl)
              · have := HK.out; first | omega | (simp; omega)
              · have := HK.out; first | omega | (simp; omega)
              · have := HB7.out.size; first | omega | (simp; omega)
              intro v8 w8 hown8 hgr8 hat8
              clear hat8 hc0 hc1 hf0 hf1
              go_upto_region 17 with (fail)
              have hga := World.grownBy_alloc w7 (.cells #[.int .i64 (x : Int)] 3) none
              have HW8 := Lib.hid (show OwnI w8 w5.heap.size v8 ((l ++ [(x, y)]).map fun a => (a.1 : Int)) by unfold OwnI; simpa using hown8)
              have HB8 := Lib.hid ((HB7.out.grown hga HB7.out.size (fun k e => by cases e)).grown hgr8 (Nat.le_trans HB7.out.size hga.size) (fun k e => (own_lt (own_grown HW7.out hga) k e).1))
              have HM8 := Lib.hid ((HM7.out.kept hga (by simp)).kept hgr8 (map_ne_row (HM7.out.kept hga (by simp)) (show OwnI _ w5.heap.size _ (l.map fun a => (a.1 : Int)) from own_grown HW7.out hga)))
              have HH8 := Lib.hid ((HH7.out.keep hga).grown hgr8 (box_ne_row (HH7.out.keep hga) (show OwnI _ w5.heap.size _ (l.map fun a => (a.1 : Int)) from own_grown HW7.out hga)))
              clear hown8 hgr8 hga HW7 HM7 HH7 HB7
              obtain ⟨vo8, vk8, hv8, -⟩ := own_at HW8.out
              obtain ⟨k8, hk8⟩ : ∃ k, ((l ++ [(x, y)]).map fun a => (a.1 : Int)).length = k := ⟨_, rfl⟩
              rw [hk8] at hv8
              have HK8 := Lib.hid (show k8 = k + 1 by rw [← hk8, List.length_map, List.length_append, HK.out]; rfl)
              rw [hv8] at HW8 ⊢
              clear hv8 hk8
              have hc0 : w8.cell? ⟨qh, 0, none⟩ = some (.int .i64 (x : Int)) := HH8.out.cell 0 _ rfl
              have hc1 : w8.cell? ⟨qh, 1, none⟩ = some (.int .i64 (y : Int)) := HH8.out.cell 1 _ rfl
              go_wp2_with fail
              refine (move_any g HR.out n HN.out qc _ _ _ p _ _ moves S w8 (HCT.out.on HB8.out) x y m hx HM.out hy hm64).mono ?_
              rintro e w9 ⟨rfl, hb⟩
              have HB9 := Lib.hid (HB8.out.trans (hb.mono HB8.out.size))
              have HW9 := Lib.hid (own_grown HW8.out (grown_of_below hb none))
              have HM9 := Lib.hid (HM8.out.kept (grown_of_below hb none) (by simp))
              have HH9 := Lib.hid (HH8.out.keep (grown_of_below hb none))
              clear hb HB8 HW8 HM8 HH8 hc0 hc1
              obtain ⟨nx, hnx⟩ : ∃ o, P.stepS g p moves S (x, y) = o := ⟨_, rfl⟩
              rw [hnx]
              have HNX := Lib.hid hnx
              clear hnx
              cases nx with
              | none =>
                simp only [stepV]
                go_upto_region 18 with (fail)
                have hb10 := HB9.out.alloc HB9.out.size (.cells #[.int .i64 0, .int .i64 0] 59)
                generalize w9.alloc (.cells #[.int .i64 0, .int .i64 0] 59) = w10 at hb10 ⊢
                have BQr10 := Lib.hid (BQr.out.keep (grown_of_below hb10 none))
                have W10 := Lib.hid (W.out.trans (hb10.mono W.out.size))
                clear hb10
                have rc0 : w10.cell? ⟨qr, 0, none⟩ = some (.slice none 0 0) := BQr10.out.cell 0 _ rfl
                have rc1 : w10.cell? ⟨qr, 1, none⟩ = some (.slice none 0 0) := BQr10.out.cell 1 _ rfl
                have rc2 : w10.cell? ⟨qr, 2, none⟩ = some (.int .i64 0) := BQr10.out.cell 2 _ rfl
                have rf0 : w10.frozen? ⟨qr, 0, none⟩ = false := BQr10.out.frozen 0
                have rf1 : w10.frozen? ⟨qr, 1, none⟩ = false := BQr10.out.frozen 1
                have rf2 : w10.frozen? ⟨qr, 2, none⟩ = false := BQr10.out.frozen 2
                go_wp2_with fail
                have HBEL := Lib.hid (((W10.out.setCell (p := ⟨qr, 0, none⟩) HQR.out (.slice none 0 0)).setCell (p := ⟨qr, 1, none⟩) HQR.out (.slice none 0 0)).setCell (p := ⟨qr, 2, none⟩) HQR.out (.int .i64 0))
                exact bodyPost_ret (v := .tuple #[.agg #[.slice none 0 0, .slice none 0 0, .int .i64 0], .int .i64 16]) (by simp [results, Tryd.results8, go_sem, rc0, rc1, rc2]) rfl ⟨RunV.bad (c := 16) (.inr (.inr ⟨HFI.out, by rw [HMS.out]; omega, .inr ⟨l, (x, y), by rw [HS.out]; exact HLP.out.go, by rw [HS.out]; exact HNX.out, rfl, rfl, rfl, rfl⟩⟩)) _ _, HBEL.out⟩
              | some b =>
                obtain ⟨x2, y2⟩ := b
                simp only [stepV]
                go_upto_region 18 with (fail)
                have hbn : Box (w9.alloc (.cells #[.int .i64 (x2 : Int), .int .i64 (y2 : Int)] 59)) w9.heap.size 59 #[.int .i64 (x2 : Int), .int .i64 (y2 : Int)] := Box.new _ _ _
                have hb10 := HB9.out.alloc HB9.out.size (.cells #[.int .i64 (x2 : Int), .int .i64 (y2 : Int)] 59)
                have hw10 := own_grown HW9.out (World.grownBy_alloc w9 (.cells #[.int .i64 (x2 : Int), .int .i64 (y2 : Int)] 59) none)
                have hm10 := HM9.out.alloc (.cells #[.int .i64 (x2 : Int), .int .i64 (y2 : Int)] 59)
                have hh10 := HH9.out.alloc (.cells #[.int .i64 (x2 : Int), .int .i64 (y2 : Int)] 59)
                generalize w9.alloc (.cells #[.int .i64 (x2 : Int), .int .i64 (y2 : Int)] 59) = w10 at hbn hb10 hw10 hm10 hh10 ⊢
                generalize w9.heap.size = qn at hbn ⊢
                have HBN := Lib.hid hbn
                have HB10 := Lib.hid hb10
                have HW10 := Lib.hid hw10
                have HM10 := Lib.hid hm10
                have HH10 := Lib.hid hh10
                clear hbn hb10 hw10 hm10 hh10 HB9 HW9 HM9 HH9
                have nc0 : w10.cell? ⟨qn, 0, none⟩ = some (.int .i64 (x2 : Int)) := HBN.out.cell 0 _ rfl
                have nc1 : w10.cell? ⟨qn, 1, none⟩ = some (.int .i64 (y2 : Int)) := HBN.out.cell 1 _ rfl
                have hc0 : w10.cell? ⟨qh, 0, none⟩ = some (.int .i64 (x : Int)) := HH10.out.cell 0 _ rfl
                have hc1 : w10.cell? ⟨qh, 1, none⟩ = some (.int .i64 (y : Int)) := HH10.out.cell 1 _ rfl
                have hf0 : w10.frozen? ⟨qh, 0, none⟩ = false := HH10.out.frozen 0
                have hf1 : w10.frozen? ⟨qh, 1, none⟩ = false := HH10.out.frozen 1
                go_wp2_with fail
                have hqq : qm ≠ qh := map_ne_box HM10.out HH10.out
                have hin := P.stepS_in HR.out HN.out (show 0 < S.length by rw [HM.out]; exact hm0) ⟨hx, by rw [HM.out]; exact hy⟩ HNX.out
                rw [HM.out] at hin
                have hmet := HLP.out.met.next (Nat.lt_of_lt_of_le hx (Nat.le_trans HN200.out (by decide))) (Nat.lt_of_lt_of_le hy (Nat.le_trans hm64 (by decide))) HMEM.out
                rw [HK.out] at hmet
                refine ⟨⟨l ++ [(x, y)], x2, y2, _, _, rfl, {
                  below := ((HB10.out.setCell (p := ⟨qh, 0, none⟩) HLP.out.high _).setCell (p := ⟨qh, 1, none⟩) HLP.out.high _).alloc (by simp only [World.size_setCell]; exact HB10.out.size) _
                  way := own_grown (own_set (own_set HW10.out HH10.out (by decide) 0 _) (HH10.out.set 0 _) (by decide) 1 _) (World.grownBy_alloc _ _ none)
                  map := by
                    rw [List.length_append, HK.out]
                    exact ((HM10.out.setCell hqq _).setCell hqq _).alloc _
                  met := hmet
                  here := by
                    have := Box.new ((w10.setCell ⟨qh, 0, none⟩ (.int .i64 (x2 : Int))).setCell ⟨qh, 1, none⟩ (.int .i64 (y2 : Int))) 59 #[.int .i64 (x2 : Int), .int .i64 (y2 : Int)]
                    simpa using this
                  low := HLP.out.low
                  high := HB10.out.size
                  go := HLP.out.go.next HMEM.out HNX.out
                  ins := fun a ha => by
                    rcases List.mem_append.1 ha with ha | ha
                    · exact HLP.out.ins a ha
                    · rw [List.mem_singleton.1 ha]
                      exact ⟨hx, hy⟩
                  hx := hin.1.1
                  hy := hin.1.2 }⟩, ?_⟩
                show 12801 - k8 < 12801 - k
                have := HK8.out
                omega
end W
end Go.Proofs.YtghdjkpndhcplaaDoor
end
