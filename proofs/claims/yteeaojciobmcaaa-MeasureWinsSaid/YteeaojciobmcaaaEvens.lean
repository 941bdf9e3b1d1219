/- MeasureEvens: the walk. -/
import Derived.Test.YteeaojciobmcaaaShown
import Derived.Test.YteeaojciobmcaaaREven
import Derived.Test.YteeaojciobmcaaaCpy
import Derived.Test.YteeaojciobmcaaaSam
import Derived.Test.YteeaojciobmcaaaFrame
import Derived.Deep.Cut
import Derived.Lib.Hide
import Derived.Deep.QuietTactic
import Derived.BigQuiet
namespace Go.Proofs.Yteeaojciobmcaaa
open Go.RowKit
namespace W

def tupAt_ (v : Value) (i : Nat) : Value := match v with
  | .tuple cs => cs.getD i undef
  | _ => undef
/-- What Even hands back, as a value. -/
def EvV (g : P.G) (l : List P.Tup) (lo : Nat) (v : Value) (w : World) : Prop := ∃ v1 v2, v = .tuple #[v1, v2] ∧ OwnI w lo v1 (evR g l) ∧ OwnI w lo v2 (evM g l)
theorem EvV.grown {g : P.G} {l : List P.Tup} {lo : Nat} {v : Value} {w w' : World} (h : EvV g l lo v w) (hg : w.grownBy w' none) : EvV g l lo v w' := by
  obtain ⟨v1, v2, hv, h1, h2⟩ := h
  exact ⟨v1, v2, hv, own_grown h1 hg, own_grown h2 hg⟩
theorem ev_len1 (g : P.G) (l : List P.Tup) (h : l.length ≤ 17592186043904) : (evR g l).length ≤ 17592186043904 := by
  unfold evR
  split
  · exact Nat.le_trans (evF_len l l.length) h
  · exact Nat.zero_le _
theorem ev_len2 (g : P.G) (l : List P.Tup) (h : l.length ≤ 17592186043904) : (evM g l).length ≤ 17592186043904 := by
  unfold evM
  split
  · rw [List.length_map, List.length_range]; exact h
  · exact Nat.zero_le _
set_option maxRecDepth 100000 in
set_option maxHeartbeats 4000000 in
theorem evens_any (g : P.G) (l : List P.Tup) (v vl : Value) (w : World) (hv : GameV w v g) (hV : TupsV w vl l) (hsz : l.length * 40 ≤ 140737488351232) (hin : ∀ i, i < l.length → Fr.In64 (l.getD i .zero)) : Calls Try.prog 7 #[v, vl] w fun e w' => e = .returned (.bool true) ∧ Below w.heap.size w w' := by
  have HLOW : Hid (∀ j k, k < 4 → -9223372036854775808 ≤ ct (l.getD j .zero) k) := Lib.hid (fun j k hk => by
    rcases Nat.lt_or_ge j l.length with h | h
    · exact (hin j h k hk).1
    · rw [List.getD_eq_getElem?_getD, List.getElem?_eq_none h]
      match k, hk with
      | 0, _ | 1, _ | 2, _ | 3, _ => decide)
  have HFI := Lib.hid hv.fits
  have HV := Lib.hid hv
  have HVL := Lib.hid hV
  obtain ⟨a, b, c, rfl, -⟩ := hv
  obtain ⟨m, hm⟩ : ∃ m, l.length = m := ⟨_, rfl⟩
  rw [hm] at hsz
  rcases (show ∃ x k, vl = .slice x m k by obtain ⟨x, k, h, -⟩ := hV; exact ⟨x, k, by rw [← hm]; exact h⟩) with ⟨lo, lk, rfl⟩
  have HM := Lib.hid hm
  have HSZ := Lib.hid hsz
  clear hm hin hsz hV
  go_enter Try.func7, Try.ntmps7
  go_wp2_with fail
  have bx0 : Box (w.alloc (.cells #[a, b, c] 33)) (w.heap.size) 33 #[a, b, c] := Box.new w 33 #[a, b, c]
  have hbq : Below w.heap.size w (w.alloc (.cells #[a, b, c] 33)) := (Below.refl _ w).alloc (Nat.le_refl _) _
  have hle0 : w.heap.size ≤ w.heap.size := Nat.le_refl _
  generalize (w.alloc (.cells #[a, b, c] 33)) = w0 at bx0 hbq  ⊢
  have BQg := Lib.hid bx0
  have W := Lib.hid hbq
  have LEg := Lib.hid hle0
  clear hbq hle0 bx0 
  obtain ⟨qg, hqg⟩ : ∃ qg, w.heap.size = qg := ⟨_, rfl⟩
  rw [hqg] at BQg ⊢
  have LEg : Hid (w.heap.size ≤ qg) := Lib.hid (by omega)
  clear hqg
  refine (shown_any w0).mono ?_
  rintro e w1 ⟨rfl, hb⟩
  replace BQg := Lib.hid (BQg.out.keep (grown_of_below hb none))
  replace W := Lib.hid (W.out.trans (hb.mono W.out.size))
  clear hb
  have hbb := BQg.out
  have gc0 : w1.cell? ⟨qg, 0, none⟩ = some a := hbb.cell 0 _ rfl
  have gc1 : w1.cell? ⟨qg, 1, none⟩ = some b := hbb.cell 1 _ rfl
  have gc2 : w1.cell? ⟨qg, 2, none⟩ = some c := hbb.cell 2 _ rfl
  clear hbb
  go_wp2_with fail
  clear gc0 gc1 gc2
  refine (rcopy_any g _ _ (HV.out.on W.out)).mono ?_
  rintro e w2 ⟨oav, obv, ocv, oL, rfl, ho, hb⟩
  have hgo := ho.game HFI.out
  obtain ⟨oa, oka, ob_, okb, oc_, okc, rfl, rfl, rfl⟩ := ho.forms
  replace BQg := Lib.hid (BQg.out.keep (grown_of_below hb none))
  replace W := Lib.hid (W.out.trans (hb.mono W.out.size))
  have GO := Lib.hid hgo
  clear hb ho hgo
  go_upto_region 3 with (fail)
  have bq : Box (w2.alloc (.cells #[.slice oa g.owner.length oka, .slice ob_ g.prio.length okb, .slice oc_ g.moves.length okc] 33)) w2.heap.size 33 #[.slice oa g.owner.length oka, .slice ob_ g.prio.length okb, .slice oc_ g.moves.length okc] := Box.new _ _ _
  have hgq := World.grownBy_alloc w2 (.cells #[.slice oa g.owner.length oka, .slice ob_ g.prio.length okb, .slice oc_ g.moves.length okc] 33) none
  replace BQg := Lib.hid (BQg.out.keep hgq)
  replace W := Lib.hid (W.out.trans ((below_of_grown hgq).mono W.out.size))
  replace GO := Lib.hid (GO.out.on (below_of_grown hgq))
  generalize (w2.alloc (.cells #[.slice oa g.owner.length oka, .slice ob_ g.prio.length okb, .slice oc_ g.moves.length okc] 33)) = w4 at bq BQg W GO ⊢
  generalize w2.heap.size = qo at bq ⊢
  have BQo := Lib.hid bq
  clear bq hgq
  refine Rt.wp_region_tail 1 (fun idx => match idx with | 0 => (fun v _ _ => v = .agg #[.slice oa g.owner.length oka, .slice ob_ g.prio.length okb, .slice oc_ g.moves.length okc]) | 1 => (fun v _ _ => v = (.slice lo m lk)) | 2 => (fun v _ w' => ∃ ao k, v = .slice ao m k ∧ OwnT w' w4.heap.size v l) | 3 => (fun v _ w' => EvV g l w4.heap.size v w') | 4 => (fun v ds w' => v = ds.getD 0 undef ∧ EvV g l w4.heap.size v w') | 5 => (fun v ds _ => v = tupAt_ (ds.getD 0 undef) 0) | 6 => (fun v ds _ => v = tupAt_ (ds.getD 0 undef) 1) | 7 => (fun v ds _ => v = ds.getD 0 undef) | _ => fun _ _ _ => True) (fun _ _ _ _ => True) (Rk.allK) 99 (by kernel_rfl) (by rfl) (by kernel_rfl) (by rfl) ?_ ?_ ?_ ?_
  · refine ⟨?_, ?_, ?_, ?_, ?_, ?_, ?_, ?_, trivial⟩
    · intro A w' K vals h hn hT hgk hK0
      have r0 : A.tmps[6]?.getD undef = .pointer (some ⟨qo, 0, none⟩) := Rg.slot h.1
      have bs := BQo.out.keep (Rk.grown_of hgk)
      have cc0 : w'.cell? ⟨qo, 0, none⟩ = some (.slice oa g.owner.length oka) := bs.cell 0 _ rfl
      have cc1 : w'.cell? ⟨qo, 1, none⟩ = some (.slice ob_ g.prio.length okb) := bs.cell 1 _ rfl
      have cc2 : w'.cell? ⟨qo, 2, none⟩ = some (.slice oc_ g.moves.length okc) := bs.cell 2 _ rfl
      clear h hn hT hgk bs
      simp [Oper.wp, execOp, go_sem, r0, cc0, cc1, cc2]
      exact hK0 _ _ (Rk.Keeps.refl _ _) rfl trivial
    · intro A w' K vals h hn hT hgk hK0
      have r0 : A.tmps[1]?.getD undef = .slice lo m lk := Rg.slot h.1
      clear h hn hT hgk
      simp [Oper.wp, execOp, go_sem, r0]
      exact hK0 _ _ (Rk.Keeps.refl _ _) rfl trivial
    · intro A w' K vals h hn hT hgk hK0
      have r0 : A.tmps[19]?.getD undef = vals 1 := Rg.slot h.2.1
      have s0 : vals 1 = (.slice lo m lk) := hn.1
      have hb := below_of_grown (Rk.grown_of hgk)
      have hsz := hgk.size
      clear h hn hT hgk
      simp [Oper.wp, go_sem, r0, s0]
      refine (tuples_any l (by rw [HM.out]; exact HSZ.out) _ w' (HVL.out.on (W.out.trans (hb.mono W.out.size)))).mono ?_
      rintro e w'' ⟨v', rfl, ho, hb⟩
      obtain ⟨ao, k, rfl⟩ := ho.slice
      exact hK0 _ _ (Rk.keep_of (grown_of_below hb _)) ⟨ao, k, by rw [HM.out], ho.more hsz⟩ trivial
    · intro A w' K vals h hn hT hgk hK0
      have r0 : A.tmps[18]?.getD undef = vals 0 := Rg.slot h.2.1
      have r1 : A.tmps[20]?.getD undef = vals 2 := Rg.slot h.2.2.1
      have s0 : vals 0 = .agg #[.slice oa g.owner.length oka, .slice ob_ g.prio.length okb, .slice oc_ g.moves.length okc] := hn.1
      obtain ⟨ao, k, s1, ho⟩ : ∃ ao k, vals 2 = .slice ao m k ∧ OwnT w' w4.heap.size (vals 2) l := hn.2.1
      have hb := below_of_grown (Rk.grown_of hgk)
      have hsz := hgk.size
      have hot := ho.tups (by have := HSZ.out; rw [HM.out]; omega)
      rw [s1] at hot
      clear h hn hT hgk ho
      simp [Oper.wp, go_sem, r0, r1, s0, s1]
      refine (even_any g l HLOW.out _ _ w' (GO.out.on hb) hot).mono ?_
      rintro e w'' ⟨v1, v2, rfl, h1, h2, hb⟩
      exact hK0 _ _ (Rk.keep_of (grown_of_below hb _)) ⟨v1, v2, rfl, own_more h1 hsz, own_more h2 hsz⟩ trivial
    · intro A w' K vals h hn hT hgk hK0
      have r0 : A.tmps[21]?.getD undef = vals 3 := Rg.slot h.1
      have n3 : EvV g l w4.heap.size (vals 3) w' := hn.1
      clear h hn hT hgk
      simp [Oper.wp, execOp, go_sem, r0]
      exact hK0 _ _ (Rk.Keeps.refl _ _) ⟨rfl, n3⟩ trivial
    · intro A w' K vals h hn hT hgk hK0
      have r0 : A.tmps[17]?.getD undef = vals 4 := Rg.slot h.1
      obtain ⟨v1, v2, hv, -⟩ : EvV g l w4.heap.size (vals 4) w' := hn.1.2
      clear h hn hT hgk
      simp [Oper.wp, execOp, go_sem, r0, hv]
      refine hK0 _ _ (Rk.Keeps.refl _ _) ?_ trivial
      show _ = tupAt_ (vals 4) 0
      rw [hv]
      rfl
    · intro A w' K vals h hn hT hgk hK0
      have r0 : A.tmps[17]?.getD undef = vals 4 := Rg.slot h.1
      obtain ⟨v1, v2, hv, -⟩ : EvV g l w4.heap.size (vals 4) w' := hn.1.2
      clear h hn hT hgk
      simp [Oper.wp, execOp, go_sem, r0, hv]
      refine hK0 _ _ (Rk.Keeps.refl _ _) ?_ trivial
      show _ = tupAt_ (vals 4) 1
      rw [hv]
      rfl
    · intro A w' K vals h hn hT hgk hK0
      have r0 : A.tmps[22]?.getD undef = vals 5 := Rg.slot h.1
      clear h hn hT hgk
      simp [Oper.wp, execOp, go_sem, r0]
      exact hK0 _ _ (Rk.Keeps.refl _ _) rfl trivial
  · refine ⟨?_, ?_, ?_, ?_, ?_, ?_, ?_, ?_, trivial⟩
    · exact fun _ _ _ _ _ _ h => h
    · exact fun _ _ _ _ _ _ h => h
    · exact fun _ _ _ _ _ h ⟨ao, k, h1, ho⟩ => ⟨ao, k, h1, ho.grown (Rk.grown_of h)⟩
    · exact fun _ _ _ _ _ h hu => hu.grown (Rk.grown_of h)
    · exact fun _ _ _ _ _ h hu => ⟨hu.1, hu.2.grown (Rk.grown_of h)⟩
    · exact fun _ _ _ _ _ _ h => h
    · exact fun _ _ _ _ _ _ h => h
    · exact fun _ _ _ _ _ _ h => h
  · exact fun _ _ _ _ _ _ h => h
  · intro vals w8 G hgk hS hG
    obtain ⟨v1, v2, s4, ho1, ho2⟩ : EvV g l w4.heap.size (vals 4) w8 := hS.2.2.2.2.1.2
    have s5 : vals 5 = tupAt_ (vals 4) 0 := hS.2.2.2.2.2.1
    have s6 : vals 6 = tupAt_ (vals 4) 1 := hS.2.2.2.2.2.2.1
    have s7 : vals 7 = vals 5 := hS.2.2.2.2.2.2.2.1
    clear hS
    rw [s4] at s5 s6
    have s5 : vals 5 = v1 := s5
    have s6 : vals 6 = v2 := s6
    rw [s5] at s7
    obtain ⟨x1, k1, rfl, -⟩ := own_at ho1
    obtain ⟨x2, k2, rfl, -⟩ := own_at ho2
    have HI1 := Lib.hid (ho1.ints (ev_len1 g l (by rw [HM.out]; have := HSZ.out; omega)))
    have HI2 := Lib.hid (ho2.ints (ev_len2 g l (by rw [HM.out]; have := HSZ.out; omega)))
    have I1 := HI1
    have I2 := HI2
    have hb := below_of_grown (Rk.grown_of hgk)
    replace BQg := Lib.hid (BQg.out.keep (grown_of_below hb none))
    replace W := Lib.hid (W.out.trans (hb.mono W.out.size))
    replace GO := Lib.hid (GO.out.on hb)
    replace BQo := Lib.hid (BQo.out.keep (grown_of_below hb none))
    clear hb hgk ho1 ho2 HI1 HI2
    refine hG ?_
    clear hG
    simp only [List.take, List.drop, List.length, Nat.reduceSub, Nat.reduceAdd, Rg.putAll, Act.put, List.setIfInBounds_toArray, List.set_cons_succ, List.set_cons_zero, s6, s7]
    clear s4 s5 s6 s7
    have hbb := BQg.out
    have gc0 : w8.cell? ⟨qg, 0, none⟩ = some a := hbb.cell 0 _ rfl
    have gc1 : w8.cell? ⟨qg, 1, none⟩ = some b := hbb.cell 1 _ rfl
    have gc2 : w8.cell? ⟨qg, 2, none⟩ = some c := hbb.cell 2 _ rfl
    clear hbb
    go_wp2_with fail
    clear gc0 gc1 gc2
    refine (reven_any g l HLOW.out _ _ w8 (HV.out.on W.out) (HVL.out.on W.out)).mono ?_
    rintro e w9 ⟨v3, v4, rfl, ho3, ho4, hb⟩
    obtain ⟨x3, k3, rfl, -⟩ := own_at ho3
    obtain ⟨x4, k4, rfl, -⟩ := own_at ho4
    have I3 := Lib.hid (ho3.ints (ev_len1 g l (by rw [HM.out]; have := HSZ.out; omega)))
    have I4 := Lib.hid (ho4.ints (ev_len2 g l (by rw [HM.out]; have := HSZ.out; omega)))
    replace BQg := Lib.hid (BQg.out.keep (grown_of_below hb none))
    replace W := Lib.hid (W.out.trans (hb.mono W.out.size))
    replace GO := Lib.hid (GO.out.on hb)
    replace BQo := Lib.hid (BQo.out.keep (grown_of_below hb none))
    replace I1 := Lib.hid (I1.out.on hb)
    replace I2 := Lib.hid (I2.out.on hb)
    clear hb ho3 ho4
    go_wp2_with fail
    refine (sameints_any _ _ _ _ w9 I1.out I3.out).mono ?_
    rintro e w10 ⟨rfl, hb⟩
    rw [decide_eq_true rfl]
    replace BQg := Lib.hid (BQg.out.keep (grown_of_below hb none))
    replace W := Lib.hid (W.out.trans (hb.mono W.out.size))
    replace GO := Lib.hid (GO.out.on hb)
    replace BQo := Lib.hid (BQo.out.keep (grown_of_below hb none))
    replace I2 := Lib.hid (I2.out.on hb)
    replace I4 := Lib.hid (I4.out.on hb)
    clear hb
    go_wp2_with fail
    refine (sameints_any _ _ _ _ w10 I2.out I4.out).mono ?_
    rintro e w11 ⟨rfl, hb⟩
    rw [decide_eq_true rfl]
    replace BQg := Lib.hid (BQg.out.keep (grown_of_below hb none))
    replace W := Lib.hid (W.out.trans (hb.mono W.out.size))
    replace GO := Lib.hid (GO.out.on hb)
    replace BQo := Lib.hid (BQo.out.keep (grown_of_below hb none))
    clear hb
    have hbb := BQg.out
    have gc0 : w11.cell? ⟨qg, 0, none⟩ = some a := hbb.cell 0 _ rfl
    have gc1 : w11.cell? ⟨qg, 1, none⟩ = some b := hbb.cell 1 _ rfl
    have gc2 : w11.cell? ⟨qg, 2, none⟩ = some c := hbb.cell 2 _ rfl
    clear hbb
    have hbb := BQo.out
    have oc0 : w11.cell? ⟨qo, 0, none⟩ = some (.slice oa g.owner.length oka) := hbb.cell 0 _ rfl
    have oc1 : w11.cell? ⟨qo, 1, none⟩ = some (.slice ob_ g.prio.length okb) := hbb.cell 1 _ rfl
    have oc2 : w11.cell? ⟨qo, 2, none⟩ = some (.slice oc_ g.moves.length okc) := hbb.cell 2 _ rfl
    clear hbb
    go_wp2_with fail
    refine (samegame_any g g _ _ _ GO.out (HV.out.on W.out)).mono ?_
    rintro e w12 ⟨rfl, hb⟩
    rw [decide_eq_true rfl]
    replace W := Lib.hid (W.out.trans (hb.mono W.out.size))
    clear hb
    go_wp2_with fail
    exact bodyPost_ret (v := .bool true) (by simp [results, Try.results7, go_sem]) rfl ⟨rfl, W.out⟩
end W
end Go.Proofs.Yteeaojciobmcaaa
