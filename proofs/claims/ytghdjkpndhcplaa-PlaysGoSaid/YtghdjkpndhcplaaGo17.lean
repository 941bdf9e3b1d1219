/- PlaysGo: the walk. -/
import Derived.Test.YtghdjkpndhcplaaShown
import Derived.Test.YtghdjkpndhcplaaGoP
import Derived.Test.YtghdjkpndhcplaaRCopy
import Derived.Test.YtghdjkpndhcplaaAppQ
import Derived.Test.YtghdjkpndhcplaaTellW
import Derived.Test.YtghdjkpndhcplaaSameGame
import Derived.Deep.Cut
import Derived.Lib.Hide
import Derived.Deep.QuietTactic
import Derived.BigQuiet
import Derived.StillTailTactics
namespace Go.Proofs.Ytghdjkpndhcplaa
open Go.RowKit
namespace W

set_option maxRecDepth 100000 in
set_option maxHeartbeats 4000000 in
theorem go_any (g : P.G) (v : Value) (z p : Int) (mv sc : Value) (moves script : List Int) (w : World) (hv : GameV w v g) (hm : Ints w mv moves) (hs : Ints w sc script) :
    Calls Try.prog 4 #[v, .int .i64 z, .int .i64 p, mv, sc] w fun e w' => e = .returned (.bool true) ∧ Below w.heap.size w w' := by
  have TV := Lib.hid hv
  have TM := Lib.hid hm
  have TS := Lib.hid hs
  obtain ⟨a0, b0, c0, rfl, ⟨ga, gka, rfl, -⟩, ⟨gb, gkb, rfl, -⟩, ⟨gc, gkc, rfl, -⟩⟩ := hv
  obtain ⟨n1, e1⟩ : ∃ k, g.owner.length = k := ⟨_, rfl⟩
  obtain ⟨n2, e2⟩ : ∃ k, g.prio.length = k := ⟨_, rfl⟩
  obtain ⟨n3, e3⟩ : ∃ k, g.moves.length = k := ⟨_, rfl⟩
  obtain ⟨om, km, rfl, -⟩ := hm
  obtain ⟨os, ks, rfl, -⟩ := hs
  obtain ⟨nm, e4⟩ : ∃ k, moves.length = k := ⟨_, rfl⟩
  obtain ⟨ns, e5⟩ : ∃ k, script.length = k := ⟨_, rfl⟩
  rw [e1, e2, e3] at TV ⊢
  rw [e4] at TM ⊢
  rw [e5] at TS ⊢
  have HN1 := Lib.hid e1
  have HN2 := Lib.hid e2
  have HN3 := Lib.hid e3
  have HNM := Lib.hid e4
  have HNS := Lib.hid e5
  clear e1 e2 e3 e4 e5
  go_enter Try.func4, Try.ntmps4
  go_wp2_with fail
  have bx0 : Box (w.alloc (.cells #[.slice ga n1 gka, .slice gb n2 gkb, .slice gc n3 gkc] 25)) (w.heap.size) 25 #[.slice ga n1 gka, .slice gb n2 gkb, .slice gc n3 gkc] := Box.new w 25 #[.slice ga n1 gka, .slice gb n2 gkb, .slice gc n3 gkc]
  have hbq : Below w.heap.size w (w.alloc (.cells #[.slice ga n1 gka, .slice gb n2 gkb, .slice gc n3 gkc] 25)) := (Below.refl _ w).alloc (Nat.le_refl _) _
  have hle0 : w.heap.size ≤ w.heap.size := Nat.le_refl _
  replace TV := Lib.hid (TV.out.on hbq)
  replace TM := Lib.hid (TM.out.on hbq)
  replace TS := Lib.hid (TS.out.on hbq)
  generalize (w.alloc (.cells #[.slice ga n1 gka, .slice gb n2 gkb, .slice gc n3 gkc] 25)) = w0 at bx0 hbq TV TM TS ⊢
  have BQg := Lib.hid bx0
  have W := Lib.hid hbq
  have LEg := Lib.hid hle0
  clear hbq hle0 bx0 
  obtain ⟨qg, hqg⟩ : ∃ qg, w.heap.size = qg := ⟨_, rfl⟩
  rw [hqg] at BQg ⊢
  have LEg : Hid (w.heap.size ≤ qg) := Lib.hid (by omega)
  clear hqg
  refine (shown_any w0).mono ?_
  rintro e w1 ⟨rfl, hb⟩
  replace W := Lib.hid (W.out.trans (hb.mono W.out.size))
  replace BQg := Lib.hid (BQg.out.keep (grown_of_below hb none))
  replace TV := Lib.hid (TV.out.on hb)
  replace TM := Lib.hid (TM.out.on hb)
  replace TS := Lib.hid (TS.out.on hb)
  clear hb
  have hbb := BQg.out
  have gc0 : w1.cell? ⟨qg, 0, none⟩ = some (.slice ga n1 gka) := hbb.cell 0 _ rfl
  have gc1 : w1.cell? ⟨qg, 1, none⟩ = some (.slice gb n2 gkb) := hbb.cell 1 _ rfl
  have gc2 : w1.cell? ⟨qg, 2, none⟩ = some (.slice gc n3 gkc) := hbb.cell 2 _ rfl
  clear hbb
  go_wp2_with fail
  clear gc0 gc1 gc2
  refine (run_any g _ z p _ _ moves script w1 TV.out TM.out TS.out).mono ?_
  rintro e w2 ⟨⟨v1, v2, A, B, tp, c, rfl, ho1, ho2, -, hpp⟩, hb⟩
  have HPP := Lib.hid hpp
  have hln := play_len hpp
  obtain ⟨xa, xk, rfl, -⟩ := own_at ho1
  obtain ⟨xb, xl, rfl, -⟩ := own_at ho2
  obtain ⟨a, hxn⟩ : ∃ k, A.length = k := ⟨_, rfl⟩
  obtain ⟨b, hxm⟩ : ∃ k, B.length = k := ⟨_, rfl⟩
  rw [hxn] at ho1 ⊢
  rw [hxm] at ho2 ⊢
  have hia := ho1.ints (by omega)
  have hib := ho2.ints (by omega)
  replace W := Lib.hid (W.out.trans (hb.mono W.out.size))
  replace BQg := Lib.hid (BQg.out.keep (grown_of_below hb none))
  replace TV := Lib.hid (TV.out.on hb)
  replace TM := Lib.hid (TM.out.on hb)
  replace TS := Lib.hid (TS.out.on hb)
  have IA := Lib.hid hia
  have IB := Lib.hid hib
  have HLN := Lib.hid hln
  have HAL := Lib.hid hxn
  have HBL := Lib.hid hxm
  clear hb ho1 ho2 hia hib hpp hln hxn hxm
  go_upto_region 3 with (fail)
  have bq : Box (w2.alloc (.cells #[.slice xa a xk, .slice xb b xl, .int .i64 tp] 29)) w2.heap.size 29 #[.slice xa a xk, .slice xb b xl, .int .i64 tp] := Box.new _ _ _
  have hgq := World.grownBy_alloc w2 (.cells #[.slice xa a xk, .slice xb b xl, .int .i64 tp] 29) none
  replace W := Lib.hid (W.out.trans ((below_of_grown hgq).mono W.out.size))
  replace BQg := Lib.hid (BQg.out.keep hgq)
  replace TV := Lib.hid (TV.out.on (below_of_grown hgq))
  replace TM := Lib.hid (TM.out.on (below_of_grown hgq))
  replace TS := Lib.hid (TS.out.on (below_of_grown hgq))
  replace IA := Lib.hid (IA.out.on (below_of_grown hgq))
  replace IB := Lib.hid (IB.out.on (below_of_grown hgq))
  generalize (w2.alloc (.cells #[.slice xa a xk, .slice xb b xl, .int .i64 tp] 29)) = w3 at bq W BQg TV TM TS IA IB ⊢
  generalize w2.heap.size = qp at bq ⊢
  have BQp := Lib.hid bq
  clear bq hgq
  have hbb := BQp.out
  have pc0 : w3.cell? ⟨qp, 0, none⟩ = some (.slice xa a xk) := hbb.cell 0 _ rfl
  have pc1 : w3.cell? ⟨qp, 1, none⟩ = some (.slice xb b xl) := hbb.cell 1 _ rfl
  have pc2 : w3.cell? ⟨qp, 2, none⟩ = some (.int .i64 tp) := hbb.cell 2 _ rfl
  clear hbb
  by_cases hc : c = 0
  · have f1 : (((c : Nat) : Int) != 0) = false := by rw [bne_eq_false_iff_eq]; omega
    have HG := Lib.hid (goes17 (hc ▸ HPP.out))
    clear hc
    go_upto_region 5 with (fail)
    clear pc0 pc1 pc2
    refine Rq.wp_region_tail 1 (fun idx => match idx with | 0 => (fun v _ _ => ∃ ao, v = .slice ao 0 0) | 1 => (fun v _ _ => v = (.pointer (some ⟨qp, 0, none⟩))) | 2 => (fun v _ _ => v = (.slice xa a xk)) | 3 => (fun _ _ _ => True) | 4 => (fun v _ _ => v = (.pointer (some ⟨qp, 1, none⟩))) | 5 => (fun v _ _ => v = (.slice xb b xl)) | 6 => (fun _ _ _ => True) | _ => fun _ _ _ => True) (fun idx => match idx with | 0 => (fun v _ w' => ∃ ao, v = .slice ao 0 0 ∧ w'.ownsRow w3.heap.size 3 1 v 0 []) | 3 => (fun v _ w' => OwnI w' w3.heap.size v A) | 6 => (fun v _ w' => OwnI w' w3.heap.size v (A ++ B)) | _ => fun _ _ _ => True) (KE w3.heap.size) (fun k => if Nat.beq k 6 = true then (KE w3.heap.size) else Rk.allK) (fun idx => match idx with | 0 => 3 | 3 => 6 | 6 => 999 | _ => 999) (by kernel_rfl) (by rfl) (by kernel_rfl) (by rfl) ?_ ?_ ?_ ?_ ?_
    · refine ⟨?_, ?_, ?_, ?_, ?_, ?_, ?_, trivial⟩
      · intro A_ w' K vals h hn hT hgk hK0
        have hsz := hgk.size
        clear h hn hT hgk
        simp [Oper.wp, execOp, go_sem]
        exact hK0 _ _ (Rk.keep_of (World.grownBy_alloc _ _ _)) ⟨_, rfl⟩ ⟨_, rfl, World.ownsRow_made w' #[] 0 hsz (by decide) rfl⟩
      · intro A_ w' K vals h hn hT hgk hK0
        have r0 : A_.tmps[12]?.getD undef = .pointer (some ⟨qp, 0, none⟩) := Rg.slot h.1
        clear h hn hT hgk
        simp [Oper.wp, execOp, go_sem, r0]
        exact hK0 _ _ (Rk.Keeps.refl _ _) rfl trivial
      · intro A_ w' K vals h hn hT hgk hK0
        have r0 : A_.tmps[49]?.getD undef = vals 1 := Rg.slot h.1
        have r1 : vals 1 = (.pointer (some ⟨qp, 0, none⟩)) := hn.1
        have c : w'.cell? ⟨qp, 0, none⟩ = some (.slice xa a xk) := (ke_box BQp.out hgk (by decide)).cell 0 _ rfl
        clear h hn hT hgk
        simp [Oper.wp, execOp, go_sem, r0, r1, c]
        exact hK0 _ _ (Rk.Keeps.refl _ _) rfl trivial
      · intro A_ w' K vals h hn hT hgk hK0
        have r0 : A_.tmps[48]?.getD undef = vals 0 := Rg.slot h.1
        have r1 : A_.tmps[50]?.getD undef = vals 2 := Rg.slot h.2.1
        have s1 : vals 2 = (.slice xa a xk) := hn.2.1
        obtain ⟨ao, s0, ho⟩ : ∃ ao, vals 0 = .slice ao 0 0 ∧ w'.ownsRow w3.heap.size 3 1 (vals 0) 0 [] := hT.1 rfl
        have hia := IA.out.on (ke_below hgk (Nat.le_refl _) (Nat.le_refl _))
        have hsz := hgk.size
        clear h hn hT
        rw [s0] at ho
        obtain ⟨v', w'', hrun, h2, h3⟩ := append_fresh ho hia 22 hsz
        exact op_append rfl (by simp [Act.eval, r0, s0]) (by simp [Act.eval, r1, s1]) hrun (hK0 _ _ (Rk.keep_of h3) trivial h2)
      · intro A_ w' K vals h hn hT hgk hK0
        have r0 : A_.tmps[12]?.getD undef = .pointer (some ⟨qp, 0, none⟩) := Rg.slot h.1
        clear h hn hT hgk
        simp [Oper.wp, execOp, go_sem, r0]
        exact hK0 _ _ (Rk.Keeps.refl _ _) rfl trivial
      · intro A_ w' K vals h hn hT hgk hK0
        have r0 : A_.tmps[52]?.getD undef = vals 4 := Rg.slot h.1
        have r1 : vals 4 = (.pointer (some ⟨qp, 1, none⟩)) := hn.1
        have c : w'.cell? ⟨qp, 1, none⟩ = some (.slice xb b xl) := (ke_box BQp.out hgk (by decide)).cell 1 _ rfl
        clear h hn hT hgk
        simp [Oper.wp, execOp, go_sem, r0, r1, c]
        exact hK0 _ _ (Rk.Keeps.refl _ _) rfl trivial
      · intro A_ w' K vals h hn hT hgk hK0
        have r0 : A_.tmps[51]?.getD undef = vals 3 := Rg.slot h.1
        have r1 : A_.tmps[53]?.getD undef = vals 5 := Rg.slot h.2.1
        have s1 : vals 5 = (.slice xb b xl) := hn.2.1
        have ho : OwnI w' w3.heap.size (vals 3) A := hT.1 rfl
        have hib := IB.out.on (ke_below hgk (Nat.le_refl _) (Nat.le_refl _))
        have hsz := hgk.size
        clear h hn hT
        obtain ⟨v', w'', hrun, h2, h3⟩ := append_ke ho hib 22 (by have := HLN.out; omega) hsz
        exact op_append rfl (by simp [Act.eval, r0]) (by simp [Act.eval, r1, s1]) hrun (hK0 _ _ h3 trivial h2)
    · intro k i o h
      show (if Nat.beq k 6 = true then (KE w3.heap.size) else Rk.allK) i o
      by_cases e6 : Nat.beq k 6 = true
      · rw [if_pos e6]
        exact h
      rw [if_neg e6]
      trivial
    · refine ⟨?_, ?_, ?_, ?_, ?_, ?_, ?_, trivial⟩
      · exact fun _ _ _ _ _ _ h => h
      · exact fun _ _ _ _ _ _ h => h
      · exact fun _ _ _ _ _ _ h => h
      · exact fun _ _ _ _ _ _ h => h
      · exact fun _ _ _ _ _ _ h => h
      · exact fun _ _ _ _ _ _ h => h
      · exact fun _ _ _ _ _ _ h => h
    · intro k j v ds w w' hj hjk hja hk hT
      have hk : Rk.Keeps (if Nat.beq j 6 = true then (KE w3.heap.size) else Rk.allK) w w' := hk
      match k, hT with
      | 0, hT =>
        by_cases e6 : Nat.beq j 6 = true
        · rw [if_pos e6] at hk
          obtain ⟨ao, rfl, ho⟩ := hT
          exact ⟨ao, rfl, ke_empty ho hk⟩
        rw [if_neg e6] at hk
        exact ⟨hT.choose, hT.choose_spec.1, own_grown hT.choose_spec.2 (Rk.grown_of hk)⟩
      | 3, hT =>
        by_cases e6 : Nat.beq j 6 = true
        · exact absurd (Nat.eq_of_beq_eq_true e6) hj
        rw [if_neg e6] at hk
        exact own_grown hT (Rk.grown_of hk)
      | 6, hT =>
        by_cases e6 : Nat.beq j 6 = true
        · exact absurd (Nat.eq_of_beq_eq_true e6) hjk
        rw [if_neg e6] at hk
        exact own_grown hT (Rk.grown_of hk)
      | 1, _ | 2, _ | 4, _ | 5, _ | _ + 7, _ => trivial
    · intro vals w4 G hgk hS hU hG
      have ho : OwnI w4 w3.heap.size (vals 6) (A ++ B) := hU 6 (by decide) (by decide)
      clear hS hU
      have hb : Below w3.heap.size w3 w4 := ke_below hgk (Nat.le_refl _) (Nat.le_refl _)
      have W_3 := W
      have BQg_3 := BQg
      have BQp_3 := BQp
      have TV_3 := TV
      have TM_3 := TM
      have IA_3 := IA
      have IB_3 := IB
      have HB34 := Lib.hid hb
      replace W := Lib.hid (W.out.trans (hb.mono W.out.size))
      replace BQg := Lib.hid (BQg.out.keep (grown_of_below hb none))
      replace TV := Lib.hid (TV.out.on hb)
      replace TM := Lib.hid (TM.out.on hb)
      replace TS := Lib.hid (TS.out.on hb)
      replace BQp := Lib.hid (BQp.out.keep (grown_of_below hb none))
      replace IA := Lib.hid (IA.out.on hb)
      replace IB := Lib.hid (IB.out.on hb)
      have HSZ := Lib.hid (show w3.heap.size ≤ w4.heap.size from hb.size)
      clear hb hgk
      obtain ⟨V, hV⟩ : ∃ V, vals 6 = V := ⟨_, rfl⟩
      rw [hV] at ho
      obtain ⟨xo, xo2, rfl, -⟩ := own_at ho
      have hoi := ho.ints (by rw [List.length_append]; have := HLN.out; omega)
      obtain ⟨n, hn⟩ : ∃ n, (A ++ B).length = n := ⟨_, rfl⟩
      rw [hn] at ho hoi hV
      have HOL := Lib.hid ho
      have IL := Lib.hid hoi
      clear ho hoi
      refine hG ?_
      clear hG
      simp only [List.take, List.drop, List.length, Nat.reduceSub, Nat.reduceAdd, Rg.putAll, Rg.runTail, Act.put, List.setIfInBounds_toArray, List.set_cons_succ, List.set_cons_zero, hV]
      clear hV
      simp [Oper.wp, execOp, go_sem]
      have hright := HG.out.right
      have hmany := hright.many
      rw [HN1.out] at hmany
      have hop := hright.prio
      have hmp := hright.moves
      rw [HN1.out] at hop hmp
      have hpos := HG.out.pos
      rw [HBL.out] at hpos
      have hnab : n = a + b := by rw [← hn, List.length_append, HAL.out, HBL.out]
      have hsh := HG.out.short
      rw [hn, HN1.out] at hsh
      have HN := Lib.hid hn
      have hlen : a + b ≤ 64 * n1 := by omega
      obtain ⟨bl, ol, cl, he, hcl⟩ := IL.out.open_ hn (by omega)
      injection he with he _ he2
      subst he he2
      obtain ⟨bb, ob, cb, he, hcb⟩ := IB.out.open_ HBL.out hpos
      injection he with he _ he2
      subst he he2
      have hcl0 := hcl w4 (Below.refl _ _) 0 (by omega)
      rw [HG.out.first, Nat.add_zero] at hcl0
      obtain ⟨y0, hy0⟩ : ∃ y, B.getD 0 0 = y := ⟨_, rfl⟩
      have hcb0 := hcb w4 (Below.refl _ _) 0 hpos
      rw [hy0, Nat.add_zero] at hcb0
      have HY0 := Lib.hid hy0
      have f2 : ((b : Int) == 0) = false := by rw [beq_eq_false_iff_ne]; omega
      have f3 : (z != z) = false := by rw [bne_eq_false_iff_eq]
      have f4 : decide ((64 : Int) * (n1 : Int) < (n : Int)) = false := decide_eq_false (by omega)
      have hn0 : 0 < n := by omega
      have hn0i : (0 : Int) < (n : Int) := by omega
      have hb0i : (0 : Int) < (b : Int) := by omega
      have hlo9 : w3.heap.size ≤ w4.heap.size := HSZ.out
      have HNAB := Lib.hid hnab
      clear hcl hcb hy0 hn hnab hsh
      have hbb := BQp.out
      have pc0 : w4.cell? ⟨qp, 0, none⟩ = some (.slice xa a xk) := hbb.cell 0 _ rfl
      have pc1 : w4.cell? ⟨qp, 1, none⟩ = some (.slice (some ⟨bb, ob, none⟩) b xl) := hbb.cell 1 _ rfl
      have pc2 : w4.cell? ⟨qp, 2, none⟩ = some (.int .i64 tp) := hbb.cell 2 _ rfl
      clear hbb
      have hbb := BQg.out
      have gc0 : w4.cell? ⟨qg, 0, none⟩ = some (.slice ga n1 gka) := hbb.cell 0 _ rfl
      have gc1 : w4.cell? ⟨qg, 1, none⟩ = some (.slice gb n2 gkb) := hbb.cell 1 _ rfl
      have gc2 : w4.cell? ⟨qg, 2, none⟩ = some (.slice gc n3 gkc) := hbb.cell 2 _ rfl
      clear hbb
      go_upto_region 8 with (fail)
      go_wp2_with (at_builtin; refine wpl_append elInt rfl (.tmp 75) (.tmp 80) rfl rfl (own_grown HOL.out (World.grownBy_alloc _ _ none)) rfl (row_one w4 _ _) ?_ ?_ ?_ ?_ ?_)
      · first | rfl | (intro u hu; simp at hu; subst hu; rfl)
      · have h1 := HAL.out; have h2 := HBL.out; simp; omega
      · have h1 := HAL.out; have h2 := HBL.out; simp; omega
      · first | omega | (simp; omega)
      intro vb w5 hown2 hgr2 hat2
      have hg3 := World.grownBy_alloc w4 (.cells #[.int .i64 y0] 3) none
      have hb : Below w3.heap.size w4 w5 := (((Below.refl w3.heap.size w4).grown hg3 hlo9 (fun k e => by cases e))).grown hgr2 (Nat.le_trans hlo9 hg3.size) (fun k e => (own_lt (own_grown HOL.out hg3) k e).1)
      have HO2 : OwnI w5 w3.heap.size vb (A ++ B ++ [y0]) := by unfold OwnI; simpa [Nat.add_assoc] using hown2
      obtain ⟨m, hm9⟩ : ∃ m, (A ++ B ++ [y0]).length = m := ⟨_, rfl⟩
      have hmn : m = n + 1 := by rw [← hm9, List.length_append, HN.out]; rfl
      obtain ⟨bl2, cl2, e9, -, -, -, -⟩ := own_form HO2 (by rw [hm9, hmn]; omega)
      rw [hm9] at e9
      subst e9
      have hil := HO2.ints (by rw [hm9, hmn]; have := HNAB.out; omega)
      obtain ⟨bl3, ol3, cl3, he, hcl⟩ := hil.open_ hm9 (by omega)
      injection he with he _ he2
      injection he with he
      injection he with he1 he3
      subst he1 he2 he3
      have HCL := Lib.hid hcl
      have hb35 := HB34.out.trans hb
      replace W := Lib.hid (W_3.out.trans (hb35.mono W_3.out.size))
      replace BQg := Lib.hid (BQg_3.out.keep (grown_of_below hb35 none))
      replace BQp := Lib.hid (BQp_3.out.keep (grown_of_below hb35 none))
      replace TV := Lib.hid (TV_3.out.on hb35)
      replace TM := Lib.hid (TM_3.out.on hb35)
      have HY := Lib.hid (show y0 = B.getD 0 0 from HY0.out.symm)
      have HM := Lib.hid hmn
      clear hg3 hb HO2 hown2 hgr2 hat2 hil hcl hb35 W_3 BQg_3 BQp_3 TV_3 TM_3 IA_3 IB_3 HB34 IA IB IL HOL TS hm9 pc0 pc1 pc2 gc0 gc1 gc2 f2 f3 f4 hcl0 hcb0
      go_wp2_with fail
      obtain ⟨ba, oa2, ka2, bb2, ob2, kb2, bc, oc2, kc2, he, hca, hcb9, hcc⟩ := TV.out.open_ HN1.out hop hmp (by have := hright.pos; rw [HN1.out] at this; exact this)
      simp only [Value.agg.injEq, Array.mk.injEq, List.cons.injEq, and_true] at he
      obtain ⟨e1, e2, e3⟩ := he
      injection e1 with e1 _ e1'
      injection e2 with e2 e2n e2'
      injection e3 with e3 e3n e3'
      have e2n := e2n.symm
      have e3n := e3n.symm
      subst e1 e1' e2 e2n e2' e3 e3n e3'
      have HCA := Lib.hid hca
      have HCB := Lib.hid hcb9
      have HCC := Lib.hid hcc
      have HR := Lib.hid hright
      clear hca hcb9 hcc hright hop hmp hlo9 HN2 HN3 HPP HSZ TV hmn
      go_loopw [15, 16] (fun tv iv wr => ∃ j : Nat, iv = .int .i64 (j : Int) ∧ j ≤ n ∧ tv = .int .i64 (topZ g 0 (((A ++ B).take j).drop a)) ∧ Below w5.heap.size w5 wr) (fun _ iv _ => n - (intOf iv).toNat)
      case atStart => exact ⟨0, rfl, Nat.zero_le _, by simp [topZ], Below.refl _ _⟩
      case round =>
        obtain ⟨j, rfl, hj, rfl, hb⟩ := hrel
        obtain ⟨wo, rfl⟩ : ∃ wo : World, wo = wr := ⟨_, rfl⟩
        have HB5 := Lib.hid hb
        replace BQg := Lib.hid (BQg.out.keep (grown_of_below hb none))
        replace BQp := Lib.hid (BQp.out.keep (grown_of_below hb none))
        clear hb
        have hj0 : (0 : Int) ≤ (j : Int) := Int.natCast_nonneg _
        obtain ⟨tq, htq⟩ : ∃ t, topZ g 0 (((A ++ B).take j).drop a) = t := ⟨_, rfl⟩
        have htb := topZ_bounds HR.out (((A ++ B).take j).drop a) 0 (fun x hx => by
          obtain ⟨k, hk⟩ := List.mem_iff_getElem?.1 (List.mem_of_mem_take (List.mem_of_mem_drop hx))
          obtain ⟨hkl, hke⟩ := List.getElem?_eq_some_iff.1 hk
          obtain ⟨y, hy, hyn⟩ := HG.out.ins k hkl
          rw [List.getD_eq_getElem?_getD, hk] at hy
          have hy : x = (y : Int) := hy
          omega) (by omega) (by omega)
        rw [htq] at htb ⊢
        have HTQ := Lib.hid htq
        clear htq
        have hjw : IntKind.i64.wrap ((j : Int) + 1) = (j : Int) + 1 := by rw [IntKind.wrap_i64]; have := HNAB.out; omega
        by_cases hjn : j < n
        · have fj : decide ((j : Int) + 1 < (n : Int) + 1) = true := decide_eq_true (by omega)
          obtain ⟨x, hxj, hx⟩ := HG.out.ins j (by rw [HN.out]; exact hjn)
          have hst := HG.out.step j (by rw [HN.out]; exact hjn) x hxj
          rw [HN1.out] at hx
          rw [← HY.out] at hst
          obtain ⟨y, hy⟩ : ∃ y, (A ++ B ++ [y0]).getD (j + 1) 0 = y := ⟨_, rfl⟩
          rw [hy] at hst
          have hLj : (A ++ B ++ [y0]).getD j 0 = (x : Int) := by
            rw [List.getD_eq_getElem?_getD, List.getElem?_append_left (by rw [HN.out]; exact hjn), ← List.getD_eq_getElem?_getD]
            exact hxj
          have HCX : Hid (∀ w', Below wo.heap.size wo w' → w'.cell? ⟨bl2, j, none⟩ = some (.int .i64 (x : Int))) := Lib.hid fun w' hb => by
            have h := HCL.out w' (HB5.out.trans (hb.mono HB5.out.size)) j (by have := HM.out; omega)
            rw [hLj, Nat.zero_add] at h
            exact h
          have HCY : Hid (∀ w', Below wo.heap.size wo w' → w'.cell? ⟨bl2, j + 1, none⟩ = some (.int .i64 y)) := Lib.hid fun w' hb => by
            have h := HCL.out w' (HB5.out.trans (hb.mono HB5.out.size)) (j + 1) (by have := HM.out; omega)
            rw [hy, Nat.zero_add] at h
            exact h
          obtain ⟨row, hrow⟩ : ∃ row, g.moves.getD x [] = row := ⟨_, rfl⟩
          obtain ⟨rv, hcr, hri⟩ := HCC.out wo HB5.out x hx
          rw [hrow] at hri hst
          have HST := Lib.hid hst
          obtain ⟨kr, hkr⟩ : ∃ k, row.length = k := ⟨_, rfl⟩
          have HKR := Lib.hid hkr
          have hkr0 : 0 < kr := by
            rw [← hkr]
            exact List.length_pos_iff.2 (fun e => by rw [e] at hst; simp at hst)
          have hkr1 : kr ≤ 17592186043904 := by rw [← hkr]; exact hri.fits1
          obtain ⟨bm, om2, km2, rfl, hcm⟩ := hri.open_ hkr hkr0
          have HCM := Lib.hid hcm
          have HCR : Hid (∀ w', Below wo.heap.size wo w' → w'.cell? ⟨bc, oc2 + x, none⟩ = some (.slice (some ⟨bm, om2, none⟩) kr km2)) := Lib.hid fun w' hb => by rw [hb.cell (p := ⟨bc, oc2 + x, none⟩) (cell_lt hcr)]; exact hcr
          have hxi : (x : Int) < (n1 : Int) := by omega
          have hx0 : (0 : Int) ≤ (x : Int) := Int.natCast_nonneg _
          have hji : (j : Int) < ((n + 1 : Nat) : Int) := by omega
          have hji2 : (j : Int) < (n : Int) + 1 := by omega
          have hji3 : (j : Int) + 1 < (n : Int) + 1 := by omega
          have hj1 : (0 : Int) ≤ (j : Int) + 1 := by omega
          have hjt : ((j : Int) + 1).toNat = j + 1 := by omega
          have HXJ := Lib.hid hxj
          clear hxj hst hy hLj hrow hri hkr hcm hcr
          go_wp2_with fail
          go_loopw [17, 18] (fun gv kv wr => ∃ (k : Nat) (gb : Bool), gv = .bool gb ∧ kv = .int .i64 (k : Int) ∧ k ≤ kr ∧ (gb = true ↔ y ∈ row.take k) ∧ Below wo.heap.size wo wr) (fun _ kv _ => kr - (intOf kv).toNat)
          case atStart => exact ⟨0, false, rfl, rfl, Nat.zero_le _, by simp, Below.refl _ _⟩
          case round =>
            obtain ⟨k, gb, rfl, rfl, hk, hgb, hb⟩ := hrel
            have HGB := Lib.hid hgb
            have HBO := Lib.hid hb
            have BQg2 := Lib.hid (BQg.out.keep (grown_of_below hb none))
            clear hgb hb
            have hk0 : (0 : Int) ≤ (k : Int) := Int.natCast_nonneg _
            have hcx := HCX.out wr HBO.out
            have hcr := HCR.out wr HBO.out
            have gc0 : wr.cell? ⟨qg, 0, none⟩ = some (.slice (some ⟨ba, oa2, none⟩) n1 gka) := BQg2.out.cell 0 _ rfl
            have gc1 : wr.cell? ⟨qg, 1, none⟩ = some (.slice (some ⟨bb2, ob2, none⟩) n1 gkb) := BQg2.out.cell 1 _ rfl
            have gc2 : wr.cell? ⟨qg, 2, none⟩ = some (.slice (some ⟨bc, oc2, none⟩) n1 gkc) := BQg2.out.cell 2 _ rfl
            by_cases hkk : k < kr
            · have fk : decide ((k : Int) < (kr : Int)) = true := decide_eq_true (by omega)
              have hki : (k : Int) < (kr : Int) := by omega
              obtain ⟨u, hu⟩ : ∃ u, row.getD k 0 = u := ⟨_, rfl⟩
              have HTK := Lib.hid (take_snoc17 (l := row) (r := k) (by rw [HKR.out]; exact hkk))
              have HU := Lib.hid hu
              go_upto_region 15 with (fail)
              go_quiet (fail)
              clear hcx hcr gc0 gc1 gc2
              replace HBO := Lib.hid (HBO.out.trans ((below_drewN (Below.refl wr.heap.size wr) nq).mono HBO.out.size))
              replace BQg2 := Lib.hid (BQg2.out.keep (grown_of_below (below_drewN (Below.refl wr.heap.size wr) nq) none))
              generalize wr.drewN nq = wq at HBO BQg2 ⊢
              go_upto_region 17 with (fail)
              have hcx := HCX.out wq HBO.out
              have hcy := HCY.out wq HBO.out
              have hcr := HCR.out wq HBO.out
              have hcu := HCM.out wq HBO.out k hkk
              rw [hu] at hcu
              have gc0 : wq.cell? ⟨qg, 0, none⟩ = some (.slice (some ⟨ba, oa2, none⟩) n1 gka) := BQg2.out.cell 0 _ rfl
              have gc1 : wq.cell? ⟨qg, 1, none⟩ = some (.slice (some ⟨bb2, ob2, none⟩) n1 gkb) := BQg2.out.cell 1 _ rfl
              have gc2 : wq.cell? ⟨qg, 2, none⟩ = some (.slice (some ⟨bc, oc2, none⟩) n1 gkc) := BQg2.out.cell 2 _ rfl
              cases gb with
              | true =>
                go_quiet (fail)
                clear hcx hcy hcr hcu gc0 gc1 gc2
                replace HBO := Lib.hid (HBO.out.trans ((below_drewN (Below.refl wq.heap.size wq) nq).mono HBO.out.size))
                generalize wq.drewN nq = wt at HBO ⊢
                go_wp2_with fail
                go_roundw
                case rel => exact ⟨k + 1, true, rfl, by go_num, by omega, ⟨fun _ => by rw [HTK.out]; exact List.mem_append_left _ (HGB.out.1 rfl), fun _ => rfl⟩, HBO.out⟩
                case measure => simp [intOf]; omega
              | false =>
                go_quiet (fail)
                clear hcx hcy hcr hcu gc0 gc1 gc2
                replace HBO := Lib.hid (HBO.out.trans ((below_drewN (Below.refl wq.heap.size wq) nq).mono HBO.out.size))
                generalize wq.drewN nq = wt at HBO ⊢
                go_wp2_with fail
                go_roundw
                case rel => exact ⟨k + 1, u == y, rfl, by go_num, by omega, by
                  rw [HTK.out, List.mem_append, List.mem_singleton, HU.out, beq_iff_eq]
                  exact ⟨fun h => .inr h.symm, fun h => h.elim (fun h => by have := HGB.out.2 h; cases this) fun h => h.symm⟩, HBO.out⟩
                case measure => simp [intOf]; omega
            · have fk : decide ((k : Int) < (kr : Int)) = false := decide_eq_false (by omega)
              have hgt : gb = true := HGB.out.2 (by rw [List.take_of_length_le (by rw [HKR.out]; omega)]; exact HST.out.1)
              subst hgt
              go_upto_region 15 with (fail)
              go_quiet (fail)
              clear hcx hcr gc0 gc1 gc2
              replace HBO := Lib.hid (HBO.out.trans ((below_drewN (Below.refl wr.heap.size wr) nq).mono HBO.out.size))
              replace BQg2 := Lib.hid (BQg2.out.keep (grown_of_below (below_drewN (Below.refl wr.heap.size wr) nq) none))
              generalize wr.drewN nq = wq at HBO BQg2 ⊢
              go_upto_region 18 with (fail)
              have HBQ5 := Lib.hid (HB5.out.trans (HBO.out.mono HB5.out.size))
              have BQp2 := Lib.hid (BQp.out.keep (grown_of_below HBO.out none))
              have hcx := HCX.out wq HBO.out
              have hcy := HCY.out wq HBO.out
              obtain ⟨ow, how⟩ : ∃ ow, g.owner.getD x 0 = ow := ⟨_, rfl⟩
              have hco := HCA.out wq HBQ5.out x hx
              rw [how] at hco
              obtain ⟨pz, hpz⟩ : ∃ pz, g.prio.getD x 0 = pz := ⟨_, rfl⟩
              have HPZ := Lib.hid hpz
              have HSTP := Lib.hid (show ow = p → x < moves.length ∧ moves.getD x 0 = y by rw [← how]; exact HST.out.2)
              have HSN : Hid (topZ g 0 (((A ++ B).take (j + 1)).drop a) = if a ≤ j then (if tq < pz then pz else tq) else tq) := Lib.hid (by
                have h1 : (A ++ B).take (j + 1) = (A ++ B).take j ++ [(x : Int)] := by
                  rw [take_snoc17 (by rw [HN.out]; exact hjn), HXJ.out]
                have h2 : ((A ++ B).take j).length = j := by rw [List.length_take, HN.out]; omega
                by_cases haj : a ≤ j
                · rw [if_pos haj, h1, List.drop_append_of_le_length (by omega), topZ_snoc, HTQ.out, Int.toNat_natCast, hpz]
                · rw [if_neg haj, ← HTQ.out, h1, List.drop_of_length_le (l := _ ++ _) (by rw [List.length_append, h2]; show j + 1 ≤ a; omega), List.drop_of_length_le (by omega)])
              clear how hpz
              have gc0 : wq.cell? ⟨qg, 0, none⟩ = some (.slice (some ⟨ba, oa2, none⟩) n1 gka) := BQg2.out.cell 0 _ rfl
              have gc1 : wq.cell? ⟨qg, 1, none⟩ = some (.slice (some ⟨bb2, ob2, none⟩) n1 gkb) := BQg2.out.cell 1 _ rfl
              have gc2 : wq.cell? ⟨qg, 2, none⟩ = some (.slice (some ⟨bc, oc2, none⟩) n1 gkc) := BQg2.out.cell 2 _ rfl
              by_cases hown : ow = p
              · have fo : (ow == p) = true := beq_iff_eq.2 hown
                obtain ⟨hxm, hmy⟩ := HSTP.out hown
                rw [HNM.out] at hxm
                obtain ⟨bv, ov, kv, he, hcv⟩ := TM.out.open_ HNM.out (by omega)
                injection he with he _ he2
                subst he he2
                have hcm := hcv wq HBQ5.out x hxm
                rw [hmy] at hcm
                have hxmi : (x : Int) < (nm : Int) := by omega
                have fy : (y != y) = false := by rw [bne_eq_false_iff_eq]
                clear hcv hmy hown
                go_quiet (fail)
                clear hcx hcy hco gc0 gc1 gc2
                replace HBQ5 := Lib.hid (HBQ5.out.trans ((below_drewN (Below.refl wq.heap.size wq) nq).mono HBQ5.out.size))
                replace HBO := Lib.hid (HBO.out.trans ((below_drewN (Below.refl wq.heap.size wq) nq).mono HBO.out.size))
                replace BQg2 := Lib.hid (BQg2.out.keep (grown_of_below (below_drewN (Below.refl wq.heap.size wq) nq) none))
                replace BQp2 := Lib.hid (BQp2.out.keep (grown_of_below (below_drewN (Below.refl wq.heap.size wq) nq) none))
                generalize wq.drewN nq = wt at HBQ5 HBO BQg2 BQp2 ⊢
                have pc0 : wt.cell? ⟨qp, 0, none⟩ = some (.slice xa a xk) := BQp2.out.cell 0 _ rfl
                have pc1 : wt.cell? ⟨qp, 1, none⟩ = some (.slice (some ⟨bb, ob, none⟩) b xl) := BQp2.out.cell 1 _ rfl
                have pc2 : wt.cell? ⟨qp, 2, none⟩ = some (.int .i64 tp) := BQp2.out.cell 2 _ rfl
                by_cases haj : a ≤ j
                · have fa : decide ((a : Int) ≤ (j : Int)) = true := decide_eq_true (by omega)
                  have HSN2 := Lib.hid (show topZ g 0 (((A ++ B).take (j + 1)).drop a) = if tq < pz then pz else tq by rw [HSN.out, if_pos haj])
                  go_upto_region 21 with (fail)
                  clear pc0 pc1 pc2
                  have hcx := HCX.out wt HBO.out
                  have hcp := HCB.out wt HBQ5.out x hx
                  rw [HPZ.out] at hcp
                  have gc0 : wt.cell? ⟨qg, 0, none⟩ = some (.slice (some ⟨ba, oa2, none⟩) n1 gka) := BQg2.out.cell 0 _ rfl
                  have gc1 : wt.cell? ⟨qg, 1, none⟩ = some (.slice (some ⟨bb2, ob2, none⟩) n1 gkb) := BQg2.out.cell 1 _ rfl
                  have gc2 : wt.cell? ⟨qg, 2, none⟩ = some (.slice (some ⟨bc, oc2, none⟩) n1 gkc) := BQg2.out.cell 2 _ rfl
                  go_quiet (fail)
                  clear hcx hcp gc0 gc1 gc2
                  replace HBQ5 := Lib.hid (HBQ5.out.trans ((below_drewN (Below.refl wt.heap.size wt) nq).mono HBQ5.out.size))
                  generalize wt.drewN nq = wu at HBQ5 ⊢
                  go_wp2_with fail
                  go_roundw
                  case rel => exact ⟨j + 1, by go_num, by omega, by rw [HSN2.out], HBQ5.out⟩
                  case measure => simp [intOf]; omega
                · have fa : decide ((a : Int) ≤ (j : Int)) = false := decide_eq_false (by omega)
                  have HSN2 := Lib.hid (show topZ g 0 (((A ++ B).take (j + 1)).drop a) = tq by rw [HSN.out, if_neg haj])
                  go_wp2_with fail
                  go_roundw
                  case rel => exact ⟨j + 1, by go_num, by omega, by rw [HSN2.out], HBQ5.out⟩
                  case measure => simp [intOf]; omega
              · have fo : (ow == p) = false := beq_eq_false_iff_ne.2 hown
                clear hown
                go_quiet (fail)
                clear hcx hcy hco gc0 gc1 gc2
                replace HBQ5 := Lib.hid (HBQ5.out.trans ((below_drewN (Below.refl wq.heap.size wq) nq).mono HBQ5.out.size))
                replace HBO := Lib.hid (HBO.out.trans ((below_drewN (Below.refl wq.heap.size wq) nq).mono HBO.out.size))
                replace BQg2 := Lib.hid (BQg2.out.keep (grown_of_below (below_drewN (Below.refl wq.heap.size wq) nq) none))
                replace BQp2 := Lib.hid (BQp2.out.keep (grown_of_below (below_drewN (Below.refl wq.heap.size wq) nq) none))
                generalize wq.drewN nq = wt at HBQ5 HBO BQg2 BQp2 ⊢
                have pc0 : wt.cell? ⟨qp, 0, none⟩ = some (.slice xa a xk) := BQp2.out.cell 0 _ rfl
                have pc1 : wt.cell? ⟨qp, 1, none⟩ = some (.slice (some ⟨bb, ob, none⟩) b xl) := BQp2.out.cell 1 _ rfl
                have pc2 : wt.cell? ⟨qp, 2, none⟩ = some (.int .i64 tp) := BQp2.out.cell 2 _ rfl
                by_cases haj : a ≤ j
                · have fa : decide ((a : Int) ≤ (j : Int)) = true := decide_eq_true (by omega)
                  have HSN2 := Lib.hid (show topZ g 0 (((A ++ B).take (j + 1)).drop a) = if tq < pz then pz else tq by rw [HSN.out, if_pos haj])
                  go_upto_region 21 with (fail)
                  clear pc0 pc1 pc2
                  have hcx := HCX.out wt HBO.out
                  have hcp := HCB.out wt HBQ5.out x hx
                  rw [HPZ.out] at hcp
                  have gc0 : wt.cell? ⟨qg, 0, none⟩ = some (.slice (some ⟨ba, oa2, none⟩) n1 gka) := BQg2.out.cell 0 _ rfl
                  have gc1 : wt.cell? ⟨qg, 1, none⟩ = some (.slice (some ⟨bb2, ob2, none⟩) n1 gkb) := BQg2.out.cell 1 _ rfl
                  have gc2 : wt.cell? ⟨qg, 2, none⟩ = some (.slice (some ⟨bc, oc2, none⟩) n1 gkc) := BQg2.out.cell 2 _ rfl
                  go_quiet (fail)
                  clear hcx hcp gc0 gc1 gc2
                  replace HBQ5 := Lib.hid (HBQ5.out.trans ((below_drewN (Below.refl wt.heap.size wt) nq).mono HBQ5.out.size))
                  generalize wt.drewN nq = wu at HBQ5 ⊢
                  go_wp2_with fail
                  go_roundw
                  case rel => exact ⟨j + 1, by go_num, by omega, by rw [HSN2.out], HBQ5.out⟩
                  case measure => simp [intOf]; omega
                · have fa : decide ((a : Int) ≤ (j : Int)) = false := decide_eq_false (by omega)
                  have HSN2 := Lib.hid (show topZ g 0 (((A ++ B).take (j + 1)).drop a) = tq by rw [HSN.out, if_neg haj])
                  go_wp2_with fail
                  go_roundw
                  case rel => exact ⟨j + 1, by go_num, by omega, by rw [HSN2.out], HBQ5.out⟩
                  case measure => simp [intOf]; omega
        · have fj : decide ((j : Int) + 1 < (n : Int) + 1) = false := decide_eq_false (by omega)
          have hjn2 : j = n := by omega
          have htp := HG.out.top
          have hB : ((A ++ B).take j).drop a = B := by
            rw [List.take_of_length_le (by rw [HN.out]; omega), List.drop_left' HAL.out]
          rw [← hB, HTQ.out] at htp
          have hmod : Int.tmod tq 2 = tq % 2 := Int.tmod_eq_emod_of_nonneg (by omega)
          have fe : (tp == tq % 2) = true := beq_iff_eq.2 htp
          have pc0 : wo.cell? ⟨qp, 0, none⟩ = some (.slice xa a xk) := BQp.out.cell 0 _ rfl
          have pc1 : wo.cell? ⟨qp, 1, none⟩ = some (.slice (some ⟨bb, ob, none⟩) b xl) := BQp.out.cell 1 _ rfl
          have pc2 : wo.cell? ⟨qp, 2, none⟩ = some (.int .i64 tp) := BQp.out.cell 2 _ rfl
          clear hjn2 hB htp
          go_wp2_with fail
          go_ret
          exact ⟨by first | rfl | simp [fe], W.out.trans (HB5.out.mono W.out.size)⟩
  · have f1 : (((c : Nat) : Int) != 0) = true := by rw [bne_iff_ne]; omega
    obtain ⟨hA0, hB0⟩ := none17 HPP.out hc
    have ha0 : a = 0 := by rw [← HAL.out, hA0]; rfl
    have hb0 : b = 0 := by rw [← HBL.out, hB0]; rfl
    subst ha0 hb0
    go_wp2_with fail
    go_ret
    exact ⟨rfl, W.out⟩
end W
end Go.Proofs.Ytghdjkpndhcplaa
