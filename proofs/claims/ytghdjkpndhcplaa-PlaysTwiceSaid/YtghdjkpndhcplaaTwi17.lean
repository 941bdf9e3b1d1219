/- PlaysTwice: the walk. -/
import Derived.Test.YtghdjkpndhcplaaShown
import Derived.Test.YtghdjkpndhcplaaTwP
import Derived.Test.YtghdjkpndhcplaaAppQ
import Derived.Test.YtghdjkpndhcplaaTellW
import Derived.Test.YtghdjkpndhcplaaSameGame
import Derived.Deep.Cut
import Derived.Lib.Hide
import Derived.Deep.QuietTactic
import Derived.BigQuiet
import Derived.StillTailTactics
namespace Go.Proofs.Ytghdjkpndhcplaa
open Go.RowKit
namespace W

set_option maxRecDepth 100000 in
set_option maxHeartbeats 1000000 in
theorem step_any (va vb : Value) (tp : Int) (A B : List Int) (k : Nat) (w : World) (ha : Ints w va A) (hb : Ints w vb B) (hB : 0 < B.length) (hk : k ≤ 9007199254740992) :
    Calls Try.prog 13 #[.agg #[va, vb, .int .i64 tp], .int .i64 (k : Int)] w fun e w' => e = .returned (.int .i64 (P.posOf A B k)) ∧ Below w.heap.size w w' := by
  have IA := Lib.hid ha
  have IB := Lib.hid hb
  obtain ⟨xa, xk, rfl, hal, -⟩ := ha
  obtain ⟨xb, xl, rfl, hbl, -⟩ := hb
  obtain ⟨a, e1⟩ : ∃ m, A.length = m := ⟨_, rfl⟩
  obtain ⟨b, e2⟩ : ∃ m, B.length = m := ⟨_, rfl⟩
  rw [e1] at IA hal ⊢
  rw [e2] at IB hbl hB ⊢
  have HA := Lib.hid e1
  have HB := Lib.hid e2
  clear e1 e2
  go_enter Try.func13, Try.ntmps13
  go_upto_region 1 with (fail)
  have bx0 : Box (w.alloc (.cells #[.slice xa a xk, .slice xb b xl, .int .i64 tp] 29)) (w.heap.size) 29 #[.slice xa a xk, .slice xb b xl, .int .i64 tp] := Box.new w 29 #[.slice xa a xk, .slice xb b xl, .int .i64 tp]
  have hbq : Below w.heap.size w (w.alloc (.cells #[.slice xa a xk, .slice xb b xl, .int .i64 tp] 29)) := (Below.refl _ w).alloc (Nat.le_refl _) _
  have hle0 : w.heap.size ≤ w.heap.size := Nat.le_refl _
  replace IA := Lib.hid (IA.out.on hbq)
  replace IB := Lib.hid (IB.out.on hbq)
  generalize (w.alloc (.cells #[.slice xa a xk, .slice xb b xl, .int .i64 tp] 29)) = w0 at bx0 hbq IA IB ⊢
  have BQp := Lib.hid bx0
  have W := Lib.hid hbq
  have LEp := Lib.hid hle0
  clear hbq hle0 bx0 
  obtain ⟨qp, hqp⟩ : ∃ qp, w.heap.size = qp := ⟨_, rfl⟩
  rw [hqp] at BQp ⊢
  have LEp : Hid (w.heap.size ≤ qp) := Lib.hid (by omega)
  clear hqp
  have hk0 : (0 : Int) ≤ (k : Int) := Int.natCast_nonneg _
  have pc0 : w0.cell? ⟨qp, 0, none⟩ = some (.slice xa a xk) := BQp.out.cell 0 _ rfl
  have pc1 : w0.cell? ⟨qp, 1, none⟩ = some (.slice xb b xl) := BQp.out.cell 1 _ rfl
  have pc2 : w0.cell? ⟨qp, 2, none⟩ = some (.int .i64 tp) := BQp.out.cell 2 _ rfl
  by_cases hka : k < a
  · have fk : decide ((k : Int) < (a : Int)) = true := decide_eq_true (by omega)
    have hki : (k : Int) < (a : Int) := by omega
    obtain ⟨ba, oa, ca, he, hc⟩ := IA.out.open_ HA.out (by omega)
    injection he with he _ he2
    subst he he2
    have hck := hc w0 (Below.refl _ _) k hka
    have HF := Lib.hid (show P.posOf A B k = A.getD k 0 by unfold P.posOf; rw [HA.out, if_pos hka])
    generalize A.getD k 0 = u at hck HF
    clear hc
    go_wp2_with fail
    go_ret
    exact ⟨by rw [HF.out]; rfl, W.out⟩
  · have fk : decide ((k : Int) < (a : Int)) = false := decide_eq_false (by omega)
    obtain ⟨bb, ob, cb, he, hc⟩ := IB.out.open_ HB.out hB
    injection he with he _ he2
    subst he he2
    obtain ⟨r, hr⟩ : ∃ r, (k - a) % b = r := ⟨_, rfl⟩
    have hrb : r < b := by rw [← hr]; exact Nat.mod_lt _ hB
    have hck := hc w0 (Below.refl _ _) r hrb
    have HF := Lib.hid (show P.posOf A B k = B.getD r 0 by unfold P.posOf; rw [HA.out, HB.out, if_neg hka, hr])
    generalize B.getD r 0 = u at hck HF
    have hw : IntKind.i64.wrap ((k : Int) - (a : Int)) = (k : Int) - (a : Int) := by rw [IntKind.wrap_i64]; omega
    have hm : Int.tmod ((k : Int) - (a : Int)) (b : Int) = (r : Int) := by
      rw [Int.tmod_eq_emod_of_nonneg (by omega), ← hr, Int.natCast_emod, Int.natCast_sub (by omega)]
    have hb00 : ¬ b = 0 := by omega
    have hri : (r : Int) < (b : Int) := by omega
    have hr0 : (0 : Int) ≤ (r : Int) := Int.natCast_nonneg _
    clear hc hr
    go_upto_region 3 with (fail)
    go_quiet (fail)
    go_wp2_with fail
    go_ret
    exact ⟨by rw [HF.out]; rfl, below_drewN W.out nq⟩

theorem row5_below {w w' : World} (h : Rk.Keeps (fun k o => KE w.heap.size k o ∧ KG w.heap.size 29 k o) w w') : Below w.heap.size w w' := ⟨h.os, h.tape, h.output, h.size, fun k hk => by
  obtain ⟨o, ho⟩ : ∃ o, w.heap[k]? = some o := ⟨_, Array.getElem?_eq_getElem hk⟩
  rw [ho]
  exact h.block k o ho ⟨.inl hk, .inl hk⟩⟩
theorem row5_box {w w' : World} {b : Nat} {t : TypeId} {cs : Array Value} (hb : Box w b t cs) (h : Rk.Keeps (fun k o => KE w.heap.size k o ∧ KG w.heap.size 29 k o) w w') (_ : t ≠ 3) (hl : b < w.heap.size) : Box w' b t cs := h.block b _ hb ⟨.inl hl, .inl hl⟩

set_option maxRecDepth 100000 in
set_option maxHeartbeats 4000000 in
theorem twice_any (g : P.G) (v : Value) (z p : Int) (mv sc : Value) (moves script : List Int) (w : World) (hv : GameV w v g) (hm : Ints w mv moves) (hs : Ints w sc script) :
    Calls Try.prog 5 #[v, .int .i64 z, .int .i64 p, mv, sc] w fun e w' => e = .returned (.bool true) ∧ Below w.heap.size w w' := by
  have TV := Lib.hid hv
  have TM := Lib.hid hm
  have TS := Lib.hid hs
  obtain ⟨a0, b0, c0, rfl, ⟨ga, gka, rfl, -⟩, ⟨gb, gkb, rfl, -⟩, ⟨gc, gkc, rfl, -⟩⟩ := hv
  obtain ⟨n1, e1⟩ : ∃ k, g.owner.length = k := ⟨_, rfl⟩
  obtain ⟨n2, e2⟩ : ∃ k, g.prio.length = k := ⟨_, rfl⟩
  obtain ⟨n3, e3⟩ : ∃ k, g.moves.length = k := ⟨_, rfl⟩
  obtain ⟨om, km, rfl, -⟩ := hm
  obtain ⟨os, ks, rfl, -⟩ := hs
  obtain ⟨nm, e4⟩ : ∃ k, moves.length = k := ⟨_, rfl⟩
  obtain ⟨ns, e5⟩ : ∃ k, script.length = k := ⟨_, rfl⟩
  rw [e1, e2, e3] at TV ⊢
  rw [e4] at TM ⊢
  rw [e5] at TS ⊢
  have HN1 := Lib.hid e1
  have HN2 := Lib.hid e2
  have HN3 := Lib.hid e3
  have HNM := Lib.hid e4
  have HNS := Lib.hid e5
  clear e1 e2 e3 e4 e5
  go_enter Try.func5, Try.ntmps5
  go_wp2_with fail
  have bx0 : Box (w.alloc (.cells #[.slice ga n1 gka, .slice gb n2 gkb, .slice gc n3 gkc] 25)) (w.heap.size) 25 #[.slice ga n1 gka, .slice gb n2 gkb, .slice gc n3 gkc] := Box.new w 25 #[.slice ga n1 gka, .slice gb n2 gkb, .slice gc n3 gkc]
  have hbq : Below w.heap.size w (w.alloc (.cells #[.slice ga n1 gka, .slice gb n2 gkb, .slice gc n3 gkc] 25)) := (Below.refl _ w).alloc (Nat.le_refl _) _
  have hle0 : w.heap.size ≤ w.heap.size := Nat.le_refl _
  replace TV := Lib.hid (TV.out.on hbq)
  replace TM := Lib.hid (TM.out.on hbq)
  replace TS := Lib.hid (TS.out.on hbq)
  generalize (w.alloc (.cells #[.slice ga n1 gka, .slice gb n2 gkb, .slice gc n3 gkc] 25)) = w0 at bx0 hbq TV TM TS ⊢
  have BQg := Lib.hid bx0
  have W := Lib.hid hbq
  have LEg := Lib.hid hle0
  clear hbq hle0 bx0 
  obtain ⟨qg, hqg⟩ : ∃ qg, w.heap.size = qg := ⟨_, rfl⟩
  rw [hqg] at BQg ⊢
  have LEg : Hid (w.heap.size ≤ qg) := Lib.hid (by omega)
  clear hqg
  refine (shown_any w0).mono ?_
  rintro e w1 ⟨rfl, hb⟩
  replace W := Lib.hid (W.out.trans (hb.mono W.out.size))
  replace BQg := Lib.hid (BQg.out.keep (grown_of_below hb none))
  replace TV := Lib.hid (TV.out.on hb)
  replace TM := Lib.hid (TM.out.on hb)
  replace TS := Lib.hid (TS.out.on hb)
  clear hb
  by_cases hs32 : 32 < ns
  · have fs : decide ((32 : Int) < (ns : Int)) = true := decide_eq_true (by omega)
    go_wp2_with fail
    go_ret
    exact ⟨rfl, W.out⟩
  · have fs : decide ((32 : Int) < (ns : Int)) = false := decide_eq_false (by omega)
    replace hs32 : ns ≤ 32 := by omega
    have hbb := BQg.out
    have gc0 : w1.cell? ⟨qg, 0, none⟩ = some (.slice ga n1 gka) := hbb.cell 0 _ rfl
    have gc1 : w1.cell? ⟨qg, 1, none⟩ = some (.slice gb n2 gkb) := hbb.cell 1 _ rfl
    have gc2 : w1.cell? ⟨qg, 2, none⟩ = some (.slice gc n3 gkc) := hbb.cell 2 _ rfl
    clear hbb
    go_wp2_with fail
    clear gc0 gc1 gc2
    refine (run_any g _ z p _ _ moves script w1 TV.out TM.out TS.out).mono ?_
    rintro e w2 ⟨⟨v1, v2, A, B, tp, c, rfl, ho1, ho2, -, hpp⟩, hb⟩
    have HPP := Lib.hid hpp
    have hln := play_len hpp
    obtain ⟨xa, xk, rfl, -⟩ := own_at ho1
    obtain ⟨xb, xl, rfl, -⟩ := own_at ho2
    obtain ⟨a, hxn⟩ : ∃ k, A.length = k := ⟨_, rfl⟩
    obtain ⟨b, hxm⟩ : ∃ k, B.length = k := ⟨_, rfl⟩
    rw [hxn] at ho1 ⊢
    rw [hxm] at ho2 ⊢
    have hia := ho1.ints (by omega)
    have hib := ho2.ints (by omega)
    replace W := Lib.hid (W.out.trans (hb.mono W.out.size))
    replace BQg := Lib.hid (BQg.out.keep (grown_of_below hb none))
    replace TV := Lib.hid (TV.out.on hb)
    replace TM := Lib.hid (TM.out.on hb)
    replace TS := Lib.hid (TS.out.on hb)
    have IA := Lib.hid hia
    have IB := Lib.hid hib
    have HLN := Lib.hid hln
    have HAL := Lib.hid hxn
    have HBL := Lib.hid hxm
    clear hb ho1 ho2 hia hib hpp hln hxn hxm
    go_upto_region 5 with (fail)
    have bq : Box (w2.alloc (.cells #[.slice xa a xk, .slice xb b xl, .int .i64 tp] 29)) w2.heap.size 29 #[.slice xa a xk, .slice xb b xl, .int .i64 tp] := Box.new _ _ _
    have hgq := World.grownBy_alloc w2 (.cells #[.slice xa a xk, .slice xb b xl, .int .i64 tp] 29) none
    replace W := Lib.hid (W.out.trans ((below_of_grown hgq).mono W.out.size))
    replace BQg := Lib.hid (BQg.out.keep hgq)
    replace TV := Lib.hid (TV.out.on (below_of_grown hgq))
    replace TM := Lib.hid (TM.out.on (below_of_grown hgq))
    replace TS := Lib.hid (TS.out.on (below_of_grown hgq))
    replace IA := Lib.hid (IA.out.on (below_of_grown hgq))
    replace IB := Lib.hid (IB.out.on (below_of_grown hgq))
    generalize (w2.alloc (.cells #[.slice xa a xk, .slice xb b xl, .int .i64 tp] 29)) = w3 at bq W BQg TV TM TS IA IB ⊢
    generalize w2.heap.size = qp at bq ⊢
    have BQp := Lib.hid bq
    clear bq hgq
    refine Rq.wp_region_tail 1 (fun idx => match idx with | 0 => (fun v _ _ => v = .agg #[.slice ga n1 gka, .slice gb n2 gkb, .slice gc n3 gkc]) | 1 => (fun v _ _ => v = .int .i64 z) | 2 => (fun v _ _ => v = .int .i64 p) | 3 => (fun v _ _ => v = (.slice om nm km)) | 4 => (fun v _ _ => ∃ ao, v = .slice ao 0 0) | 5 => (fun v _ _ => v = (.slice os ns ks)) | 6 => (fun _ _ _ => True) | 7 => (fun v _ _ => v = (.slice os ns ks)) | 8 => (fun v _ _ => ∃ q kk, v = .slice q (ns + ns) kk) | 9 => (fun v _ _ => ∃ a1 n1 k1 a2 n2 k2 tq c1, v = .tuple #[.agg #[.slice a1 n1 k1, .slice a2 n2 k2, .int .i64 tq], .int .i64 ((c1 : Nat) : Int)]) | 10 => (fun v ds _ => v = ds.getD 0 undef ∧ ∃ a1 n1 k1 a2 n2 k2 tq c1, v = .tuple #[.agg #[.slice a1 n1 k1, .slice a2 n2 k2, .int .i64 tq], .int .i64 ((c1 : Nat) : Int)]) | 11 => (fun v ds _ => v = tupAt17 (ds.getD 0 undef) 0) | 12 => (fun v ds _ => v = tupAt17 (ds.getD 0 undef) 1) | 13 => (fun v _ _ => ∃ qp, v = .pointer (some ⟨qp, 0, none⟩) ∧ w3.heap.size ≤ qp) | 14 => (fun _ _ _ => True) | _ => fun _ _ _ => True) (fun idx => match idx with | 4 => (fun v _ w' => ∃ ao, v = .slice ao 0 0 ∧ w'.ownsRow w3.heap.size 3 1 v 0 []) | 6 => (fun v _ w' => OwnI w' w3.heap.size v script) | 8 => (fun v _ w' => OwnI w' w3.heap.size v (script ++ script)) | 9 => (fun v _ w' => RunT g z p moves (script ++ script) w3.heap.size v w') | 10 => (fun v _ w' => RunT g z p moves (script ++ script) w3.heap.size v w') | 13 => (fun v _ w' => ∃ qp, v = .pointer (some ⟨qp, 0, none⟩) ∧ Box w' qp 29 #[.slice none 0 0, .slice none 0 0, .int .i64 0]) | 14 => (fun _ ds w' => ∃ qp x0 x1 x2, ds.getD 0 undef = .pointer (some ⟨qp, 0, none⟩) ∧ ds.getD 1 undef = .agg #[x0, x1, x2] ∧ Box w' qp 29 #[x0, x1, x2]) | _ => fun _ _ _ => True) (fun k o => KE w3.heap.size k o ∧ KG w3.heap.size 29 k o) (fun k => if Nat.beq k 8 = true then (KE w3.heap.size) else if Nat.beq k 14 = true then (KG w3.heap.size 29) else Rk.allK) (fun idx => match idx with | 4 => 6 | 6 => 8 | 8 => 9 | 9 => 10 | 10 => 999 | 13 => 14 | 14 => 999 | _ => 999) (by kernel_rfl) (by rfl) (by kernel_rfl) (by rfl) ?_ ?_ ?_ ?_ ?_
    · refine ⟨?_, ?_, ?_, ?_, ?_, ?_, ?_, ?_, ?_, ?_, ?_, ?_, ?_, ?_, ?_, trivial⟩
      · intro A_ w' K vals h hn hT hgk hK0
        have r0 : A_.tmps[5]?.getD undef = .pointer (some ⟨qg, 0, none⟩) := Rg.slot h.1
        have bs := row5_box BQg.out hgk (by decide) BQg.out.lt
        have cc0 : w'.cell? ⟨qg, 0, none⟩ = some (.slice ga n1 gka) := bs.cell 0 _ rfl
        have cc1 : w'.cell? ⟨qg, 1, none⟩ = some (.slice gb n2 gkb) := bs.cell 1 _ rfl
        have cc2 : w'.cell? ⟨qg, 2, none⟩ = some (.slice gc n3 gkc) := bs.cell 2 _ rfl
        clear h hn hT hgk bs
        simp [Oper.wp, execOp, go_sem, r0, cc0, cc1, cc2]
        exact hK0 _ _ (Rk.Keeps.refl _ _) rfl trivial
      · intro A_ w' K vals h hn hT hgk hK0
        have r0 : A_.tmps[1]?.getD undef = .int .i64 z := Rg.slot h.1
        clear h hn hT hgk
        simp [Oper.wp, execOp, go_sem, r0]
        exact hK0 _ _ (Rk.Keeps.refl _ _) rfl trivial
      · intro A_ w' K vals h hn hT hgk hK0
        have r0 : A_.tmps[2]?.getD undef = .int .i64 p := Rg.slot h.1
        clear h hn hT hgk
        simp [Oper.wp, execOp, go_sem, r0]
        exact hK0 _ _ (Rk.Keeps.refl _ _) rfl trivial
      · intro A_ w' K vals h hn hT hgk hK0
        have r0 : A_.tmps[3]?.getD undef = .slice om nm km := Rg.slot h.1
        clear h hn hT hgk
        simp [Oper.wp, execOp, go_sem, r0]
        exact hK0 _ _ (Rk.Keeps.refl _ _) rfl trivial
      · intro A_ w' K vals h hn hT hgk hK0
        have hsz := hgk.size
        clear h hn hT hgk
        simp [Oper.wp, execOp, go_sem]
        exact hK0 _ _ (Rk.keep_of (World.grownBy_alloc _ _ _)) ⟨_, rfl⟩ ⟨_, rfl, World.ownsRow_made w' #[] 0 hsz (by decide) rfl⟩
      · intro A_ w' K vals h hn hT hgk hK0
        have r0 : A_.tmps[4]?.getD undef = .slice os ns ks := Rg.slot h.1
        clear h hn hT hgk
        simp [Oper.wp, execOp, go_sem, r0]
        exact hK0 _ _ (Rk.Keeps.refl _ _) rfl trivial
      · intro A_ w' K vals h hn hT hgk hK0
        have r0 : A_.tmps[36]?.getD undef = vals 4 := Rg.slot h.1
        have r1 : A_.tmps[37]?.getD undef = vals 5 := Rg.slot h.2.1
        have s1 : vals 5 = (.slice os ns ks) := hn.2.1
        obtain ⟨ao, s0, ho⟩ : ∃ ao, vals 4 = .slice ao 0 0 ∧ w'.ownsRow w3.heap.size 3 1 (vals 4) 0 [] := hT.1 rfl
        have hia := TS.out.on (row5_below hgk)
        have hsz := hgk.size
        clear h hn hT
        rw [s0] at ho
        obtain ⟨v', w'', hrun, h2, h3⟩ := append_fresh ho hia 22 hsz
        exact op_append rfl (by simp [Act.eval, r0, s0]) (by simp [Act.eval, r1, s1]) hrun (hK0 _ _ (Rk.keep_of h3) trivial h2)
      · intro A_ w' K vals h hn hT hgk hK0
        have r0 : A_.tmps[4]?.getD undef = .slice os ns ks := Rg.slot h.1
        clear h hn hT hgk
        simp [Oper.wp, execOp, go_sem, r0]
        exact hK0 _ _ (Rk.Keeps.refl _ _) rfl trivial
      · intro A_ w' K vals h hn hT hgk hK0
        have r0 : A_.tmps[38]?.getD undef = vals 6 := Rg.slot h.1
        have r1 : A_.tmps[39]?.getD undef = vals 7 := Rg.slot h.2.1
        have s1 : vals 7 = (.slice os ns ks) := hn.2.1
        have ho : OwnI w' w3.heap.size (vals 6) script := hT.1 rfl
        have hib := TS.out.on (row5_below hgk)
        have hsz := hgk.size
        clear h hn hT
        obtain ⟨v', w'', hrun, h2, h3⟩ := append_ke ho hib 22 (by rw [HNS.out]; omega) hsz
        obtain ⟨q9, k9, e9, -⟩ := own_at h2
        exact op_append rfl (by simp [Act.eval, r0]) (by simp [Act.eval, r1, s1]) hrun (hK0 _ _ h3 ⟨q9, k9, by rw [e9, List.length_append, HNS.out]⟩ h2)
      · intro A_ w' K vals h hn hT hgk hK0
        have r0 : A_.tmps[32]?.getD undef = vals 0 := Rg.slot h.2.1
        have r1 : A_.tmps[33]?.getD undef = vals 1 := Rg.slot h.2.2.1
        have r2 : A_.tmps[34]?.getD undef = vals 2 := Rg.slot h.2.2.2.1
        have r3 : A_.tmps[35]?.getD undef = vals 3 := Rg.slot h.2.2.2.2.1
        have r4 : A_.tmps[40]?.getD undef = vals 8 := Rg.slot h.2.2.2.2.2.1
        have s0 : vals 0 = .agg #[.slice ga n1 gka, .slice gb n2 gkb, .slice gc n3 gkc] := hn.1
        have s1 : vals 1 = .int .i64 z := hn.2.1
        have s2 : vals 2 = .int .i64 p := hn.2.2.1
        have s3 : vals 3 = .slice om nm km := hn.2.2.2.1
        have ho : OwnI w' w3.heap.size (vals 8) (script ++ script) := hT.2.2.2.2.1 rfl
        have hb := row5_below hgk
        have hsz := hgk.size
        have hio := ho.ints (by rw [List.length_append, HNS.out]; omega)
        clear h hn hT hgk ho
        simp [Oper.wp, go_sem, r0, r1, r2, r3, r4, s0, s1, s2, s3]
        refine (run_any g _ z p _ _ moves (script ++ script) w' (TV.out.on hb) (TM.out.on hb) hio).mono ?_
        rintro e w'' ⟨hv, hb⟩
        obtain ⟨v, rfl, v1, v2, A1, B1, tq, c1, rfl, h1, h2, h3, h4⟩ := hv.val
        obtain ⟨a1, k1, e1, -⟩ := own_at h1
        obtain ⟨a2, k2, e2, -⟩ := own_at h2
        exact hK0 _ _ (Rk.keep_of (grown_of_below hb _)) ⟨a1, _, k1, a2, _, k2, tq, c1, by rw [e1, e2]⟩ ⟨v1, v2, A1, B1, tq, c1, rfl, own_more h1 hsz, own_more h2 hsz, h3, h4⟩
      · intro A_ w' K vals h hn hT hgk hK0
        have r0 : A_.tmps[41]?.getD undef = vals 9 := Rg.slot h.1
        have n3 : RunT g z p moves (script ++ script) w3.heap.size (vals 9) w' := hT.1 rfl
        have n4 : ∃ a1 n1 k1 a2 n2 k2 tq c1, vals 9 = .tuple #[.agg #[.slice a1 n1 k1, .slice a2 n2 k2, .int .i64 tq], .int .i64 ((c1 : Nat) : Int)] := hn.1
        clear h hn hT hgk
        simp [Oper.wp, execOp, go_sem, r0]
        exact hK0 _ _ (Rk.Keeps.refl _ _) ⟨rfl, n4⟩ n3
      · intro A_ w' K vals h hn hT hgk hK0
        have r0 : A_.tmps[31]?.getD undef = vals 10 := Rg.slot h.1
        obtain ⟨a1, n1, k1, a2, n2, k2, tq, c1, hv⟩ : ∃ a1 n1 k1 a2 n2 k2 tq c1, vals 10 = .tuple #[.agg #[.slice a1 n1 k1, .slice a2 n2 k2, .int .i64 tq], .int .i64 ((c1 : Nat) : Int)] := hn.1.2
        clear h hn hT hgk
        simp [Oper.wp, execOp, go_sem, r0, hv]
        refine hK0 _ _ (Rk.Keeps.refl _ _) ?_ trivial
        show _ = tupAt17 (vals 10) 0
        rw [hv]
        rfl
      · intro A_ w' K vals h hn hT hgk hK0
        have r0 : A_.tmps[31]?.getD undef = vals 10 := Rg.slot h.1
        obtain ⟨a1, n1, k1, a2, n2, k2, tq, c1, hv⟩ : ∃ a1 n1 k1 a2 n2 k2 tq c1, vals 10 = .tuple #[.agg #[.slice a1 n1 k1, .slice a2 n2 k2, .int .i64 tq], .int .i64 ((c1 : Nat) : Int)] := hn.1.2
        clear h hn hT hgk
        simp [Oper.wp, execOp, go_sem, r0, hv]
        refine hK0 _ _ (Rk.Keeps.refl _ _) ?_ trivial
        show _ = tupAt17 (vals 10) 1
        rw [hv]
        rfl
      · intro A_ w' K vals h hn hT hgk hK0
        have hsz := hgk.size
        clear h hn hT hgk
        simp [Oper.wp, execOp, go_sem]
        exact hK0 _ _ (Rk.keep_of (World.grownBy_alloc _ _ _)) ⟨_, rfl, hsz⟩ ⟨_, rfl, Box.new _ _ _⟩
      · intro A_ w' K vals h hn hT hgk hK0
        have r0 : A_.tmps[14]?.getD undef = vals 13 := Rg.slot h.1
        have r1 : A_.tmps[42]?.getD undef = vals 11 := Rg.slot h.2.1
        obtain ⟨qp, hp, hbx⟩ : ∃ qp, vals 13 = .pointer (some ⟨qp, 0, none⟩) ∧ Box w' qp 29 #[.slice none 0 0, .slice none 0 0, .int .i64 0] := hT.1 rfl
        obtain ⟨qp', hp', hlo⟩ : ∃ qp, vals 13 = .pointer (some ⟨qp, 0, none⟩) ∧ w3.heap.size ≤ qp := hn.1
        have s6 : vals 11 = tupAt17 (vals 10) 0 := hn.2.1
        obtain ⟨a1, z1, k1, a2, z2, k2, tq, c1, s5⟩ : ∃ a1 n1 k1 a2 n2 k2 tq c1, vals 10 = .tuple #[.agg #[.slice a1 n1 k1, .slice a2 n2 k2, .int .i64 tq], .int .i64 ((c1 : Nat) : Int)] := hn.2.2.2.2.2.2.2.2.2.2.2.2.2.1.2
        rw [s5] at s6
        have s6 : vals 11 = .agg #[.slice a1 z1 k1, .slice a2 z2 k2, .int .i64 tq] := s6
        obtain rfl : qp' = qp := by rw [hp'] at hp; injection hp with hp; injection hp with hp; injection hp with hp
        clear h hn hT s5
        have qc0 : w'.cell? ⟨qp', 0, none⟩ = some (.slice none 0 0) := hbx.cell 0 _ rfl
        have qc1 : w'.cell? ⟨qp', 1, none⟩ = some (.slice none 0 0) := hbx.cell 1 _ rfl
        have qc2 : w'.cell? ⟨qp', 2, none⟩ = some (.int .i64 0) := hbx.cell 2 _ rfl
        have qf0 : w'.frozen? ⟨qp', 0, none⟩ = false := hbx.frozen 0
        have qf1 : w'.frozen? ⟨qp', 1, none⟩ = false := hbx.frozen 1
        have qf2 : w'.frozen? ⟨qp', 2, none⟩ = false := hbx.frozen 2
        simp [Oper.wp, execOp, go_sem, r0, r1, hp', s6, qc0, qc1, qc2, qf0, qf1, qf2]
        exact hK0 undef _ (((keeps_set hbx hlo _ _).trans (keeps_set (hbx.set _ _) hlo _ _)).trans (keeps_set ((hbx.set _ _).set _ _) hlo _ _)) trivial ⟨qp', _, _, _, hp', s6, by simpa using ((hbx.set 0 (.slice a1 z1 k1)).set 1 (.slice a2 z2 k2)).set 2 (.int .i64 tq)⟩
    · intro k i o h
      show (if Nat.beq k 8 = true then (KE w3.heap.size) else if Nat.beq k 14 = true then (KG w3.heap.size 29) else Rk.allK) i o
      by_cases e8 : Nat.beq k 8 = true
      · rw [if_pos e8]
        exact h.1
      rw [if_neg e8]
      by_cases e14 : Nat.beq k 14 = true
      · rw [if_pos e14]
        exact h.2
      rw [if_neg e14]
      trivial
    · refine ⟨?_, ?_, ?_, ?_, ?_, ?_, ?_, ?_, ?_, ?_, ?_, ?_, ?_, ?_, ?_, trivial⟩
      · exact fun _ _ _ _ _ _ h => h
      · exact fun _ _ _ _ _ _ h => h
      · exact fun _ _ _ _ _ _ h => h
      · exact fun _ _ _ _ _ _ h => h
      · exact fun _ _ _ _ _ _ h => h
      · exact fun _ _ _ _ _ _ h => h
      · exact fun _ _ _ _ _ _ h => h
      · exact fun _ _ _ _ _ _ h => h
      · exact fun _ _ _ _ _ _ h => h
      · exact fun _ _ _ _ _ _ h => h
      · exact fun _ _ _ _ _ _ h => h
      · exact fun _ _ _ _ _ _ h => h
      · exact fun _ _ _ _ _ _ h => h
      · exact fun _ _ _ _ _ _ h => h
      · exact fun _ _ _ _ _ _ h => h
    · intro k j v ds w w' hj hjk hja hk hT
      have hk : Rk.Keeps (if Nat.beq j 8 = true then (KE w3.heap.size) else if Nat.beq j 14 = true then (KG w3.heap.size 29) else Rk.allK) w w' := hk
      match k, hT with
      | 4, hT =>
        by_cases e8 : Nat.beq j 8 = true
        · rw [if_pos e8] at hk
          obtain ⟨ao, rfl, ho⟩ := hT
          exact ⟨ao, rfl, ke_empty ho hk⟩
        rw [if_neg e8] at hk
        by_cases e14 : Nat.beq j 14 = true
        · rw [if_pos e14] at hk
          exact ⟨hT.choose, hT.choose_spec.1, own_other hT.choose_spec.2 hk (by decide)⟩
        rw [if_neg e14] at hk
        exact ⟨hT.choose, hT.choose_spec.1, own_grown hT.choose_spec.2 (Rk.grown_of hk)⟩
      | 6, hT =>
        by_cases e8 : Nat.beq j 8 = true
        · exact absurd (Nat.eq_of_beq_eq_true e8) hj
        rw [if_neg e8] at hk
        by_cases e14 : Nat.beq j 14 = true
        · rw [if_pos e14] at hk
          exact own_other hT hk (by decide)
        rw [if_neg e14] at hk
        exact own_grown hT (Rk.grown_of hk)
      | 8, hT =>
        by_cases e8 : Nat.beq j 8 = true
        · exact absurd (Nat.eq_of_beq_eq_true e8) hjk
        rw [if_neg e8] at hk
        by_cases e14 : Nat.beq j 14 = true
        · rw [if_pos e14] at hk
          exact own_other hT hk (by decide)
        rw [if_neg e14] at hk
        exact own_grown hT (Rk.grown_of hk)
      | 9, hT =>
        by_cases e8 : Nat.beq j 8 = true
        · rw [Nat.eq_of_beq_eq_true e8] at hja
          exact Bool.noConfusion (hja.symm.trans (by kernel_rfl : _ = true))
        rw [if_neg e8] at hk
        by_cases e14 : Nat.beq j 14 = true
        · rw [if_pos e14] at hk
          obtain ⟨v1, v2, A1, B1, tq, c1, hv, h1, h2, hr⟩ := hT
          exact ⟨v1, v2, A1, B1, tq, c1, hv, own_other h1 hk (by decide), own_other h2 hk (by decide), hr⟩
        rw [if_neg e14] at hk
        obtain ⟨v1, v2, A1, B1, tq, c1, hv, h1, h2, hr⟩ := hT
        exact ⟨v1, v2, A1, B1, tq, c1, hv, own_grown h1 (Rk.grown_of hk), own_grown h2 (Rk.grown_of hk), hr⟩
      | 10, hT =>
        by_cases e8 : Nat.beq j 8 = true
        · rw [Nat.eq_of_beq_eq_true e8] at hja
          exact Bool.noConfusion (hja.symm.trans (by kernel_rfl : _ = true))
        rw [if_neg e8] at hk
        by_cases e14 : Nat.beq j 14 = true
        · rw [if_pos e14] at hk
          obtain ⟨v1, v2, A1, B1, tq, c1, hv, h1, h2, hr⟩ := hT
          exact ⟨v1, v2, A1, B1, tq, c1, hv, own_other h1 hk (by decide), own_other h2 hk (by decide), hr⟩
        rw [if_neg e14] at hk
        obtain ⟨v1, v2, A1, B1, tq, c1, hv, h1, h2, hr⟩ := hT
        exact ⟨v1, v2, A1, B1, tq, c1, hv, own_grown h1 (Rk.grown_of hk), own_grown h2 (Rk.grown_of hk), hr⟩
      | 13, hT =>
        by_cases e8 : Nat.beq j 8 = true
        · rw [if_pos e8] at hk
          exact ⟨hT.choose, hT.choose_spec.1, ke_box hT.choose_spec.2 hk (by decide)⟩
        rw [if_neg e8] at hk
        by_cases e14 : Nat.beq j 14 = true
        · exact absurd (Nat.eq_of_beq_eq_true e14) hj
        rw [if_neg e14] at hk
        exact ⟨hT.choose, hT.choose_spec.1, hT.choose_spec.2.keep (Rk.grown_of hk)⟩
      | 14, hT =>
        by_cases e8 : Nat.beq j 8 = true
        · rw [Nat.eq_of_beq_eq_true e8] at hja
          exact Bool.noConfusion (hja.symm.trans (by kernel_rfl : _ = true))
        rw [if_neg e8] at hk
        by_cases e14 : Nat.beq j 14 = true
        · exact absurd (Nat.eq_of_beq_eq_true e14) hjk
        rw [if_neg e14] at hk
        obtain ⟨qp, x0, x1, x2, h1, h2, hb⟩ := hT
        exact ⟨qp, x0, x1, x2, h1, h2, hb.keep (Rk.grown_of hk)⟩
      | 0, _ | 1, _ | 2, _ | 3, _ | 5, _ | 7, _ | 11, _ | 12, _ | _ + 15, _ => trivial
    · intro vals w8 G hgk hS hU hG
      obtain ⟨v1, v2, A1, B1, tq, c1, s5, ho1, ho2, -, hpp⟩ : RunT g z p moves (script ++ script) w3.heap.size (vals 10) w8 := hU 10 (by decide) (by decide)
      obtain ⟨qq, x0, x1, x2, s8, s9, hbp⟩ : ∃ qp x0 x1 x2, vals 13 = .pointer (some ⟨qp, 0, none⟩) ∧ vals 11 = .agg #[x0, x1, x2] ∧ Box w8 qp 29 #[x0, x1, x2] := hU 14 (by decide) (by decide)
      have s6 : vals 11 = tupAt17 (vals 10) 0 := hS.2.2.2.2.2.2.2.2.2.2.2.1
      have s7 : vals 12 = tupAt17 (vals 10) 1 := hS.2.2.2.2.2.2.2.2.2.2.2.2.1
      clear hS hU
      rw [s5] at s6 s7
      have s6 : vals 11 = .agg #[v1, v2, .int .i64 tq] := s6
      have s7 : vals 12 = .int .i64 ((c1 : Nat) : Int) := s7
      rw [s6] at s9
      obtain ⟨rfl, rfl, rfl⟩ : v1 = x0 ∧ v2 = x1 ∧ Value.int .i64 tq = x2 := by
        injection s9 with s9
        injection s9 with s9
        injection s9 with h1 s9
        injection s9 with h2 s9
        injection s9 with h3 s9
        exact ⟨h1, h2, h3⟩
      have hb := row5_below hgk
      replace W := Lib.hid (W.out.trans (hb.mono W.out.size))
      replace BQg := Lib.hid (BQg.out.keep (grown_of_below hb none))
      replace TV := Lib.hid (TV.out.on hb)
      replace TM := Lib.hid (TM.out.on hb)
      replace TS := Lib.hid (TS.out.on hb)
      replace BQp := Lib.hid (BQp.out.keep (grown_of_below hb none))
      replace IA := Lib.hid (IA.out.on hb)
      replace IB := Lib.hid (IB.out.on hb)
      clear hb hgk
      have hln := play_len hpp
      obtain ⟨ya, yka, e1, -⟩ := own_at ho1
      obtain ⟨yb, ykb, e2, -⟩ := own_at ho2
      obtain ⟨a', ha'⟩ : ∃ k, A1.length = k := ⟨_, rfl⟩
      obtain ⟨b', hb'⟩ : ∃ k, B1.length = k := ⟨_, rfl⟩
      have hia := ho1.ints (by omega)
      have hib := ho2.ints (by omega)
      rw [ha'] at e1
      rw [hb'] at e2
      subst e1 e2
      have IA' := Lib.hid hia
      have IB' := Lib.hid hib
      have BQq := Lib.hid hbp
      have HTW := Lib.hid (P.twice17 HPP.out hpp (by rw [HNS.out]; exact hs32))
      have HLN' := Lib.hid hln
      have HAL' := Lib.hid ha'
      have HBL' := Lib.hid hb'
      clear hia hib hbp ho1 ho2 hpp hln s9 ha' hb'
      refine hG ?_
      clear hG
      simp only [List.take, List.drop, List.length, Nat.reduceSub, Nat.reduceAdd, Rg.putAll, Rg.runTail, Act.put, List.setIfInBounds_toArray, List.set_cons_succ, List.set_cons_zero, s5, s6, s7, s8]
      clear s5 s6 s7 s8
      simp [Oper.wp, execOp, go_sem, tupAt17]
      have hce : c = c1 := HTW.out.1
      subst hce
      go_upto_region 6 with (fail)
      have fc : (((c : Nat) : Int) != ((c : Nat) : Int)) = false := by rw [bne_eq_false_iff_eq]
      by_cases hc : c = 0
      · have fz : (((c : Nat) : Int) != 0) = false := by rw [bne_eq_false_iff_eq]; omega
        obtain ⟨htp, hb1, hb2, hpos⟩ := HTW.out.2 hc
        have HPOS := Lib.hid hpos
        subst htp
        rw [HBL.out] at hb1
        rw [HBL'.out] at hb2
        have hl1 := HLN.out.1
        have hl2 := HLN.out.2
        rw [HAL.out] at hl1
        rw [HBL.out] at hl2
        have hl3 := HLN'.out.1
        have hl4 := HLN'.out.2
        rw [HAL'.out] at hl3
        rw [HBL'.out] at hl4
        clear hc hpos HTW
        go_wp2_with fail
        go_loopw [16] (fun iv wr => ∃ k : Nat, iv = .int .i64 (k : Int) ∧ k ≤ a + 2 * b + a' + 2 * b' ∧ Below w8.heap.size w8 wr) (fun iv _ => a + 2 * b + a' + 2 * b' - (intOf iv).toNat)
        case atStart => exact ⟨0, rfl, Nat.zero_le _, Below.refl _ _⟩
        case round =>
          obtain ⟨k, rfl, hk, hb⟩ := hrel
          have HB8 := Lib.hid hb
          replace BQp := Lib.hid (BQp.out.keep (grown_of_below hb none))
          replace BQq := Lib.hid (BQq.out.keep (grown_of_below hb none))
          replace IA := Lib.hid (IA.out.on hb)
          replace IB := Lib.hid (IB.out.on hb)
          have IA' := Lib.hid (IA'.out.on hb)
          have IB' := Lib.hid (IB'.out.on hb)
          replace W := Lib.hid (W.out.trans (hb.mono W.out.size))
          clear hb
          have hk0 : (0 : Int) ≤ (k : Int) := Int.natCast_nonneg _
          have pc0 : wr.cell? ⟨qp, 0, none⟩ = some (.slice xa a xk) := BQp.out.cell 0 _ rfl
          have pc1 : wr.cell? ⟨qp, 1, none⟩ = some (.slice xb b xl) := BQp.out.cell 1 _ rfl
          have pc2 : wr.cell? ⟨qp, 2, none⟩ = some (.int .i64 tp) := BQp.out.cell 2 _ rfl
          have qc0 : wr.cell? ⟨qq, 0, none⟩ = some (.slice ya a' yka) := BQq.out.cell 0 _ rfl
          have qc1 : wr.cell? ⟨qq, 1, none⟩ = some (.slice yb b' ykb) := BQq.out.cell 1 _ rfl
          have qc2 : wr.cell? ⟨qq, 2, none⟩ = some (.int .i64 tp) := BQq.out.cell 2 _ rfl
          by_cases hlt : k < a + 2 * b + a' + 2 * b'
          · have fk : decide ((k : Int) < (a : Int) + 2 * (b : Int) + (a' : Int) + 2 * (b' : Int)) = true := decide_eq_true (by omega)
            go_upto_region 13 with (fail)
            clear pc0 pc1 pc2 qc0 qc1 qc2
            refine Rg.wp_region_lit (fun idx => match idx with | 0 => (fun v _ _ => v = .agg #[.slice xa a xk, .slice xb b xl, .int .i64 tp]) | 1 => (fun v _ _ => v = (.int .i64 (k : Int))) | 2 => (fun v _ _ => v = .int .i64 (P.posOf A B k)) | 3 => (fun v _ _ => v = .agg #[.slice ya a' yka, .slice yb b' ykb, .int .i64 tp]) | 4 => (fun v _ _ => v = (.int .i64 (k : Int))) | 5 => (fun v _ _ => v = .int .i64 (P.posOf A1 B1 k)) | _ => fun _ _ _ => True) (none) 99 (by kernel_rfl) (by rfl) (by kernel_rfl) (by rfl) ?_ ?_ ?_
            · refine ⟨?_, ?_, ?_, ?_, ?_, ?_, trivial⟩
              · intro A_ w' K vals h hn hg hK
                have r0 : A_.tmps[12]?.getD undef = .pointer (some ⟨qp, 0, none⟩) := Rg.slot h.1
                have bs := BQp.out.keep hg
                have cc0 : w'.cell? ⟨qp, 0, none⟩ = some (.slice xa a xk) := bs.cell 0 _ rfl
                have cc1 : w'.cell? ⟨qp, 1, none⟩ = some (.slice xb b xl) := bs.cell 1 _ rfl
                have cc2 : w'.cell? ⟨qp, 2, none⟩ = some (.int .i64 tp) := bs.cell 2 _ rfl
                clear h hn hg bs
                simp [Oper.wp, execOp, go_sem, r0, cc0, cc1, cc2]
                exact hK _ _ (Rg.grown_refl _ _) rfl
              · intro A_ w' K vals h hn hg hK
                have r0 : A_.tmps[16]?.getD undef = (.int .i64 (k : Int)) := Rg.slot h.1
                clear h hn hg
                simp [Oper.wp, execOp, go_sem, r0]
                exact hK _ _ (Rg.grown_refl _ _) rfl
              · intro A_ w' K vals h hn hg hK
                have r0 : A_.tmps[74]?.getD undef = vals 0 := Rg.slot h.2.1
                have r1 : A_.tmps[75]?.getD undef = vals 1 := Rg.slot h.2.2.1
                have s0 : vals 0 = .agg #[.slice xa a xk, .slice xb b xl, .int .i64 tp] := hn.1
                have s1 : vals 1 = (.int .i64 (k : Int)) := hn.2.1
                clear h hn
                simp [Oper.wp, go_sem, r0, r1, s0, s1]
                refine (step_any _ _ tp A B k w' (IA.out.grown hg) (IB.out.grown hg) (by rw [HBL.out]; omega) (by omega)).mono ?_
                rintro e w'' ⟨rfl, hb⟩
                exact hK _ _ (grown_of_below hb _) rfl
              · intro A_ w' K vals h hn hg hK
                have r0 : A_.tmps[14]?.getD undef = .pointer (some ⟨qq, 0, none⟩) := Rg.slot h.1
                have bs := BQq.out.keep hg
                have cc0 : w'.cell? ⟨qq, 0, none⟩ = some (.slice ya a' yka) := bs.cell 0 _ rfl
                have cc1 : w'.cell? ⟨qq, 1, none⟩ = some (.slice yb b' ykb) := bs.cell 1 _ rfl
                have cc2 : w'.cell? ⟨qq, 2, none⟩ = some (.int .i64 tp) := bs.cell 2 _ rfl
                clear h hn hg bs
                simp [Oper.wp, execOp, go_sem, r0, cc0, cc1, cc2]
                exact hK _ _ (Rg.grown_refl _ _) rfl
              · intro A_ w' K vals h hn hg hK
                have r0 : A_.tmps[16]?.getD undef = (.int .i64 (k : Int)) := Rg.slot h.1
                clear h hn hg
                simp [Oper.wp, execOp, go_sem, r0]
                exact hK _ _ (Rg.grown_refl _ _) rfl
              · intro A_ w' K vals h hn hg hK
                have r0 : A_.tmps[77]?.getD undef = vals 3 := Rg.slot h.2.1
                have r1 : A_.tmps[78]?.getD undef = vals 4 := Rg.slot h.2.2.1
                have s0 : vals 3 = .agg #[.slice ya a' yka, .slice yb b' ykb, .int .i64 tp] := hn.1
                have s1 : vals 4 = (.int .i64 (k : Int)) := hn.2.1
                clear h hn
                simp [Oper.wp, go_sem, r0, r1, s0, s1]
                refine (step_any _ _ tp A1 B1 k w' (IA'.out.grown hg) (IB'.out.grown hg) (by rw [HBL'.out]; omega) (by omega)).mono ?_
                rintro e w'' ⟨rfl, hb⟩
                exact hK _ _ (grown_of_below hb _) rfl
            · refine ⟨?_, ?_, ?_, ?_, ?_, ?_, trivial⟩
              · exact fun _ _ _ _ _ _ h => h
              · exact fun _ _ _ _ _ _ h => h
              · exact fun _ _ _ _ _ _ h => h
              · exact fun _ _ _ _ _ _ h => h
              · exact fun _ _ _ _ _ _ h => h
              · exact fun _ _ _ _ _ _ h => h
            · intro vals w9 G hg hS hG
              have s2 : vals 2 = .int .i64 (P.posOf A B k) := hS.2.2.1
              have s5 : vals 5 = .int .i64 (P.posOf A1 B1 k) := hS.2.2.2.2.2.1
              clear hS
              rw [← HPOS.out k] at s5
              obtain ⟨y, hy⟩ : ∃ y, P.posOf A B k = y := ⟨_, rfl⟩
              rw [hy] at s2 s5
              replace HB8 := Lib.hid (HB8.out.trans ((below_of_grown hg).mono HB8.out.size))
              clear hy hg
              refine hG ?_
              clear hG
              simp [List.dropLast, Rg.putAll, Oper.wp, execOp, go_sem, s2, s5]
              clear s2 s5
              go_wp2_with fail
              go_roundw
              case rel => exact ⟨k + 1, by go_num, by omega, HB8.out⟩
              case measure => simp [intOf]; omega
          · have fk : decide ((k : Int) < (a : Int) + 2 * (b : Int) + (a' : Int) + 2 * (b' : Int)) = false := decide_eq_false (by omega)
            go_wp2_with fail
            go_ret
            exact ⟨rfl, W.out⟩
      · have fz : (((c : Nat) : Int) != 0) = true := by rw [bne_iff_ne]; omega
        go_wp2_with fail
        go_ret
        exact ⟨rfl, W.out⟩
end W
end Go.Proofs.Ytghdjkpndhcplaa
