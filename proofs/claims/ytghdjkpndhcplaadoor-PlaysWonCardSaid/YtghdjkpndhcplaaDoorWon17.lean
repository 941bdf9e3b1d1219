/- PlaysWon: the walk. -/
import Derived.Test.YtghdjkpndhcplaaDoorShown
import Derived.Test.YtghdjkpndhcplaaDoorWonP
import Derived.Test.YtghdjkpndhcplaaDoorCls
import Derived.Test.YtghdjkpndhcplaaDoorMemA
import Derived.Test.YtghdjkpndhcplaaDoorLeaf2
import Derived.Deep.Cut
import Derived.Lib.Hide
import Derived.Deep.QuietTactic
import Derived.BigQuiet
import Derived.StillTailTactics
namespace Go.Proofs.YtghdjkpndhcplaaDoor
open Go.RowKit
namespace W

open Go.Sort
theorem rOr (W : World) (s t : BitVec 256) (d : Nat) (os : Array Obj) : Calls Tryd.prog 9 #[.agg #[.int .u64 (P.wrd s 0), .int .u64 (P.wrd s 1), .int .u64 (P.wrd s 2), .int .u64 (P.wrd s 3)], .agg #[.int .u64 (P.wrd t 0), .int .u64 (P.wrd t 1), .int .u64 (P.wrd t 2), .int .u64 (P.wrd t 3)]] (grow (redrawn W d) os) fun e w'' => e = .returned (.agg #[.int .u64 (P.wrd (s ||| t) 0), .int .u64 (P.wrd (s ||| t) 1), .int .u64 (P.wrd (s ||| t) 2), .int .u64 (P.wrd (s ||| t) 3)]) ∧ ∃ p : Regrown, w'' = grow (redrawn W p.d) p.os := Calls.regrown_of (or_any s t _)
theorem rIn (W : World) (s t : BitVec 256) (d : Nat) (os : Array Obj) : Calls Tryd.prog 10 #[.agg #[.int .u64 (P.wrd s 0), .int .u64 (P.wrd s 1), .int .u64 (P.wrd s 2), .int .u64 (P.wrd s 3)], .agg #[.int .u64 (P.wrd t 0), .int .u64 (P.wrd t 1), .int .u64 (P.wrd t 2), .int .u64 (P.wrd t 3)]] (grow (redrawn W d) os) fun e w'' => e = .returned (.bool (decide (s ||| t = t))) ∧ ∃ p : Regrown, w'' = grow (redrawn W p.d) p.os := Calls.regrown_of (in_any s t _)
set_option maxRecDepth 100000 in
set_option maxHeartbeats 4000000 in
theorem won_wrong (g : P.G) (hok : g.ok = false) (v sv : Value) (w : World) (hv : GameV w v g) : Calls Tryd.prog 3 #[v, sv] w fun e w' => e = .returned (.bool true) ∧ Below w.heap.size w w' := by
  have hq0 : g.right.2 ≠ 0 := by unfold P.G.ok at hok; exact beq_eq_false_iff_ne.1 hok
  have TV := Lib.hid hv
  obtain ⟨a, b, c, rfl, -⟩ := hv
  clear hok
  go_enter Tryd.func3, Tryd.ntmps3
  go_wp2_with fail
  have bx0 : Box (w.alloc (.cells #[a, b, c] 25)) (w.heap.size) 25 #[a, b, c] := Box.new w 25 #[a, b, c]
  have hbq : Below w.heap.size w (w.alloc (.cells #[a, b, c] 25)) := (Below.refl _ w).alloc (Nat.le_refl _) _
  have hle0 : w.heap.size ≤ w.heap.size := Nat.le_refl _
  replace TV := Lib.hid (TV.out.on hbq)
  generalize (w.alloc (.cells #[a, b, c] 25)) = w0 at bx0 hbq TV ⊢
  have BQg := Lib.hid bx0
  have W := Lib.hid hbq
  have LEg := Lib.hid hle0
  clear hbq hle0 bx0 
  obtain ⟨qg, hqg⟩ : ∃ qg, w.heap.size = qg := ⟨_, rfl⟩
  rw [hqg] at BQg ⊢
  have LEg : Hid (w.heap.size ≤ qg) := Lib.hid (by omega)
  clear hqg
  refine (shown_any w0).mono ?_
  rintro e w1 ⟨rfl, hb⟩
  replace W := Lib.hid (W.out.trans (hb.mono W.out.size))
  replace BQg := Lib.hid (BQg.out.keep (grown_of_below hb none))
  replace TV := Lib.hid (TV.out.on hb)
  clear hb
  have hbb := BQg.out
  have gc0 : w1.cell? ⟨qg, 0, none⟩ = some a := hbb.cell 0 _ rfl
  have gc1 : w1.cell? ⟨qg, 1, none⟩ = some b := hbb.cell 1 _ rfl
  have gc2 : w1.cell? ⟨qg, 2, none⟩ = some c := hbb.cell 2 _ rfl
  clear hbb
  go_wp2_with fail
  clear gc0 gc1 gc2
  refine (right_any g _ _ TV.out).mono ?_
  rintro e w2 ⟨rfl, hb⟩
  replace W := Lib.hid (W.out.trans (hb.mono W.out.size))
  clear hb
  obtain ⟨z, hz⟩ : ∃ z, g.right.2 = z := ⟨_, rfl⟩
  rw [hz] at hq0 ⊢
  have fq : (((z : Nat) : Int) != 0) = true := by rw [bne_iff_ne]; omega
  clear hz hq0
  go_wp2_with fail
  go_ret
  exact ⟨rfl, W.out⟩

set_option maxRecDepth 100000 in
set_option maxHeartbeats 8000000 in
theorem won_right (g : P.G) (hr : g.Right) (v sv : Value) (ls : List (List Int)) (w : World) (hv : GameV w v g) (hs : Scr w sv ls) (hT : Tab w) : Calls Tryd.prog 3 #[v, sv] w fun e w' => e = .returned (.bool true) ∧ Below w.heap.size w w' := by
  have hq0 : g.right.2 = 0 := by have hok := (P.G.ok_iff g).2 hr; unfold P.G.ok at hok; exact beq_iff_eq.1 hok
  have HR := Lib.hid hr
  have TV := Lib.hid hv
  have TS := Lib.hid hs
  have T := Lib.hid hT
  have h200 := hr.many
  obtain ⟨n, hn⟩ : ∃ n, g.owner.length = n := ⟨_, rfl⟩
  rw [hn] at h200
  have HN := Lib.hid hn
  obtain ⟨a0, b0, c0, rfl, ⟨ga, gka, rfl, -⟩, ⟨gb, gkb, rfl, -⟩, ⟨gc, gkc, rfl, -⟩⟩ := hv
  obtain ⟨n1, e1⟩ : ∃ k, g.owner.length = k := ⟨_, rfl⟩
  obtain ⟨n2, e2⟩ : ∃ k, g.prio.length = k := ⟨_, rfl⟩
  obtain ⟨n3, e3⟩ : ∃ k, g.moves.length = k := ⟨_, rfl⟩
  obtain ⟨so, sc, rfl, hm9, -⟩ := hs
  obtain ⟨m, e4⟩ : ∃ k, ls.length = k := ⟨_, rfl⟩
  rw [e1, e2, e3] at TV ⊢
  rw [e4] at TS hm9 ⊢
  have HM := Lib.hid e4
  clear e1 e2 e3 e4 hn hT hr
  go_enter Tryd.func3, Tryd.ntmps3
  go_wp2_with fail
  have bx0 : Box (w.alloc (.cells #[.slice ga n1 gka, .slice gb n2 gkb, .slice gc n3 gkc] 25)) (w.heap.size) 25 #[.slice ga n1 gka, .slice gb n2 gkb, .slice gc n3 gkc] := Box.new w 25 #[.slice ga n1 gka, .slice gb n2 gkb, .slice gc n3 gkc]
  have hbq : Below w.heap.size w (w.alloc (.cells #[.slice ga n1 gka, .slice gb n2 gkb, .slice gc n3 gkc] 25)) := (Below.refl _ w).alloc (Nat.le_refl _) _
  have hle0 : w.heap.size ≤ w.heap.size := Nat.le_refl _
  replace TV := Lib.hid (TV.out.on hbq)
  replace TS := Lib.hid (TS.out.on hbq)
  replace T := Lib.hid (T.out.on hbq)
  generalize (w.alloc (.cells #[.slice ga n1 gka, .slice gb n2 gkb, .slice gc n3 gkc] 25)) = w0 at bx0 hbq TV TS T ⊢
  have BQg := Lib.hid bx0
  have W := Lib.hid hbq
  have LEg := Lib.hid hle0
  clear hbq hle0 bx0 
  obtain ⟨qg, hqg⟩ : ∃ qg, w.heap.size = qg := ⟨_, rfl⟩
  rw [hqg] at BQg ⊢
  have LEg : Hid (w.heap.size ≤ qg) := Lib.hid (by omega)
  clear hqg
  refine (shown_any w0).mono ?_
  rintro e w1 ⟨rfl, hb⟩
  replace W := Lib.hid (W.out.trans (hb.mono W.out.size))
  replace BQg := Lib.hid (BQg.out.keep (grown_of_below hb none))
  replace TV := Lib.hid (TV.out.on hb)
  replace TS := Lib.hid (TS.out.on hb)
  replace T := Lib.hid (T.out.on hb)
  clear hb
  have hbb := BQg.out
  have gc0 : w1.cell? ⟨qg, 0, none⟩ = some (.slice ga n1 gka) := hbb.cell 0 _ rfl
  have gc1 : w1.cell? ⟨qg, 1, none⟩ = some (.slice gb n2 gkb) := hbb.cell 1 _ rfl
  have gc2 : w1.cell? ⟨qg, 2, none⟩ = some (.slice gc n3 gkc) := hbb.cell 2 _ rfl
  clear hbb
  go_wp2_with fail
  clear gc0 gc1 gc2
  refine (right_any g _ _ TV.out).mono ?_
  rintro e w2 ⟨rfl, hb⟩
  replace W := Lib.hid (W.out.trans (hb.mono W.out.size))
  replace BQg := Lib.hid (BQg.out.keep (grown_of_below hb none))
  replace TV := Lib.hid (TV.out.on hb)
  replace TS := Lib.hid (TS.out.on hb)
  replace T := Lib.hid (T.out.on hb)
  clear hb
  obtain ⟨zq, hz⟩ : ∃ z, g.right.2 = z := ⟨_, rfl⟩
  rw [hz] at hq0 ⊢
  have fq : (((zq : Nat) : Int) != 0) = false := by rw [bne_eq_false_iff_eq]; omega
  clear hz hq0
  have hbb := BQg.out
  have gc0 : w2.cell? ⟨qg, 0, none⟩ = some (.slice ga n1 gka) := hbb.cell 0 _ rfl
  have gc1 : w2.cell? ⟨qg, 1, none⟩ = some (.slice gb n2 gkb) := hbb.cell 1 _ rfl
  have gc2 : w2.cell? ⟨qg, 2, none⟩ = some (.slice gc n3 gkc) := hbb.cell 2 _ rfl
  clear hbb
  go_wp2_with fail
  clear gc0 gc1 gc2 fq
  refine (decomp_any g HR.out n HN.out _ w2 TV.out T.out).mono ?_
  rintro e w3 ⟨X, Y, ch, dep, r0, r1, b0, b1, rfl, hd, hb⟩
  have hsd := dec_sides HR.out HN.out hd
  obtain ⟨x0, k0, rfl, -⟩ := own_at hd.zero.1
  obtain ⟨x1, k1, rfl, -⟩ := own_at hd.one.1
  obtain ⟨l0, hl0⟩ : ∃ k, (P.lst X).length = k := ⟨_, rfl⟩
  obtain ⟨l1, hl1⟩ : ∃ k, (P.lst Y).length = k := ⟨_, rfl⟩
  rw [hl0, hl1] at hsd ⊢
  replace W := Lib.hid (W.out.trans (hb.mono W.out.size))
  replace BQg := Lib.hid (BQg.out.keep (grown_of_below hb none))
  replace TV := Lib.hid (TV.out.on hb)
  replace TS := Lib.hid (TS.out.on hb)
  have TD := Lib.hid hsd
  clear hb hd hsd hl0 hl1 T
  go_upto_region 6 with (fail)
  have bq : Box (w3.alloc (.cells #[.slice x0 l0 k0, .slice x1 l1 k1, .slice (some ⟨b0, 0, none⟩) n n, .slice (some ⟨b1, 0, none⟩) n n] 32)) w3.heap.size 32 #[.slice x0 l0 k0, .slice x1 l1 k1, .slice (some ⟨b0, 0, none⟩) n n, .slice (some ⟨b1, 0, none⟩) n n] := Box.new _ _ _
  have hgq := World.grownBy_alloc w3 (.cells #[.slice x0 l0 k0, .slice x1 l1 k1, .slice (some ⟨b0, 0, none⟩) n n, .slice (some ⟨b1, 0, none⟩) n n] 32) none
  replace W := Lib.hid (W.out.trans ((below_of_grown hgq).mono W.out.size))
  replace BQg := Lib.hid (BQg.out.keep hgq)
  replace TV := Lib.hid (TV.out.on (below_of_grown hgq))
  replace TS := Lib.hid (TS.out.on (below_of_grown hgq))
  replace TD := Lib.hid (TD.out.on (below_of_grown hgq))
  generalize (w3.alloc (.cells #[.slice x0 l0 k0, .slice x1 l1 k1, .slice (some ⟨b0, 0, none⟩) n n, .slice (some ⟨b1, 0, none⟩) n n] 32)) = w4 at bq W BQg TV TS TD ⊢
  generalize w3.heap.size = qc at bq ⊢
  have BQc := Lib.hid bq
  clear bq hgq
  go_wp2_with fail
  go_loopw [10] (fun iv wr => ∃ p : Nat, iv = .int .i64 (p : Int) ∧ p ≤ 2 ∧ Below w4.heap.size w4 wr) (fun iv _ => 2 - (intOf iv).toNat)
  case atStart => exact ⟨0, rfl, Nat.zero_le _, Below.refl _ _⟩
  case round =>
    obtain ⟨p, rfl, hp, hb⟩ := hrel
    obtain ⟨w5, rfl⟩ : ∃ w9 : World, w9 = wr := ⟨_, rfl⟩
    have HB4 := Lib.hid hb
    have hp0 : (0 : Int) ≤ (p : Int) := Int.natCast_nonneg _
    replace W := Lib.hid (W.out.trans (hb.mono W.out.size))
    replace BQg := Lib.hid (BQg.out.keep (grown_of_below hb none))
    replace TV := Lib.hid (TV.out.on hb)
    replace TS := Lib.hid (TS.out.on hb)
    replace TD := Lib.hid (TD.out.on hb)
    replace BQc := Lib.hid (BQc.out.keep (grown_of_below hb none))
    clear hb
    by_cases hpl : p < 2
    · have fp : decide ((p : Int) < 2) = true := decide_eq_true (by omega)
      have hp2 : (p : Int) < 2 := by omega
      have HPP := Lib.hid (show (p : Int) = 0 ∨ (p : Int) = 1 by omega)
      obtain ⟨L, M, rv, mv, hr1, hr2, hil, him, hml, hli, hwn⟩ := TD.out p hpl
      have IL := Lib.hid hil
      have IM := Lib.hid him
      obtain ⟨xr, kr, rfl, hl9, -⟩ := hil
      obtain ⟨om, km, rfl, -⟩ := him
      obtain ⟨ln, hln⟩ : ∃ k, L.length = k := ⟨_, rfl⟩
      rw [hml] at hr2 IM
      rw [hln] at hr1 IL hl9
      have HR1 := Lib.hid hr1
      have HR2 := Lib.hid hr2
      have HML := Lib.hid hml
      have HLN := Lib.hid hln
      have HLI := Lib.hid hli
      have HWN := Lib.hid hwn
      obtain ⟨sL, hsL⟩ : ∃ s, P.ofL L = s := ⟨_, rfl⟩
      have HSL := Lib.hid hsL
      have cr : w5.cell? ⟨qc, p, none⟩ = some (.slice xr ln kr) := BQc.out.cell p _ hr1
      clear hr1 hr2 hml hli hwn hln
      go_wp2_with fail
      clear cr
      have hof := of_ints IL.out
      rw [hsL] at hof
      refine hof.mono ?_
      clear hof hsL
      rintro e w6 ⟨rfl, hb⟩
      replace HB4 := Lib.hid (HB4.out.trans (hb.mono HB4.out.size))
      replace W := Lib.hid (W.out.trans (hb.mono W.out.size))
      replace BQg := Lib.hid (BQg.out.keep (grown_of_below hb none))
      replace TV := Lib.hid (TV.out.on hb)
      replace TS := Lib.hid (TS.out.on hb)
      replace TD := Lib.hid (TD.out.on hb)
      replace BQc := Lib.hid (BQc.out.keep (grown_of_below hb none))
      replace IL := Lib.hid (IL.out.on hb)
      replace IM := Lib.hid (IM.out.on hb)
      clear hb
      go_upto_region 10 with (fail)
      have W4_ := HB4
      have bq : Box (w6.alloc (.cells #[.int .u64 (P.wrd sL 0), .int .u64 (P.wrd sL 1), .int .u64 (P.wrd sL 2), .int .u64 (P.wrd sL 3)] 37)) w6.heap.size 37 #[.int .u64 (P.wrd sL 0), .int .u64 (P.wrd sL 1), .int .u64 (P.wrd sL 2), .int .u64 (P.wrd sL 3)] := Box.new _ _ _
      have hgq := World.grownBy_alloc w6 (.cells #[.int .u64 (P.wrd sL 0), .int .u64 (P.wrd sL 1), .int .u64 (P.wrd sL 2), .int .u64 (P.wrd sL 3)] 37) none
      replace W := Lib.hid (W.out.trans ((below_of_grown hgq).mono W.out.size))
      replace BQg := Lib.hid (BQg.out.keep hgq)
      replace TV := Lib.hid (TV.out.on (below_of_grown hgq))
      replace TS := Lib.hid (TS.out.on (below_of_grown hgq))
      replace TD := Lib.hid (TD.out.on (below_of_grown hgq))
      replace BQc := Lib.hid (BQc.out.keep hgq)
      replace IL := Lib.hid (IL.out.on (below_of_grown hgq))
      replace IM := Lib.hid (IM.out.on (below_of_grown hgq))
      replace W4_ := Lib.hid (W4_.out.trans ((below_of_grown hgq).mono W4_.out.size))
      generalize (w6.alloc (.cells #[.int .u64 (P.wrd sL 0), .int .u64 (P.wrd sL 1), .int .u64 (P.wrd sL 2), .int .u64 (P.wrd sL 3)] 37)) = w7 at bq W BQg TV TS TD BQc IL IM W4_ ⊢
      generalize w6.heap.size = qi at bq ⊢
      have BQi := Lib.hid bq
      clear bq hgq
      go_wp2_with fail
      go_loopw [12] (fun iv wr => ∃ i : Nat, iv = .int .i64 (i : Int) ∧ i ≤ ln ∧ Below w7.heap.size w7 wr) (fun iv _ => ln - (intOf iv).toNat)
      case atStart => exact ⟨0, rfl, Nat.zero_le _, Below.refl _ _⟩
      case round =>
        obtain ⟨i, rfl, hi, hb⟩ := hrel
        obtain ⟨w8, rfl⟩ : ∃ w9 : World, w9 = wr := ⟨_, rfl⟩
        have HB5 := Lib.hid hb
        have hi0 : (0 : Int) ≤ (i : Int) := Int.natCast_nonneg _
        replace W := Lib.hid (W.out.trans (hb.mono W.out.size))
        replace BQg := Lib.hid (BQg.out.keep (grown_of_below hb none))
        replace TV := Lib.hid (TV.out.on hb)
        replace TS := Lib.hid (TS.out.on hb)
        replace TD := Lib.hid (TD.out.on hb)
        replace BQc := Lib.hid (BQc.out.keep (grown_of_below hb none))
        replace IL := Lib.hid (IL.out.on hb)
        replace IM := Lib.hid (IM.out.on hb)
        replace BQi := Lib.hid (BQi.out.keep (grown_of_below hb none))
        replace W4_ := Lib.hid (W4_.out.trans (hb.mono W4_.out.size))
        clear hb
        have cr : w8.cell? ⟨qc, p, none⟩ = some (.slice xr ln kr) := BQc.out.cell p _ HR1.out
        by_cases hil : i < ln
        · have fi : decide ((i : Int) < (ln : Int)) = true := decide_eq_true (by omega)
          have hii : (i : Int) < (ln : Int) := by omega
          by_cases hi30 : i < 30
          · have fj : decide ((i : Int) < 30) = true := decide_eq_true (by omega)
            obtain ⟨br, orr, kr', he, hcz⟩ := IL.out.open_ HLN.out (by omega)
            injection he with he _ he2
            subst he he2
            obtain ⟨z, hz⟩ : ∃ z, L.getD i 0 = z := ⟨_, rfl⟩
            have HZL := Lib.hid (show z ∈ L by
              rw [← hz, List.getD_eq_getElem?_getD, List.getElem?_eq_getElem (by rw [HLN.out]; exact hil)]
              exact List.getElem_mem _)
            have HCW : Hid (∀ w', Below w8.heap.size w8 w' → w'.cell? ⟨br, orr + i, none⟩ = some (.int .i64 z)) := Lib.hid (by rw [← hz]; exact fun w' hb => hcz w' hb i hil)
            clear hcz hz
            go_wp2_with fail
            clear cr
            go_loopw [13] (fun iv wr => ∃ k : Nat, iv = .int .i64 (k : Int) ∧ k ≤ m ∧ Below w8.heap.size w8 wr) (fun iv _ => m - (intOf iv).toNat)
            case atStart => exact ⟨0, rfl, Nat.zero_le _, Below.refl _ _⟩
            case round =>
              obtain ⟨k, rfl, hk, hb⟩ := hrel
              obtain ⟨wo, rfl⟩ : ∃ w9 : World, w9 = wr := ⟨_, rfl⟩
              have HB6 := Lib.hid hb
              have HCZ : Hid (∀ w', Below wo.heap.size wo w' → w'.cell? ⟨br, orr + i, none⟩ = some (.int .i64 z)) := Lib.hid fun w' h => HCW.out w' (hb.trans (h.mono hb.size))
              have hk0 : (0 : Int) ≤ (k : Int) := Int.natCast_nonneg _
              replace W := Lib.hid (W.out.trans (hb.mono W.out.size))
              replace BQg := Lib.hid (BQg.out.keep (grown_of_below hb none))
              replace TV := Lib.hid (TV.out.on hb)
              replace TS := Lib.hid (TS.out.on hb)
              replace TD := Lib.hid (TD.out.on hb)
              replace BQc := Lib.hid (BQc.out.keep (grown_of_below hb none))
              replace IL := Lib.hid (IL.out.on hb)
              replace IM := Lib.hid (IM.out.on hb)
              replace BQi := Lib.hid (BQi.out.keep (grown_of_below hb none))
              replace W4_ := Lib.hid (W4_.out.trans (hb.mono W4_.out.size))
              clear hb
              by_cases hkl : k < m
              · have fk : decide ((k : Int) < (m : Int)) = true := decide_eq_true (by omega)
                have hki : (k : Int) < (m : Int) := by omega
                by_cases hk4 : k < 4
                · have fl : decide ((k : Int) < 4) = true := decide_eq_true (by omega)
                  obtain ⟨sb, sf, os, ns, ks, rfl, hcs, hix, hns, hcap⟩ := TS.out.at_ HM.out hkl
                  obtain ⟨s0, hs0⟩ : ∃ s, ls.getD k [] = s := ⟨_, rfl⟩
                  rw [hs0] at hix hns
                  have IS0 := Lib.hid hix
                  have HS0 := Lib.hid hns
                  clear hix hns hs0
                  go_upto_if 73 with (fail)
                  clear hcs
                  go_cut [14] from 73 to 75 (fun s4 wx => (∃ xs : List Int, xs.length ≤ 64 ∧ Ints wx s4 xs) ∧ wx = wo)
                  case first =>
                    by_cases h64 : 64 < ns
                    · have fx : decide ((64 : Int) < (ns : Int)) = true := decide_eq_true (by omega)
                      have hc64 : 64 ≤ ks := by omega
                      have hns0 : (64 : Int) ≤ (ks : Int) := by omega
                      obtain ⟨bs, of_, ks', he, -⟩ := IS0.out.open_ HS0.out (by omega)
                      injection he with he _ he2
                      subst he he2
                      go_wp2_with fail
                      go_meet
                      exact ⟨⟨s0.take 64, by rw [List.length_take]; omega, ints_take IS0.out HS0.out (by omega)⟩, rfl⟩
                    · have fx : decide ((64 : Int) < (ns : Int)) = false := decide_eq_false (by omega)
                      go_wp2_with fail
                      go_meet
                      exact ⟨⟨s0, by rw [HS0.out]; omega, IS0.out⟩, rfl⟩
                  case rest =>
                    obtain ⟨⟨xs, hx64, hix⟩, rfl⟩ := hcut
                    obtain ⟨wo, rfl⟩ : ∃ w9 : World, w9 = wc := ⟨_, rfl⟩
                    have IX := Lib.hid hix
                    have HXL := Lib.hid hx64
                    obtain ⟨os2, ks2, rfl, -⟩ := hix
                    obtain ⟨ns2, hns2⟩ : ∃ k, xs.length = k := ⟨_, rfl⟩
                    rw [hns2] at IX ⊢
                    clear IS0 HS0 hx64 hns2 hcap
                    go_upto_region 19 with (fail)
                    refine Rk.wp_region_lit (fun idx => match idx with | 0 => (fun v _ _ => v = .agg #[.slice ga n1 gka, .slice gb n2 gkb, .slice gc n3 gkc]) | 1 => (fun v _ _ => v = (.int .i64 (p : Int))) | 2 => (fun v _ _ => v = (.pointer (some ⟨qc, 0, none⟩))) | 3 => (fun v _ _ => v = (.pointer (some ⟨qc, p, none⟩))) | 4 => (fun v _ _ => v = (.slice (some ⟨br, orr, none⟩) ln kr)) | 5 => (fun v _ _ => v = (.int .i64 (i : Int))) | 6 => (fun v _ _ => v = (.pointer (some ⟨br, orr + i, none⟩))) | 7 => (fun v _ _ => v = (.int .i64 z)) | 8 => (fun v _ _ => v = (.int .i64 (p : Int))) | 9 => (fun v _ _ => v = (.int .i64 (p : Int))) | 10 => (fun v _ _ => v = (.pointer (some ⟨qc, 2, none⟩))) | 11 => (fun v _ _ => v = (.pointer (some ⟨qc, 2 + p, none⟩))) | 12 => (fun v _ _ => v = (.slice om n km)) | 13 => (fun v _ _ => v = (.slice os2 ns2 ks2)) | 14 => (fun v _ w' => RunT g z (p : Int) M xs wo.heap.size v w') | 15 => (fun v ds w' => v = ds.getD 0 undef ∧ RunT g z (p : Int) M xs wo.heap.size v w') | 16 => (fun v ds _ => v = tupAt17 (ds.getD 0 undef) 0) | 17 => (fun v ds _ => v = tupAt17 (ds.getD 0 undef) 1) | 18 => (fun v _ _ => ∃ qp, v = .pointer (some ⟨qp, 0, none⟩) ∧ wo.heap.size ≤ qp) | 19 => (fun _ ds w' => ∃ qp x0 x1 x2, ds.getD 0 undef = .pointer (some ⟨qp, 0, none⟩) ∧ ds.getD 1 undef = .agg #[x0, x1, x2] ∧ Box w' qp 40 #[x0, x1, x2]) | _ => fun _ _ _ => True) (fun idx => match idx with | 18 => (fun v _ w' => ∃ qp, v = .pointer (some ⟨qp, 0, none⟩) ∧ Box w' qp 40 #[.slice none 0 0, .slice none 0 0, .int .i64 0]) | _ => fun _ _ _ => True) (KG wo.heap.size 40) 19 (by kernel_rfl) (by rfl) (by kernel_rfl) (by rfl) ?_ ?_ ?_ ?_
                    · refine ⟨?_, ?_, ?_, ?_, ?_, ?_, ?_, ?_, ?_, ?_, ?_, ?_, ?_, ?_, ?_, ?_, ?_, ?_, ?_, ?_, trivial⟩
                      · intro A w' K vals h hn hT hgk hK0
                        have r0 : A.tmps[2]?.getD undef = .pointer (some ⟨qg, 0, none⟩) := Rg.slot h.1
                        have bs := BQg.out.keep (keeps_old hgk)
                        have cc0 : w'.cell? ⟨qg, 0, none⟩ = some (.slice ga n1 gka) := bs.cell 0 _ rfl
                        have cc1 : w'.cell? ⟨qg, 1, none⟩ = some (.slice gb n2 gkb) := bs.cell 1 _ rfl
                        have cc2 : w'.cell? ⟨qg, 2, none⟩ = some (.slice gc n3 gkc) := bs.cell 2 _ rfl
                        clear h hn hT hgk bs
                        simp [Oper.wp, execOp, go_sem, r0, cc0, cc1, cc2]
                        exact hK0 _ _ (Rk.Keeps.refl _ _) rfl trivial
                      · intro A w' K vals h hn hT hgk hK0
                        have r0 : A.tmps[10]?.getD undef = .int .i64 (p : Int) := Rg.slot h.1
                        clear h hn hT hgk
                        simp [Oper.wp, execOp, go_sem, r0]
                        exact hK0 _ _ (Rk.Keeps.refl _ _) rfl trivial
                      · intro A w' K vals h hn hT hgk hK0
                        have r0 : A.tmps[8]?.getD undef = .pointer (some ⟨qc, 0, none⟩) := Rg.slot h.1
                        clear h hn hT hgk
                        simp [Oper.wp, execOp, go_sem, r0]
                        exact hK0 _ _ (Rk.Keeps.refl _ _) rfl trivial
                      · intro A w' K vals h hn hT hgk hK0
                        have r0 : A.tmps[79]?.getD undef = vals 2 := Rg.slot h.1
                        have s0 : vals 2 = (.pointer (some ⟨qc, 0, none⟩)) := hn.1
                        have r1 : A.tmps[78]?.getD undef = vals 1 := Rg.slot h.2.1
                        have s1 : vals 1 = (.int .i64 (p : Int)) := hn.2.1
                        clear h hn hT hgk
                        simp [Oper.wp, execOp, go_sem, r0, r1, s0, s1, hp2, hp0]
                        exact hK0 _ _ (Rk.Keeps.refl _ _) rfl trivial
                      · intro A w' K vals h hn hT hgk hK0
                        have r0 : A.tmps[80]?.getD undef = vals 3 := Rg.slot h.1
                        have r1 : vals 3 = (.pointer (some ⟨qc, p, none⟩)) := hn.1
                        have c : w'.cell? ⟨qc, p, none⟩ = some (.slice (some ⟨br, orr, none⟩) ln kr) := (BQc.out.keep (keeps_old hgk)).cell p _ HR1.out
                        clear h hn hT hgk
                        simp [Oper.wp, execOp, go_sem, r0, r1, c]
                        exact hK0 _ _ (Rk.Keeps.refl _ _) rfl trivial
                      · intro A w' K vals h hn hT hgk hK0
                        have r0 : A.tmps[12]?.getD undef = .int .i64 (i : Int) := Rg.slot h.1
                        clear h hn hT hgk
                        simp [Oper.wp, execOp, go_sem, r0]
                        exact hK0 _ _ (Rk.Keeps.refl _ _) rfl trivial
                      · intro A w' K vals h hn hT hgk hK0
                        have r0 : A.tmps[81]?.getD undef = vals 4 := Rg.slot h.1
                        have s0 : vals 4 = (.slice (some ⟨br, orr, none⟩) ln kr) := hn.1
                        have r1 : A.tmps[82]?.getD undef = vals 5 := Rg.slot h.2.1
                        have s1 : vals 5 = (.int .i64 (i : Int)) := hn.2.1
                        clear h hn hT hgk
                        simp [Oper.wp, execOp, go_sem, r0, r1, s0, s1, hii, hi0]
                        exact hK0 _ _ (Rk.Keeps.refl _ _) rfl trivial
                      · intro A w' K vals h hn hT hgk hK0
                        have r0 : A.tmps[83]?.getD undef = vals 6 := Rg.slot h.1
                        have r1 : vals 6 = (.pointer (some ⟨br, orr + i, none⟩)) := hn.1
                        have c : w'.cell? ⟨br, orr + i, none⟩ = some (.int .i64 z) := HCZ.out w' (below_of_grown (keeps_old hgk))
                        clear h hn hT hgk
                        simp [Oper.wp, execOp, go_sem, r0, r1, c]
                        exact hK0 _ _ (Rk.Keeps.refl _ _) rfl trivial
                      · intro A w' K vals h hn hT hgk hK0
                        have r0 : A.tmps[10]?.getD undef = .int .i64 (p : Int) := Rg.slot h.1
                        clear h hn hT hgk
                        simp [Oper.wp, execOp, go_sem, r0]
                        exact hK0 _ _ (Rk.Keeps.refl _ _) rfl trivial
                      · intro A w' K vals h hn hT hgk hK0
                        have r0 : A.tmps[10]?.getD undef = .int .i64 (p : Int) := Rg.slot h.1
                        clear h hn hT hgk
                        simp [Oper.wp, execOp, go_sem, r0]
                        exact hK0 _ _ (Rk.Keeps.refl _ _) rfl trivial
                      · intro A w' K vals h hn hT hgk hK0
                        have r0 : A.tmps[8]?.getD undef = .pointer (some ⟨qc, 0, none⟩) := Rg.slot h.1
                        clear h hn hT hgk
                        simp [Oper.wp, execOp, go_sem, r0]
                        exact hK0 _ _ (Rk.Keeps.refl _ _) rfl trivial
                      · intro A w' K vals h hn hT hgk hK0
                        have r0 : A.tmps[87]?.getD undef = vals 10 := Rg.slot h.1
                        have s0 : vals 10 = (.pointer (some ⟨qc, 2, none⟩)) := hn.1
                        have r1 : A.tmps[86]?.getD undef = vals 9 := Rg.slot h.2.1
                        have s1 : vals 9 = (.int .i64 (p : Int)) := hn.2.1
                        clear h hn hT hgk
                        simp [Oper.wp, execOp, go_sem, r0, r1, s0, s1, hp2, hp0]
                        exact hK0 _ _ (Rk.Keeps.refl _ _) rfl trivial
                      · intro A w' K vals h hn hT hgk hK0
                        have r0 : A.tmps[88]?.getD undef = vals 11 := Rg.slot h.1
                        have r1 : vals 11 = (.pointer (some ⟨qc, 2 + p, none⟩)) := hn.1
                        have c : w'.cell? ⟨qc, 2 + p, none⟩ = some (.slice om n km) := (BQc.out.keep (keeps_old hgk)).cell (2 + p) _ HR2.out
                        clear h hn hT hgk
                        simp [Oper.wp, execOp, go_sem, r0, r1, c]
                        exact hK0 _ _ (Rk.Keeps.refl _ _) rfl trivial
                      · intro A w' K vals h hn hT hgk hK0
                        have r0 : A.tmps[14]?.getD undef = .slice os2 ns2 ks2 := Rg.slot h.1
                        clear h hn hT hgk
                        simp [Oper.wp, execOp, go_sem, r0]
                        exact hK0 _ _ (Rk.Keeps.refl _ _) rfl trivial
                      · intro A w' K vals h hn hT hgk hK0
                        have r0 : A.tmps[77]?.getD undef = vals 0 := Rg.slot h.2.1
                        have r1 : A.tmps[84]?.getD undef = vals 7 := Rg.slot h.2.2.1
                        have r2 : A.tmps[85]?.getD undef = vals 8 := Rg.slot h.2.2.2.1
                        have r3 : A.tmps[89]?.getD undef = vals 12 := Rg.slot h.2.2.2.2.1
                        have r4 : A.tmps[90]?.getD undef = vals 13 := Rg.slot h.2.2.2.2.2.1
                        have s0 : vals 0 = .agg #[.slice ga n1 gka, .slice gb n2 gkb, .slice gc n3 gkc] := hn.1
                        have s1 : vals 7 = (.int .i64 z) := hn.2.1
                        have s2 : vals 8 = (.int .i64 (p : Int)) := hn.2.2.1
                        have s3 : vals 12 = (.slice om n km) := hn.2.2.2.1
                        have s4 : vals 13 = (.slice os2 ns2 ks2) := hn.2.2.2.2.1
                        have hb := (below_of_grown (keeps_old hgk))
                        have hsz := hgk.size
                        clear h hn hT hgk
                        simp [Oper.wp, go_sem, r0, r1, r2, r3, r4, s0, s1, s2, s3, s4]
                        refine (run_any g _ z (p : Int) _ _ M xs w' (TV.out.on hb) (IM.out.on hb) (IX.out.on hb)).mono ?_
                        rintro e w'' ⟨hv, hb⟩
                        obtain ⟨v, rfl, v1, v2, A1, B1, tq, c1, rfl, h1, h2, h3, h4⟩ := hv.val
                        exact hK0 _ _ (Rk.keep_of (grown_of_below hb _)) ⟨v1, v2, A1, B1, tq, c1, rfl, own_more h1 hsz, own_more h2 hsz, h3, h4⟩ trivial
                      · intro A w' K vals h hn hT hgk hK0
                        have r0 : A.tmps[91]?.getD undef = vals 14 := Rg.slot h.1
                        have n3 : RunT g z (p : Int) M xs wo.heap.size (vals 14) w' := hn.1
                        clear h hn hT hgk
                        simp [Oper.wp, execOp, go_sem, r0]
                        exact hK0 _ _ (Rk.Keeps.refl _ _) ⟨rfl, n3⟩ trivial
                      · intro A w' K vals h hn hT hgk hK0
                        have r0 : A.tmps[76]?.getD undef = vals 15 := Rg.slot h.1
                        obtain ⟨v1, v2, A1, B1, tq, c1, hv, -⟩ : RunT g z (p : Int) M xs wo.heap.size (vals 15) w' := hn.1.2
                        clear h hn hT hgk
                        simp [Oper.wp, execOp, go_sem, r0, hv]
                        refine hK0 _ _ (Rk.Keeps.refl _ _) ?_ trivial
                        show _ = tupAt17 (vals 15) 0
                        rw [hv]
                        rfl
                      · intro A w' K vals h hn hT hgk hK0
                        have r0 : A.tmps[76]?.getD undef = vals 15 := Rg.slot h.1
                        obtain ⟨v1, v2, A1, B1, tq, c1, hv, -⟩ : RunT g z (p : Int) M xs wo.heap.size (vals 15) w' := hn.1.2
                        clear h hn hT hgk
                        simp [Oper.wp, execOp, go_sem, r0, hv]
                        refine hK0 _ _ (Rk.Keeps.refl _ _) ?_ trivial
                        show _ = tupAt17 (vals 15) 1
                        rw [hv]
                        rfl
                      · intro A w' K vals h hn hT hgk hK0
                        clear h hn hT
                        simp [Oper.wp, execOp, go_sem]
                        exact hK0 _ _ (Rk.keep_of (World.grownBy_alloc _ _ _)) ⟨_, rfl, hgk.size⟩ ⟨_, rfl, Box.new _ _ _⟩
                      · intro A w' K vals h hn hT hgk hK0
                        have r0 : A.tmps[15]?.getD undef = vals 18 := Rg.slot h.1
                        have r1 : A.tmps[92]?.getD undef = vals 16 := Rg.slot h.2.1
                        obtain ⟨qp, hp, hbx⟩ : ∃ qp, vals 18 = .pointer (some ⟨qp, 0, none⟩) ∧ Box w' qp 40 #[.slice none 0 0, .slice none 0 0, .int .i64 0] := (hT rfl).1
                        obtain ⟨qp', hp', hlo⟩ : ∃ qp, vals 18 = .pointer (some ⟨qp, 0, none⟩) ∧ wo.heap.size ≤ qp := hn.1
                        have s6 : vals 16 = tupAt17 (vals 15) 0 := hn.2.1
                        obtain ⟨v1, v2, A1, B1, tq, c1, s5, ho1, ho2, -⟩ : RunT g z (p : Int) M xs wo.heap.size (vals 15) w' := hn.2.2.2.2.2.2.2.2.2.2.2.2.2.2.2.2.2.2.1.2
                        rw [s5] at s6
                        have s6 : vals 16 = .agg #[v1, v2, .int .i64 tq] := s6
                        obtain ⟨x1, y1, rfl, -⟩ := own_at ho1
                        obtain ⟨x2, y2, rfl, -⟩ := own_at ho2
                        obtain ⟨z1, hz1⟩ : ∃ k, A1.length = k := ⟨_, rfl⟩
                        obtain ⟨z2, hz2⟩ : ∃ k, B1.length = k := ⟨_, rfl⟩
                        rw [hz1, hz2] at s6
                        obtain rfl : qp' = qp := by rw [hp'] at hp; injection hp with hp; injection hp with hp; injection hp with hp
                        clear h hn hT s5 ho1 ho2 hz1 hz2
                        have qc0 : w'.cell? ⟨qp', 0, none⟩ = some (.slice none 0 0) := hbx.cell 0 _ rfl
                        have qc1 : w'.cell? ⟨qp', 1, none⟩ = some (.slice none 0 0) := hbx.cell 1 _ rfl
                        have qc2 : w'.cell? ⟨qp', 2, none⟩ = some (.int .i64 0) := hbx.cell 2 _ rfl
                        have qf0 : w'.frozen? ⟨qp', 0, none⟩ = false := hbx.frozen 0
                        have qf1 : w'.frozen? ⟨qp', 1, none⟩ = false := hbx.frozen 1
                        have qf2 : w'.frozen? ⟨qp', 2, none⟩ = false := hbx.frozen 2
                        simp [Oper.wp, execOp, go_sem, r0, r1, hp', s6, qc0, qc1, qc2, qf0, qf1, qf2]
                        exact hK0 undef _ (((keeps_set hbx hlo _ _).trans (keeps_set (hbx.set _ _) hlo _ _)).trans (keeps_set ((hbx.set _ _).set _ _) hlo _ _)) ⟨qp', _, _, _, hp', s6, by simpa using ((hbx.set 0 (.slice x1 z1 y1)).set 1 (.slice x2 z2 y2)).set 2 (.int .i64 tq)⟩ trivial
                    · refine ⟨?_, ?_, ?_, ?_, ?_, ?_, ?_, ?_, ?_, ?_, ?_, ?_, ?_, ?_, ?_, ?_, ?_, ?_, ?_, ?_, trivial⟩
                      · exact fun _ _ _ _ _ _ h => h
                      · exact fun _ _ _ _ _ _ h => h
                      · exact fun _ _ _ _ _ _ h => h
                      · exact fun _ _ _ _ _ _ h => h
                      · exact fun _ _ _ _ _ _ h => h
                      · exact fun _ _ _ _ _ _ h => h
                      · exact fun _ _ _ _ _ _ h => h
                      · exact fun _ _ _ _ _ _ h => h
                      · exact fun _ _ _ _ _ _ h => h
                      · exact fun _ _ _ _ _ _ h => h
                      · exact fun _ _ _ _ _ _ h => h
                      · exact fun _ _ _ _ _ _ h => h
                      · exact fun _ _ _ _ _ _ h => h
                      · exact fun _ _ _ _ _ _ h => h
                      · exact fun _ _ _ _ _ h ⟨v1, v2, A1, B1, tq, c1, hv, h1, h2, hr⟩ => ⟨v1, v2, A1, B1, tq, c1, hv, own_other h1 h (by decide), own_other h2 h (by decide), hr⟩
                      · exact fun _ _ _ _ _ h ⟨he, v1, v2, A1, B1, tq, c1, hv, h1, h2, hr⟩ => ⟨he, v1, v2, A1, B1, tq, c1, hv, own_other h1 h (by decide), own_other h2 h (by decide), hr⟩
                      · exact fun _ _ _ _ _ _ h => h
                      · exact fun _ _ _ _ _ _ h => h
                      · exact fun _ _ _ _ _ _ h => h
                      · exact fun _ _ _ _ _ h ⟨qp, x0, x1, x2, h1, h2, hb⟩ => ⟨qp, x0, x1, x2, h1, h2, hb.keep (Rk.grown_of h)⟩
                    · intro k v ds w w' hk h
                      match k, h with
                      | 18, h => exact ⟨h.choose, h.choose_spec.1, h.choose_spec.2.keep (Rk.grown_of hk)⟩
                      | 0, _ | 1, _ | 2, _ | 3, _ | 4, _ | 5, _ | 6, _ | 7, _ | 8, _ | 9, _ | 10, _ | 11, _ | 12, _ | 13, _ | 14, _ | 15, _ | 16, _ | 17, _ | _ + 19, _ => trivial
                    · skip
                      intro vals w8 G hgk hS hG
                      obtain ⟨v1, v2, A1, B1, tq, c1, s5, ho1, ho2, -, hpp⟩ : RunT g z (p : Int) M xs wo.heap.size (vals 15) w8 := hS.2.2.2.2.2.2.2.2.2.2.2.2.2.2.2.1.2
                      have s6 : vals 16 = tupAt17 (vals 15) 0 := hS.2.2.2.2.2.2.2.2.2.2.2.2.2.2.2.2.1
                      have s7 : vals 17 = tupAt17 (vals 15) 1 := hS.2.2.2.2.2.2.2.2.2.2.2.2.2.2.2.2.2.1
                      obtain ⟨qp, x0', x1', x2', s8, s9, hbp⟩ : ∃ qp x0 x1 x2, vals 18 = .pointer (some ⟨qp, 0, none⟩) ∧ vals 16 = .agg #[x0, x1, x2] ∧ Box w8 qp 40 #[x0, x1, x2] := hS.2.2.2.2.2.2.2.2.2.2.2.2.2.2.2.2.2.2.2.1
                      clear hS
                      rw [s5] at s6 s7
                      have s6b : vals 16 = .agg #[v1, v2, .int .i64 tq] := s6
                      have s7b : vals 17 = .int .i64 ((c1 : Nat) : Int) := s7
                      rw [s6b] at s9
                      clear s6 s7
                      obtain ⟨rfl, rfl, rfl⟩ : v1 = x0' ∧ v2 = x1' ∧ Value.int .i64 tq = x2' := by
                        injection s9 with s9
                        injection s9 with s9
                        injection s9 with h1 s9
                        injection s9 with h2 s9
                        injection s9 with h3 s9
                        exact ⟨h1, h2, h3⟩
                      have hb := below_of_grown (keeps_old hgk)
                      replace HB6 := Lib.hid (HB6.out.trans (hb.mono HB6.out.size))
                      replace BQi := Lib.hid (BQi.out.keep (grown_of_below hb none))
                      clear hb hgk
                      obtain ⟨hc0, htp, hA, hB⟩ := P.play_won HR.out HN.out HPP.out HLI.out HWN.out HML.out HZL.out HXL.out hpp
                      have hwi := P.within_of hA hB
                      have hln := play_len hpp
                      subst hc0 htp
                      have hi1 := ho1.ints (by omega)
                      have hi2 := ho2.ints (by omega)
                      obtain ⟨a1, y1, rfl, -⟩ := own_at ho1
                      obtain ⟨a2, y2, rfl, -⟩ := own_at ho2
                      have kA := rOf w8 _ _ hi1
                      have kB := rOf w8 _ _ hi2
                      obtain ⟨z1, hz1⟩ : ∃ k, A1.length = k := ⟨_, rfl⟩
                      obtain ⟨z2, hz2⟩ : ∃ k, B1.length = k := ⟨_, rfl⟩
                      rw [hz1] at kA hbp
                      rw [hz2] at kB hbp
                      obtain ⟨sA, hsA⟩ : ∃ s, P.ofL A1 = s := ⟨_, rfl⟩
                      obtain ⟨sB, hsB⟩ : ∃ s, P.ofL B1 = s := ⟨_, rfl⟩
                      rw [hsA] at kA hwi
                      rw [hsB] at kB hwi
                      rw [HSL.out] at hwi
                      have kO := rOr w8 sA sB
                      have kN := rIn w8 (sA ||| sB) sL
                      rw [decide_eq_true hwi] at kN
                      have BQp := Lib.hid hbp
                      refine hG ?_
                      clear hG
                      simp [Rg.putAll, Oper.wp, execOp, go_sem, s7b, s8]
                      clear s5 s6b s7b s8 s9 hz1 hz2 hsA hsB hwi hln hA hB hpp ho1 ho2 hi1 hi2 hbp
                      have p0 : ∀ (d : Nat) (os : Array Obj), (grow (redrawn w8 d) os).cell? ⟨qp, 0, none⟩ = some (.slice a1 z1 y1) := fun d os => (BQp.out.keep (grown_of_below (below_regrown w8 d os) none)).cell 0 _ rfl
                      have p1 : ∀ (d : Nat) (os : Array Obj), (grow (redrawn w8 d) os).cell? ⟨qp, 1, none⟩ = some (.slice a2 z2 y2) := fun d os => (BQp.out.keep (grown_of_below (below_regrown w8 d os) none)).cell 1 _ rfl
                      have p2 : ∀ (d : Nat) (os : Array Obj), (grow (redrawn w8 d) os).cell? ⟨qp, 2, none⟩ = some (.int .i64 (p : Int)) := fun d os => (BQp.out.keep (grown_of_below (below_regrown w8 d os) none)).cell 2 _ rfl
                      have i0 : ∀ (d : Nat) (os : Array Obj), (grow (redrawn w8 d) os).cell? ⟨qi, 0, none⟩ = some (.int .u64 (P.wrd sL 0)) := fun d os => (BQi.out.keep (grown_of_below (below_regrown w8 d os) none)).cell 0 _ rfl
                      have i1 : ∀ (d : Nat) (os : Array Obj), (grow (redrawn w8 d) os).cell? ⟨qi, 1, none⟩ = some (.int .u64 (P.wrd sL 1)) := fun d os => (BQi.out.keep (grown_of_below (below_regrown w8 d os) none)).cell 1 _ rfl
                      have i2 : ∀ (d : Nat) (os : Array Obj), (grow (redrawn w8 d) os).cell? ⟨qi, 2, none⟩ = some (.int .u64 (P.wrd sL 2)) := fun d os => (BQi.out.keep (grown_of_below (below_regrown w8 d os) none)).cell 2 _ rfl
                      have i3 : ∀ (d : Nat) (os : Array Obj), (grow (redrawn w8 d) os).cell? ⟨qi, 3, none⟩ = some (.int .u64 (P.wrd sL 3)) := fun d os => (BQi.out.keep (grown_of_below (below_regrown w8 d os) none)).cell 3 _ rfl
                      go_wp2_with fail
                      refine wp_region_quiet_below (by kernel_rfl) (by kernel_rfl) ?_
                      repeat (first | go_big_quiet_step (first | (go_at_call 7; with_reducible exact kA _ _) | (go_at_call 7; with_reducible exact kB _ _) | (go_at_call 9; with_reducible exact kO _ _) | (go_at_call 10; with_reducible exact kN _ _)) | quiet_step (first | (go_at_call 7; with_reducible exact kA _ _) | (go_at_call 7; with_reducible exact kB _ _) | (go_at_call 9; with_reducible exact kO _ _) | (go_at_call 10; with_reducible exact kN _ _)))
                      refine wpQuiet_nil ?_
                      intro _ hw'
                      obtain ⟨⟨dq, osq⟩, hw''⟩ := hw'
                      subst hw''
                      clear p0 p1 p2 i0 i1 i2 i3 kA kB kO kN
                      replace HB6 := Lib.hid (HB6.out.trans ((below_regrown w8 dq osq).mono HB6.out.size))
                      go_wp2_with fail
                      go_roundw
                      case rel => exact ⟨k + 1, by go_num, by omega, HB6.out⟩
                      case measure => simp [intOf]; omega
                · have fl : decide ((k : Int) < 4) = false := decide_eq_false (by omega)
                  go_wp2_with fail
                  go_roundw
                  case rel => exact ⟨i + 1, by go_num, by omega, HB5.out.trans (HB6.out.mono HB5.out.size)⟩
                  case measure => simp [intOf]; omega
              · have fk : decide ((k : Int) < (m : Int)) = false := decide_eq_false (by omega)
                go_wp2_with fail
                go_roundw
                case rel => exact ⟨i + 1, by go_num, by omega, HB5.out.trans (HB6.out.mono HB5.out.size)⟩
                case measure => simp [intOf]; omega
          · have fj : decide ((i : Int) < 30) = false := decide_eq_false (by omega)
            go_wp2_with fail
            clear cr
            go_roundw
            case rel => exact ⟨p + 1, by go_num, by omega, W4_.out⟩
            case measure => simp [intOf]; omega
        · have fi : decide ((i : Int) < (ln : Int)) = false := decide_eq_false (by omega)
          go_wp2_with fail
          clear cr
          go_roundw
          case rel => exact ⟨p + 1, by go_num, by omega, W4_.out⟩
          case measure => simp [intOf]; omega
    · have fp : decide ((p : Int) < 2) = false := decide_eq_false (by omega)
      go_wp2_with fail
      go_ret
      exact ⟨rfl, W.out⟩

theorem won_law (g : P.G) (v sv : Value) (ls : List (List Int)) (w : World) (hv : GameV w v g) (hs : Scr w sv ls) (hT : Tab w) : Calls Tryd.prog 3 #[v, sv] w fun e w' => e = .returned (.bool true) ∧ Below w.heap.size w w' := by
  cases hok : g.ok with
  | true => exact won_right g ((P.G.ok_iff g).1 hok) v sv ls w hv hs hT
  | false => exact won_wrong g hok v sv w hv
end W
end Go.Proofs.YtghdjkpndhcplaaDoor
