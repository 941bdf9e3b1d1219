/- GameShares: the walk. -/
import Derived.Test.YtlbikfimfaecnaaDoorShown
import Derived.Test.YtlbikfimfaecnaaDoorSharesP
import Derived.Test.YtlbikfimfaecnaaDoorRights
import Derived.Test.YtlbikfimfaecnaaDoorDual
import Derived.Test.YtlbikfimfaecnaaDoorCopies
import Derived.Test.YtlbikfimfaecnaaDoorOwns
import Derived.Deep.Cut
import Derived.Laws.StructEq
import Derived.Deep.RegionWith
import Derived.Deep.RegionHeld3
namespace Go.Proofs.YtlbikfimfaecnaaDoor
open Go.RowKit Go.Sort
namespace W

theorem set_neq (s t : BitVec 256) (w : World) : (binOp .neq 47 (.agg #[.int .u64 (P.wrd s 0), .int .u64 (P.wrd s 1), .int .u64 (P.wrd s 2), .int .u64 (P.wrd s 3)]) (.agg #[.int .u64 (P.wrd t 0), .int .u64 (P.wrd t 1), .int .u64 (P.wrd t 2), .int .u64 (P.wrd t 3)])).run Tryd.prog w = .ok (.bool (!decide (s = t))) w := by
  have h := set_eq s t w
  rw [run_eql_struct] at h
  rw [run_neq_struct]
  cases he : (Op.equalIn 10000 47 (.agg #[.int .u64 (P.wrd s 0), .int .u64 (P.wrd s 1), .int .u64 (P.wrd s 2), .int .u64 (P.wrd s 3)]) (.agg #[.int .u64 (P.wrd t 0), .int .u64 (P.wrd t 1), .int .u64 (P.wrd t 2), .int .u64 (P.wrd t 3)])).run Tryd.prog w with
  | ok b w' =>
    rw [he] at h
    simp only [Result.andThen_ok, Result.ok.injEq, Value.bool.injEq] at h ⊢
    rw [h.1, h.2]
    exact ⟨rfl, rfl⟩
  | _ => rw [he] at h; simp [Result.andThen] at h
theorem right_zero {g : P.G} (h : g.Right) : g.right = (0, 0) := by
  have key : ∀ (f i : Nat), (∀ j, i ≤ j → j < i + f → g.check j = 0) → g.first f i = (0, 0) := by
    intro f
    induction f with
    | zero => intro i _; rfl
    | succ f ih =>
      intro i hc
      rw [P.G.first_ok (hc i (Nat.le_refl _) (by omega))]
      exact ih (i + 1) fun j h1 h2 => hc j (by omega) (by omega)
  unfold P.G.right
  rw [if_neg (by have := h.prio; have := h.moves; omega), if_neg (by have := h.pos; have := h.many; omega)]
  exact key _ 0 fun j _ hj => h.each j (by omega)
set_option maxRecDepth 100000 in
set_option maxHeartbeats 4000000 in
theorem shares_bad (g : P.G) (v : Value) (w : World) (hv : GameV w v g) (hT : Tab w) (hok : g.ok = false) : Calls Tryd.prog 11 #[v] w fun e w' => e = .returned (.bool true) ∧ Below w.heap.size w w' := by
  have HV := Lib.hid hv
  obtain ⟨a, b, c, rfl, -⟩ := hv
  have T := Lib.hid hT
  have W := Lib.hid (Below.refl w.heap.size w)
  have hr : g.right.2 ≠ 0 := by unfold P.G.ok at hok; simpa using hok
  have HR := Lib.hid hr
  clear hT hok hr
  go_enter Tryd.func11, Tryd.ntmps11
  go_wp2_with fail
  have bq : Box (w.alloc (.cells #[a, b, c] 25)) w.heap.size 25 #[a, b, c] := Box.new _ _ _
  have hgq := World.grownBy_alloc w (.cells #[a, b, c] 25) none
  have T := Lib.hid (T.out.on (below_of_grown hgq))
  have W := Lib.hid (W.out.trans ((below_of_grown hgq).mono W.out.size))
  generalize (w.alloc (.cells #[a, b, c] 25)) = w1 at bq T W ⊢
  generalize w.heap.size = qg at bq ⊢
  have BQg := Lib.hid bq
  clear bq hgq
  refine (shown_any _ T.out).mono ?_
  rintro e w2 ⟨rfl, hb⟩
  have BQg := Lib.hid (BQg.out.keep (grown_of_below hb none))
  have W := Lib.hid (W.out.trans (hb.mono W.out.size))
  clear hb T
  have bb := BQg.out
  have pc0 : w2.cell? ⟨qg, 0, none⟩ = some a := bb.cell 0 _ rfl
  have pc1 : w2.cell? ⟨qg, 1, none⟩ = some b := bb.cell 1 _ rfl
  have pc2 : w2.cell? ⟨qg, 2, none⟩ = some c := bb.cell 2 _ rfl
  clear bb
  go_wp2_with fail
  refine (right_any g _ _ (HV.out.on W.out)).mono ?_
  rintro e w3 ⟨rfl, hb⟩
  have W := Lib.hid (W.out.trans (hb.mono W.out.size))
  have hne : ((((g.right.2 : Nat) : Int)) != 0) = true := by
    have := HR.out
    rw [bne_iff_ne]
    omega
  clear hb pc0 pc1 pc2
  generalize ((g.right.1 : Nat) : Int) = r1
  generalize ((g.right.2 : Nat) : Int) = r2 at hne ⊢
  go_wp2_with fail
  exact bodyPost_ret (v := .bool true) (by simp [results, Tryd.results11, go_sem]) rfl ⟨rfl, W.out⟩

theorem cOr_ (W : World) (s t : BitVec 256) (d : Nat) (os : Array Obj) : Calls Tryd.prog 35 #[.agg #[.int .u64 (P.wrd s 0), .int .u64 (P.wrd s 1), .int .u64 (P.wrd s 2), .int .u64 (P.wrd s 3)], .agg #[.int .u64 (P.wrd t 0), .int .u64 (P.wrd t 1), .int .u64 (P.wrd t 2), .int .u64 (P.wrd t 3)]] (grow (redrawn W d) os) fun e w'' => e = .returned (.agg #[.int .u64 (P.wrd (s ||| t) 0), .int .u64 (P.wrd (s ||| t) 1), .int .u64 (P.wrd (s ||| t) 2), .int .u64 (P.wrd (s ||| t) 3)]) ∧ ∃ p : Regrown, w'' = grow (redrawn W p.d) p.os := Calls.regrown_of (or_any s t _)
theorem cAnd_ (W : World) (s t : BitVec 256) (d : Nat) (os : Array Obj) : Calls Tryd.prog 31 #[.agg #[.int .u64 (P.wrd s 0), .int .u64 (P.wrd s 1), .int .u64 (P.wrd s 2), .int .u64 (P.wrd s 3)], .agg #[.int .u64 (P.wrd t 0), .int .u64 (P.wrd t 1), .int .u64 (P.wrd t 2), .int .u64 (P.wrd t 3)]] (grow (redrawn W d) os) fun e w'' => e = .returned (.agg #[.int .u64 (P.wrd (s &&& t) 0), .int .u64 (P.wrd (s &&& t) 1), .int .u64 (P.wrd (s &&& t) 2), .int .u64 (P.wrd (s &&& t) 3)]) ∧ ∃ p : Regrown, w'' = grow (redrawn W p.d) p.os := Calls.regrown_of (and_any s t _)
theorem wrd_none (j : Nat) (hj : j < 4) : P.wrd 0#256 j = 0 := by
  match j, hj with
  | 0, _ | 1, _ | 2, _ | 3, _ => decide +kernel
structure InvS (g : P.G) (w : World) (qg qz qo qa qs : Nat) (a b c : Value) (wr : World) (p : Nat) : Prop where
  fs : Box wr qs 47 #[.int .u64 (P.wrd (g.less p) 0), .int .u64 (P.wrd (g.less p) 1), .int .u64 (P.wrd (g.less p) 2), .int .u64 (P.wrd (g.less p) 3)]
  fg : Box wr qg 25 #[a, b, c]
  fz : Box wr qz 47 #[.int .u64 (P.wrd (g.own 0) 0), .int .u64 (P.wrd (g.own 0) 1), .int .u64 (P.wrd (g.own 0) 2), .int .u64 (P.wrd (g.own 0) 3)]
  fo : Box wr qo 47 #[.int .u64 (P.wrd (g.own 1) 0), .int .u64 (P.wrd (g.own 1) 1), .int .u64 (P.wrd (g.own 1) 2), .int .u64 (P.wrd (g.own 1) 3)]
  fa : Box wr qa 47 #[.int .u64 (P.wrd (P.full g.owner.length) 0), .int .u64 (P.wrd (P.full g.owner.length) 1), .int .u64 (P.wrd (P.full g.owner.length) 2), .int .u64 (P.wrd (P.full g.owner.length) 3)]
  fw : Below w.heap.size w wr
set_option maxRecDepth 100000 in
set_option maxHeartbeats 4000000 in
theorem shares_ok (g : P.G) (v : Value) (w : World) (hv : GameV w v g) (hT : Tab w) (hok : g.Right) : Calls Tryd.prog 11 #[v] w fun e w' => e = .returned (.bool true) ∧ Below w.heap.size w w' := by
  have HV := Lib.hid hv
  obtain ⟨a, b, c, rfl, ⟨ao, ka, rfl, hal, -⟩, -⟩ := hv
  have T := Lib.hid hT
  have W := Lib.hid (Below.refl w.heap.size w)
  have HR := Lib.hid hok
  clear hT hok
  go_enter Tryd.func11, Tryd.ntmps11
  go_wp2_with fail
  have bq : Box (w.alloc (.cells #[.slice ao g.owner.length ka, b, c] 25)) w.heap.size 25 #[.slice ao g.owner.length ka, b, c] := Box.new _ _ _
  have hgq := World.grownBy_alloc w (.cells #[.slice ao g.owner.length ka, b, c] 25) none
  have T := Lib.hid (T.out.on (below_of_grown hgq))
  have W := Lib.hid (W.out.trans ((below_of_grown hgq).mono W.out.size))
  generalize (w.alloc (.cells #[.slice ao g.owner.length ka, b, c] 25)) = w1 at bq T W ⊢
  generalize w.heap.size = qg at bq ⊢
  have BQg := Lib.hid bq
  clear bq hgq
  refine (shown_any _ T.out).mono ?_
  rintro e w2 ⟨rfl, hb⟩
  have BQg := Lib.hid (BQg.out.keep (grown_of_below hb none))
  have W := Lib.hid (W.out.trans (hb.mono W.out.size))
  clear hb T
  have bb := BQg.out
  have pc0 : w2.cell? ⟨qg, 0, none⟩ = some (.slice ao g.owner.length ka) := bb.cell 0 _ rfl
  have pc1 : w2.cell? ⟨qg, 1, none⟩ = some b := bb.cell 1 _ rfl
  have pc2 : w2.cell? ⟨qg, 2, none⟩ = some c := bb.cell 2 _ rfl
  clear bb
  go_wp2_with fail
  refine (right_any g _ _ (HV.out.on W.out)).mono ?_
  rintro e w3 ⟨rfl, hb⟩
  have BQg := Lib.hid (BQg.out.keep (grown_of_below hb none))
  have W := Lib.hid (W.out.trans (hb.mono W.out.size))
  rw [right_zero HR.out]
  clear hb pc0 pc1 pc2
  go_upto_region 5 with (fail)
  have bb := BQg.out
  have pc0 : w3.cell? ⟨qg, 0, none⟩ = some (.slice ao g.owner.length ka) := bb.cell 0 _ rfl
  have pc1 : w3.cell? ⟨qg, 1, none⟩ = some b := bb.cell 1 _ rfl
  have pc2 : w3.cell? ⟨qg, 2, none⟩ = some c := bb.cell 2 _ rfl
  clear bb
  go_wp2_with fail
  refine (own_any g _ 0 _ (HV.out.on W.out)).mono ?_
  rintro e w4 ⟨rfl, hb⟩
  rw [show P.places 0 g.owner g.owner.length = g.own 0 from rfl]
  have BQg := Lib.hid (BQg.out.keep (grown_of_below hb none))
  have W := Lib.hid (W.out.trans (hb.mono W.out.size))
  clear hb pc0 pc1 pc2
  go_upto_region 6 with (fail)
  have bq : Box (w4.alloc (.cells #[.int .u64 (P.wrd (g.own 0) 0), .int .u64 (P.wrd (g.own 0) 1), .int .u64 (P.wrd (g.own 0) 2), .int .u64 (P.wrd (g.own 0) 3)] 47)) w4.heap.size 47 #[.int .u64 (P.wrd (g.own 0) 0), .int .u64 (P.wrd (g.own 0) 1), .int .u64 (P.wrd (g.own 0) 2), .int .u64 (P.wrd (g.own 0) 3)] := Box.new _ _ _
  have hgq := World.grownBy_alloc w4 (.cells #[.int .u64 (P.wrd (g.own 0) 0), .int .u64 (P.wrd (g.own 0) 1), .int .u64 (P.wrd (g.own 0) 2), .int .u64 (P.wrd (g.own 0) 3)] 47) none
  have BQg := Lib.hid (BQg.out.keep hgq)
  have W := Lib.hid (W.out.trans ((below_of_grown hgq).mono W.out.size))
  generalize (w4.alloc (.cells #[.int .u64 (P.wrd (g.own 0) 0), .int .u64 (P.wrd (g.own 0) 1), .int .u64 (P.wrd (g.own 0) 2), .int .u64 (P.wrd (g.own 0) 3)] 47)) = w5 at bq BQg W ⊢
  generalize w4.heap.size = qz at bq ⊢
  have BQz := Lib.hid bq
  clear bq hgq
  have bb := BQg.out
  have pc0 : w5.cell? ⟨qg, 0, none⟩ = some (.slice ao g.owner.length ka) := bb.cell 0 _ rfl
  have pc1 : w5.cell? ⟨qg, 1, none⟩ = some b := bb.cell 1 _ rfl
  have pc2 : w5.cell? ⟨qg, 2, none⟩ = some c := bb.cell 2 _ rfl
  clear bb
  go_wp2_with fail
  refine (own_any g _ 1 _ (HV.out.on W.out)).mono ?_
  rintro e w6 ⟨rfl, hb⟩
  rw [show P.places 1 g.owner g.owner.length = g.own 1 from rfl]
  have BQg := Lib.hid (BQg.out.keep (grown_of_below hb none))
  have W := Lib.hid (W.out.trans (hb.mono W.out.size))
  have BQz := Lib.hid (BQz.out.keep (grown_of_below hb none))
  clear hb pc0 pc1 pc2
  go_upto_region 7 with (fail)
  have bq : Box (w6.alloc (.cells #[.int .u64 (P.wrd (g.own 1) 0), .int .u64 (P.wrd (g.own 1) 1), .int .u64 (P.wrd (g.own 1) 2), .int .u64 (P.wrd (g.own 1) 3)] 47)) w6.heap.size 47 #[.int .u64 (P.wrd (g.own 1) 0), .int .u64 (P.wrd (g.own 1) 1), .int .u64 (P.wrd (g.own 1) 2), .int .u64 (P.wrd (g.own 1) 3)] := Box.new _ _ _
  have hgq := World.grownBy_alloc w6 (.cells #[.int .u64 (P.wrd (g.own 1) 0), .int .u64 (P.wrd (g.own 1) 1), .int .u64 (P.wrd (g.own 1) 2), .int .u64 (P.wrd (g.own 1) 3)] 47) none
  have BQg := Lib.hid (BQg.out.keep hgq)
  have W := Lib.hid (W.out.trans ((below_of_grown hgq).mono W.out.size))
  have BQz := Lib.hid (BQz.out.keep hgq)
  generalize (w6.alloc (.cells #[.int .u64 (P.wrd (g.own 1) 0), .int .u64 (P.wrd (g.own 1) 1), .int .u64 (P.wrd (g.own 1) 2), .int .u64 (P.wrd (g.own 1) 3)] 47)) = w7 at bq BQg W BQz ⊢
  generalize w6.heap.size = qo at bq ⊢
  have BQo := Lib.hid bq
  clear bq hgq
  have bb := BQg.out
  have pc0 : w7.cell? ⟨qg, 0, none⟩ = some (.slice ao g.owner.length ka) := bb.cell 0 _ rfl
  have pc1 : w7.cell? ⟨qg, 1, none⟩ = some b := bb.cell 1 _ rfl
  have pc2 : w7.cell? ⟨qg, 2, none⟩ = some c := bb.cell 2 _ rfl
  clear bb
  go_wp2_with fail
  refine (full_any _ _).mono ?_
  rintro e w8 ⟨rfl, hb⟩
  have BQg := Lib.hid (BQg.out.keep (grown_of_below hb none))
  have W := Lib.hid (W.out.trans (hb.mono W.out.size))
  have BQz := Lib.hid (BQz.out.keep (grown_of_below hb none))
  have BQo := Lib.hid (BQo.out.keep (grown_of_below hb none))
  clear hb pc0 pc1 pc2
  go_upto_region 8 with (fail)
  have bq : Box (w8.alloc (.cells #[.int .u64 (P.wrd (P.full g.owner.length) 0), .int .u64 (P.wrd (P.full g.owner.length) 1), .int .u64 (P.wrd (P.full g.owner.length) 2), .int .u64 (P.wrd (P.full g.owner.length) 3)] 47)) w8.heap.size 47 #[.int .u64 (P.wrd (P.full g.owner.length) 0), .int .u64 (P.wrd (P.full g.owner.length) 1), .int .u64 (P.wrd (P.full g.owner.length) 2), .int .u64 (P.wrd (P.full g.owner.length) 3)] := Box.new _ _ _
  have hgq := World.grownBy_alloc w8 (.cells #[.int .u64 (P.wrd (P.full g.owner.length) 0), .int .u64 (P.wrd (P.full g.owner.length) 1), .int .u64 (P.wrd (P.full g.owner.length) 2), .int .u64 (P.wrd (P.full g.owner.length) 3)] 47) none
  have BQg := Lib.hid (BQg.out.keep hgq)
  have W := Lib.hid (W.out.trans ((below_of_grown hgq).mono W.out.size))
  have BQz := Lib.hid (BQz.out.keep hgq)
  have BQo := Lib.hid (BQo.out.keep hgq)
  generalize (w8.alloc (.cells #[.int .u64 (P.wrd (P.full g.owner.length) 0), .int .u64 (P.wrd (P.full g.owner.length) 1), .int .u64 (P.wrd (P.full g.owner.length) 2), .int .u64 (P.wrd (P.full g.owner.length) 3)] 47)) = w9 at bq BQg W BQz BQo ⊢
  generalize w8.heap.size = qa at bq ⊢
  have BQa := Lib.hid bq
  clear bq hgq
  go_upto_region 9 with (fail)
  have lz := BQz.out.lt
  have lo := BQo.out.lt
  have la := BQa.out.lt
  have lw := W.out.size
  have lg := BQg.out.lt
  have bq : Box (w9.alloc (.cells #[.int .u64 0, .int .u64 0, .int .u64 0, .int .u64 0] 47)) w9.heap.size 47 #[.int .u64 0, .int .u64 0, .int .u64 0, .int .u64 0] := Box.new _ _ _
  have hgq := World.grownBy_alloc w9 (.cells #[.int .u64 0, .int .u64 0, .int .u64 0, .int .u64 0] 47) none
  have BQg := Lib.hid (BQg.out.keep hgq)
  have W := Lib.hid (W.out.trans ((below_of_grown hgq).mono W.out.size))
  have BQz := Lib.hid (BQz.out.keep hgq)
  have BQo := Lib.hid (BQo.out.keep hgq)
  have BQa := Lib.hid (BQa.out.keep hgq)
  generalize (w9.alloc (.cells #[.int .u64 0, .int .u64 0, .int .u64 0, .int .u64 0] 47)) = w10 at bq BQg W BQz BQo BQa ⊢
  generalize w9.heap.size = qs at bq lz lo la lw lg ⊢
  have BQs := Lib.hid bq
  clear bq hgq
  have LZ := Lib.hid lz
  have LO := Lib.hid lo
  have LA := Lib.hid la
  have LW := Lib.hid lw
  have LG := Lib.hid lg
  clear lz lo la lw lg
  have hs0 : Box w10 qs 47 #[.int .u64 (P.wrd (g.less 0) 0), .int .u64 (P.wrd (g.less 0) 1), .int .u64 (P.wrd (g.less 0) 2), .int .u64 (P.wrd (g.less 0) 3)] := by
    show Box w10 qs 47 #[.int .u64 (P.wrd 0#256 0), .int .u64 (P.wrd 0#256 1), .int .u64 (P.wrd 0#256 2), .int .u64 (P.wrd 0#256 3)]
    rw [wrd_none 0 (by decide), wrd_none 1 (by decide), wrd_none 2 (by decide), wrd_none 3 (by decide)]
    exact BQs.out
  have IV := Lib.hid (InvS.mk hs0 BQg.out BQz.out BQo.out BQa.out W.out)
  clear hs0
  go_wp2_with fail
  go_loopw [10] (fun i wr => ∃ p : Nat, p ≤ 8 ∧ i = .int .i64 p ∧ InvS g w qg qz qo qa qs (.slice ao g.owner.length ka) b c wr p) (fun i _ => 8 - (intOf i).toNat)
  case atStart => exact ⟨0, by decide, rfl, IV.out⟩
  case round =>
    obtain ⟨p, hp, rfl, hI⟩ := hrel
    have BQs := Lib.hid hI.fs
    have BQg := Lib.hid hI.fg
    have BQz := Lib.hid hI.fz
    have BQo := Lib.hid hI.fo
    have BQa := Lib.hid hI.fa
    have W := Lib.hid hI.fw
    clear hI
    have hp0 : (0 : Int) ≤ (p : Int) := Int.natCast_nonneg _
    by_cases hlt : p < 8
    · have fk : decide ((p : Int) ≤ 7) = true := decide_eq_true (by omega)
      have bb := BQg.out
      have pc0 : wr.cell? ⟨qg, 0, none⟩ = some (.slice ao g.owner.length ka) := bb.cell 0 _ rfl
      have pc1 : wr.cell? ⟨qg, 1, none⟩ = some b := bb.cell 1 _ rfl
      have pc2 : wr.cell? ⟨qg, 2, none⟩ = some c := bb.cell 2 _ rfl
      clear bb
      go_wp2_with fail
      refine (at_any g _ (p : Int) _ (HV.out.on W.out)).mono ?_
      rintro e wa ⟨rfl, hb⟩
      rw [show P.places (p : Int) g.prio g.prio.length = g.atp (p : Int) from rfl]
      have BQg := Lib.hid (BQg.out.keep (grown_of_below hb none))
      have W := Lib.hid (W.out.trans (hb.mono W.out.size))
      have BQz := Lib.hid (BQz.out.keep (grown_of_below hb none))
      have BQo := Lib.hid (BQo.out.keep (grown_of_below hb none))
      have BQa := Lib.hid (BQa.out.keep (grown_of_below hb none))
      have BQs := Lib.hid (BQs.out.keep (grown_of_below hb none))
      clear hb pc0 pc1 pc2
      go_upto_region 13 with (fail)
      have bq : Box (wa.alloc (.cells #[.int .u64 (P.wrd (g.atp (p : Int)) 0), .int .u64 (P.wrd (g.atp (p : Int)) 1), .int .u64 (P.wrd (g.atp (p : Int)) 2), .int .u64 (P.wrd (g.atp (p : Int)) 3)] 47)) wa.heap.size 47 #[.int .u64 (P.wrd (g.atp (p : Int)) 0), .int .u64 (P.wrd (g.atp (p : Int)) 1), .int .u64 (P.wrd (g.atp (p : Int)) 2), .int .u64 (P.wrd (g.atp (p : Int)) 3)] := Box.new _ _ _
      have hgq := World.grownBy_alloc wa (.cells #[.int .u64 (P.wrd (g.atp (p : Int)) 0), .int .u64 (P.wrd (g.atp (p : Int)) 1), .int .u64 (P.wrd (g.atp (p : Int)) 2), .int .u64 (P.wrd (g.atp (p : Int)) 3)] 47) none
      have BQg := Lib.hid (BQg.out.keep hgq)
      have W := Lib.hid (W.out.trans ((below_of_grown hgq).mono W.out.size))
      have BQz := Lib.hid (BQz.out.keep hgq)
      have BQo := Lib.hid (BQo.out.keep hgq)
      have BQa := Lib.hid (BQa.out.keep hgq)
      have BQs := Lib.hid (BQs.out.keep hgq)
      generalize (wa.alloc (.cells #[.int .u64 (P.wrd (g.atp (p : Int)) 0), .int .u64 (P.wrd (g.atp (p : Int)) 1), .int .u64 (P.wrd (g.atp (p : Int)) 2), .int .u64 (P.wrd (g.atp (p : Int)) 3)] 47)) = wb at bq BQg W BQz BQo BQa BQs ⊢
      generalize wa.heap.size = qq at bq ⊢
      have BQq := Lib.hid bq
      clear bq hgq
      have bb := BQs.out
      have sc0 : wb.cell? ⟨qs, 0, none⟩ = some (.int .u64 (P.wrd (g.less p) 0)) := bb.cell 0 _ rfl
      have sc1 : wb.cell? ⟨qs, 1, none⟩ = some (.int .u64 (P.wrd (g.less p) 1)) := bb.cell 1 _ rfl
      have sc2 : wb.cell? ⟨qs, 2, none⟩ = some (.int .u64 (P.wrd (g.less p) 2)) := bb.cell 2 _ rfl
      have sc3 : wb.cell? ⟨qs, 3, none⟩ = some (.int .u64 (P.wrd (g.less p) 3)) := bb.cell 3 _ rfl
      clear bb
      have bb := BQq.out
      have qc0 : wb.cell? ⟨qq, 0, none⟩ = some (.int .u64 (P.wrd (g.atp (p : Int)) 0)) := bb.cell 0 _ rfl
      have qc1 : wb.cell? ⟨qq, 1, none⟩ = some (.int .u64 (P.wrd (g.atp (p : Int)) 1)) := bb.cell 1 _ rfl
      have qc2 : wb.cell? ⟨qq, 2, none⟩ = some (.int .u64 (P.wrd (g.atp (p : Int)) 2)) := bb.cell 2 _ rfl
      have qc3 : wb.cell? ⟨qq, 3, none⟩ = some (.int .u64 (P.wrd (g.atp (p : Int)) 3)) := bb.cell 3 _ rfl
      clear bb
      have ez : ∀ w, (binOp .neq 47 (.agg #[.int .u64 0, .int .u64 0, .int .u64 0, .int .u64 0]) (.agg #[.int .u64 0, .int .u64 0, .int .u64 0, .int .u64 0])).run Tryd.prog w = .ok (.bool false) w := fun w => by
        have h := set_neq 0#256 0#256 w
        rw [wrd_none 0 (by decide), wrd_none 1 (by decide), wrd_none 2 (by decide), wrd_none 3 (by decide), decide_eq_true rfl] at h
        exact h
      go_wp2_with fail
      refine (and_any (g.less p) (g.atp (p : Int)) _).mono ?_
      rintro e wc ⟨rfl, hb⟩
      rw [P.G.less_and HR.out p, wrd_none 0 (by decide), wrd_none 1 (by decide), wrd_none 2 (by decide), wrd_none 3 (by decide)]
      have BQg := Lib.hid (BQg.out.keep (grown_of_below hb none))
      have W := Lib.hid (W.out.trans (hb.mono W.out.size))
      have BQz := Lib.hid (BQz.out.keep (grown_of_below hb none))
      have BQo := Lib.hid (BQo.out.keep (grown_of_below hb none))
      have BQa := Lib.hid (BQa.out.keep (grown_of_below hb none))
      have BQs := Lib.hid (BQs.out.keep (grown_of_below hb none))
      have BQq := Lib.hid (BQq.out.keep (grown_of_below hb none))
      clear hb sc0 sc1 sc2 sc3 qc0 qc1 qc2 qc3
      have bb := BQs.out
      have sc0 : wc.cell? ⟨qs, 0, none⟩ = some (.int .u64 (P.wrd (g.less p) 0)) := bb.cell 0 _ rfl
      have sc1 : wc.cell? ⟨qs, 1, none⟩ = some (.int .u64 (P.wrd (g.less p) 1)) := bb.cell 1 _ rfl
      have sc2 : wc.cell? ⟨qs, 2, none⟩ = some (.int .u64 (P.wrd (g.less p) 2)) := bb.cell 2 _ rfl
      have sc3 : wc.cell? ⟨qs, 3, none⟩ = some (.int .u64 (P.wrd (g.less p) 3)) := bb.cell 3 _ rfl
      clear bb
      have bb := BQq.out
      have qc0 : wc.cell? ⟨qq, 0, none⟩ = some (.int .u64 (P.wrd (g.atp (p : Int)) 0)) := bb.cell 0 _ rfl
      have qc1 : wc.cell? ⟨qq, 1, none⟩ = some (.int .u64 (P.wrd (g.atp (p : Int)) 1)) := bb.cell 1 _ rfl
      have qc2 : wc.cell? ⟨qq, 2, none⟩ = some (.int .u64 (P.wrd (g.atp (p : Int)) 2)) := bb.cell 2 _ rfl
      have qc3 : wc.cell? ⟨qq, 3, none⟩ = some (.int .u64 (P.wrd (g.atp (p : Int)) 3)) := bb.cell 3 _ rfl
      clear bb
      go_wp2_with fail
      refine (or_any (g.less p) (g.atp (p : Int)) _).mono ?_
      rintro e wd ⟨rfl, hb⟩
      rw [show g.less p ||| g.atp (p : Int) = g.less (p + 1) from rfl]
      have BQg := Lib.hid (BQg.out.keep (grown_of_below hb none))
      have W := Lib.hid (W.out.trans (hb.mono W.out.size))
      have BQz := Lib.hid (BQz.out.keep (grown_of_below hb none))
      have BQo := Lib.hid (BQo.out.keep (grown_of_below hb none))
      have BQa := Lib.hid (BQa.out.keep (grown_of_below hb none))
      have BQs := Lib.hid (BQs.out.keep (grown_of_below hb none))
      clear hb sc0 sc1 sc2 sc3 qc0 qc1 qc2 qc3 ez
      have bb := BQs.out
      have sc0 : wd.cell? ⟨qs, 0, none⟩ = some (.int .u64 (P.wrd (g.less p) 0)) := bb.cell 0 _ rfl
      have sc1 : wd.cell? ⟨qs, 1, none⟩ = some (.int .u64 (P.wrd (g.less p) 1)) := bb.cell 1 _ rfl
      have sc2 : wd.cell? ⟨qs, 2, none⟩ = some (.int .u64 (P.wrd (g.less p) 2)) := bb.cell 2 _ rfl
      have sc3 : wd.cell? ⟨qs, 3, none⟩ = some (.int .u64 (P.wrd (g.less p) 3)) := bb.cell 3 _ rfl
      have sf0 : wd.frozen? ⟨qs, 0, none⟩ = false := bb.frozen 0
      have sf1 : wd.frozen? ⟨qs, 1, none⟩ = false := bb.frozen 1
      have sf2 : wd.frozen? ⟨qs, 2, none⟩ = false := bb.frozen 2
      have sf3 : wd.frozen? ⟨qs, 3, none⟩ = false := bb.frozen 3
      clear bb
      go_wp2_with fail
      go_roundw
      case rel =>
        have hne : ∀ q, q < qs → q ≠ qs := fun q h => Nat.ne_of_lt h
        have far : ∀ {t : TypeId} {cs : Array Value} {q : Nat}, Box wd q t cs → q ≠ qs → Box ((((wd.setCell ⟨qs, 0, none⟩ (.int .u64 (P.wrd (g.less (p + 1)) 0))).setCell ⟨qs, 1, none⟩ (.int .u64 (P.wrd (g.less (p + 1)) 1))).setCell ⟨qs, 2, none⟩ (.int .u64 (P.wrd (g.less (p + 1)) 2))).setCell ⟨qs, 3, none⟩ (.int .u64 (P.wrd (g.less (p + 1)) 3))) q t cs := fun h hq => (((h.far hq _).far hq _).far hq _).far hq _
        exact ⟨p + 1, by omega, by go_num, (((BQs.out.set 0 _).set 1 _).set 2 _).set 3 _, far BQg.out (hne _ LG.out), far BQz.out (hne _ LZ.out), far BQo.out (hne _ LO.out), far BQa.out (hne _ LA.out), (((W.out.setCell LW.out _).setCell LW.out _).setCell LW.out _).setCell LW.out _⟩
      case measure => simp [intOf]; omega
    · obtain rfl : p = 8 := by omega
      have fk : decide (((8 : Nat) : Int) ≤ 7) = false := by decide
      have bb := BQg.out
      have pc0 : wr.cell? ⟨qg, 0, none⟩ = some (.slice ao g.owner.length ka) := bb.cell 0 _ rfl
      have pc1 : wr.cell? ⟨qg, 1, none⟩ = some b := bb.cell 1 _ rfl
      have pc2 : wr.cell? ⟨qg, 2, none⟩ = some c := bb.cell 2 _ rfl
      clear bb
      go_wp2_with fail
      refine (dual_any g _ _ (HV.out.on W.out)).mono ?_
      rintro e we ⟨dav, dbv, dcv, dL, rfl, ho, hb⟩
      have hgd := ho.game (fits_dual HV.out.fits)
      obtain ⟨da, dka, db, dkb, dc, dkc, rfl, rfl, rfl⟩ := ho.forms
      have BQg := Lib.hid (BQg.out.keep (grown_of_below hb none))
      have W := Lib.hid (W.out.trans (hb.mono W.out.size))
      have BQz := Lib.hid (BQz.out.keep (grown_of_below hb none))
      have BQo := Lib.hid (BQo.out.keep (grown_of_below hb none))
      have BQa := Lib.hid (BQa.out.keep (grown_of_below hb none))
      have BQs := Lib.hid (BQs.out.keep (grown_of_below hb none))
      have GD := Lib.hid hgd
      clear hb ho hgd pc0 pc1 pc2 fk
      go_upto_region 17 with (fail)
      have bq : Box (we.alloc (.cells #[.slice da g.dual.owner.length dka, .slice db g.dual.prio.length dkb, .slice dc g.dual.moves.length dkc] 25)) we.heap.size 25 #[.slice da g.dual.owner.length dka, .slice db g.dual.prio.length dkb, .slice dc g.dual.moves.length dkc] := Box.new _ _ _
      have hgq := World.grownBy_alloc we (.cells #[.slice da g.dual.owner.length dka, .slice db g.dual.prio.length dkb, .slice dc g.dual.moves.length dkc] 25) none
      have BQg := Lib.hid (BQg.out.keep hgq)
      have W := Lib.hid (W.out.trans ((below_of_grown hgq).mono W.out.size))
      have BQz := Lib.hid (BQz.out.keep hgq)
      have BQo := Lib.hid (BQo.out.keep hgq)
      have BQa := Lib.hid (BQa.out.keep hgq)
      have BQs := Lib.hid (BQs.out.keep hgq)
      have GD := Lib.hid (GD.out.on (below_of_grown hgq))
      generalize (we.alloc (.cells #[.slice da g.dual.owner.length dka, .slice db g.dual.prio.length dkb, .slice dc g.dual.moves.length dkc] 25)) = wf at bq BQg W BQz BQo BQa BQs GD ⊢
      generalize we.heap.size = qd at bq ⊢
      have BQd := Lib.hid bq
      clear bq hgq
      obtain ⟨dn, hdn⟩ : ∃ dn, g.dual.owner.length = dn := ⟨_, rfl⟩
      have HDN := Lib.hid hdn
      rw [hdn] at BQd GD ⊢
      clear hdn
      have k0 : ∀ (d : Nat) (os : Array Obj), (grow (redrawn wf d) os).cell? ⟨qd, 0, none⟩ = some (.slice da dn dka) := fun d os => (BQd.out.keep (grown_of_below (below_regrown wf d os) none)).cell 0 _ rfl
      have k1 : ∀ (d : Nat) (os : Array Obj), (grow (redrawn wf d) os).cell? ⟨qd, 1, none⟩ = some (.slice db g.dual.prio.length dkb) := fun d os => (BQd.out.keep (grown_of_below (below_regrown wf d os) none)).cell 1 _ rfl
      have k2 : ∀ (d : Nat) (os : Array Obj), (grow (redrawn wf d) os).cell? ⟨qd, 2, none⟩ = some (.slice dc g.dual.moves.length dkc) := fun d os => (BQd.out.keep (grown_of_below (below_regrown wf d os) none)).cell 2 _ rfl
      have l0 : ∀ (d : Nat) (os : Array Obj), (grow (redrawn wf d) os).cell? ⟨qo, 0, none⟩ = some (.int .u64 (P.wrd (g.own 1) 0)) := fun d os => (BQo.out.keep (grown_of_below (below_regrown wf d os) none)).cell 0 _ rfl
      have l1 : ∀ (d : Nat) (os : Array Obj), (grow (redrawn wf d) os).cell? ⟨qo, 1, none⟩ = some (.int .u64 (P.wrd (g.own 1) 1)) := fun d os => (BQo.out.keep (grown_of_below (below_regrown wf d os) none)).cell 1 _ rfl
      have l2 : ∀ (d : Nat) (os : Array Obj), (grow (redrawn wf d) os).cell? ⟨qo, 2, none⟩ = some (.int .u64 (P.wrd (g.own 1) 2)) := fun d os => (BQo.out.keep (grown_of_below (below_regrown wf d os) none)).cell 2 _ rfl
      have l3 : ∀ (d : Nat) (os : Array Obj), (grow (redrawn wf d) os).cell? ⟨qo, 3, none⟩ = some (.int .u64 (P.wrd (g.own 1) 3)) := fun d os => (BQo.out.keep (grown_of_below (below_regrown wf d os) none)).cell 3 _ rfl
      have m0 : ∀ (d : Nat) (os : Array Obj), (grow (redrawn wf d) os).cell? ⟨qz, 0, none⟩ = some (.int .u64 (P.wrd (g.own 0) 0)) := fun d os => (BQz.out.keep (grown_of_below (below_regrown wf d os) none)).cell 0 _ rfl
      have m1 : ∀ (d : Nat) (os : Array Obj), (grow (redrawn wf d) os).cell? ⟨qz, 1, none⟩ = some (.int .u64 (P.wrd (g.own 0) 1)) := fun d os => (BQz.out.keep (grown_of_below (below_regrown wf d os) none)).cell 1 _ rfl
      have m2 : ∀ (d : Nat) (os : Array Obj), (grow (redrawn wf d) os).cell? ⟨qz, 2, none⟩ = some (.int .u64 (P.wrd (g.own 0) 2)) := fun d os => (BQz.out.keep (grown_of_below (below_regrown wf d os) none)).cell 2 _ rfl
      have m3 : ∀ (d : Nat) (os : Array Obj), (grow (redrawn wf d) os).cell? ⟨qz, 3, none⟩ = some (.int .u64 (P.wrd (g.own 0) 3)) := fun d os => (BQz.out.keep (grown_of_below (below_regrown wf d os) none)).cell 3 _ rfl
      have n1 := fun w => (set_neq (g.own 1) (g.own 1) w).trans (by rw [decide_eq_true rfl])
      have n0 := fun w => (set_neq (g.own 0) (g.own 0) w).trans (by rw [decide_eq_true rfl])
      by_cases hd : 0 < dn
      · have fd : decide ((0 : Int) < (dn : Int)) = true := decide_eq_true (by omega)
        have c0 := cOwn wf g.dual _ 0 GD.out
        have c1 := cOwn wf g.dual _ 1 GD.out
        rw [show P.places 0 g.dual.owner g.dual.owner.length = g.own 1 from P.G.dual_own g (by rw [HDN.out]; exact hd) 0] at c0
        rw [show P.places 1 g.dual.owner g.dual.owner.length = g.own 0 from P.G.dual_own g (by rw [HDN.out]; exact hd) 1] at c1
        refine wp_region_quiet_below (by kernel_rfl) (by kernel_rfl) ?_
        repeat (first | go_big_quiet_step ((go_at_call 27; exact c0 _ _)) | go_big_quiet_step ((go_at_call 27; exact c1 _ _)))
        refine wpQuiet_nil ?_
        intro _ hw'
        obtain ⟨⟨dq, osq⟩, hw''⟩ := hw'
        subst hw''
        clear k0 k1 k2 l0 l1 l2 l3 m0 m1 m2 m3 n0 n1
        have hgr := grown_of_below (below_regrown wf dq osq) none
        have BQg := Lib.hid (BQg.out.keep hgr)
        have BQz := Lib.hid (BQz.out.keep hgr)
        have BQo := Lib.hid (BQo.out.keep hgr)
        have BQa := Lib.hid (BQa.out.keep hgr)
        have BQs := Lib.hid (BQs.out.keep hgr)
        have W := Lib.hid (W.out.trans ((below_of_grown hgr).mono W.out.size))
        clear hgr
        generalize (grow (redrawn wf dq) osq) = wg at BQg BQz BQo BQa BQs W ⊢
        go_upto_region 19 with (fail)
        rw [P.G.less_all HR.out] at BQs
        have k0 : ∀ (d : Nat) (os : Array Obj), (grow (redrawn wg d) os).cell? ⟨qg, 0, none⟩ = some (.slice ao g.owner.length ka) := fun d os => (BQg.out.keep (grown_of_below (below_regrown wg d os) none)).cell 0 _ rfl
        have k1 : ∀ (d : Nat) (os : Array Obj), (grow (redrawn wg d) os).cell? ⟨qg, 1, none⟩ = some b := fun d os => (BQg.out.keep (grown_of_below (below_regrown wg d os) none)).cell 1 _ rfl
        have k2 : ∀ (d : Nat) (os : Array Obj), (grow (redrawn wg d) os).cell? ⟨qg, 2, none⟩ = some c := fun d os => (BQg.out.keep (grown_of_below (below_regrown wg d os) none)).cell 2 _ rfl
        have l0 : ∀ (d : Nat) (os : Array Obj), (grow (redrawn wg d) os).cell? ⟨qo, 0, none⟩ = some (.int .u64 (P.wrd (g.own 1) 0)) := fun d os => (BQo.out.keep (grown_of_below (below_regrown wg d os) none)).cell 0 _ rfl
        have l1 : ∀ (d : Nat) (os : Array Obj), (grow (redrawn wg d) os).cell? ⟨qo, 1, none⟩ = some (.int .u64 (P.wrd (g.own 1) 1)) := fun d os => (BQo.out.keep (grown_of_below (below_regrown wg d os) none)).cell 1 _ rfl
        have l2 : ∀ (d : Nat) (os : Array Obj), (grow (redrawn wg d) os).cell? ⟨qo, 2, none⟩ = some (.int .u64 (P.wrd (g.own 1) 2)) := fun d os => (BQo.out.keep (grown_of_below (below_regrown wg d os) none)).cell 2 _ rfl
        have l3 : ∀ (d : Nat) (os : Array Obj), (grow (redrawn wg d) os).cell? ⟨qo, 3, none⟩ = some (.int .u64 (P.wrd (g.own 1) 3)) := fun d os => (BQo.out.keep (grown_of_below (below_regrown wg d os) none)).cell 3 _ rfl
        have m0 : ∀ (d : Nat) (os : Array Obj), (grow (redrawn wg d) os).cell? ⟨qz, 0, none⟩ = some (.int .u64 (P.wrd (g.own 0) 0)) := fun d os => (BQz.out.keep (grown_of_below (below_regrown wg d os) none)).cell 0 _ rfl
        have m1 : ∀ (d : Nat) (os : Array Obj), (grow (redrawn wg d) os).cell? ⟨qz, 1, none⟩ = some (.int .u64 (P.wrd (g.own 0) 1)) := fun d os => (BQz.out.keep (grown_of_below (below_regrown wg d os) none)).cell 1 _ rfl
        have m2 : ∀ (d : Nat) (os : Array Obj), (grow (redrawn wg d) os).cell? ⟨qz, 2, none⟩ = some (.int .u64 (P.wrd (g.own 0) 2)) := fun d os => (BQz.out.keep (grown_of_below (below_regrown wg d os) none)).cell 2 _ rfl
        have m3 : ∀ (d : Nat) (os : Array Obj), (grow (redrawn wg d) os).cell? ⟨qz, 3, none⟩ = some (.int .u64 (P.wrd (g.own 0) 3)) := fun d os => (BQz.out.keep (grown_of_below (below_regrown wg d os) none)).cell 3 _ rfl
        have n0 : ∀ (d : Nat) (os : Array Obj), (grow (redrawn wg d) os).cell? ⟨qa, 0, none⟩ = some (.int .u64 (P.wrd (P.full g.owner.length) 0)) := fun d os => (BQa.out.keep (grown_of_below (below_regrown wg d os) none)).cell 0 _ rfl
        have n1 : ∀ (d : Nat) (os : Array Obj), (grow (redrawn wg d) os).cell? ⟨qa, 1, none⟩ = some (.int .u64 (P.wrd (P.full g.owner.length) 1)) := fun d os => (BQa.out.keep (grown_of_below (below_regrown wg d os) none)).cell 1 _ rfl
        have n2 : ∀ (d : Nat) (os : Array Obj), (grow (redrawn wg d) os).cell? ⟨qa, 2, none⟩ = some (.int .u64 (P.wrd (P.full g.owner.length) 2)) := fun d os => (BQa.out.keep (grown_of_below (below_regrown wg d os) none)).cell 2 _ rfl
        have n3 : ∀ (d : Nat) (os : Array Obj), (grow (redrawn wg d) os).cell? ⟨qa, 3, none⟩ = some (.int .u64 (P.wrd (P.full g.owner.length) 3)) := fun d os => (BQa.out.keep (grown_of_below (below_regrown wg d os) none)).cell 3 _ rfl
        have s0 : ∀ (d : Nat) (os : Array Obj), (grow (redrawn wg d) os).cell? ⟨qs, 0, none⟩ = some (.int .u64 (P.wrd (P.full g.owner.length) 0)) := fun d os => (BQs.out.keep (grown_of_below (below_regrown wg d os) none)).cell 0 _ rfl
        have s1 : ∀ (d : Nat) (os : Array Obj), (grow (redrawn wg d) os).cell? ⟨qs, 1, none⟩ = some (.int .u64 (P.wrd (P.full g.owner.length) 1)) := fun d os => (BQs.out.keep (grown_of_below (below_regrown wg d os) none)).cell 1 _ rfl
        have s2 : ∀ (d : Nat) (os : Array Obj), (grow (redrawn wg d) os).cell? ⟨qs, 2, none⟩ = some (.int .u64 (P.wrd (P.full g.owner.length) 2)) := fun d os => (BQs.out.keep (grown_of_below (below_regrown wg d os) none)).cell 2 _ rfl
        have s3 : ∀ (d : Nat) (os : Array Obj), (grow (redrawn wg d) os).cell? ⟨qs, 3, none⟩ = some (.int .u64 (P.wrd (P.full g.owner.length) 3)) := fun d os => (BQs.out.keep (grown_of_below (below_regrown wg d os) none)).cell 3 _ rfl
        have e1 := fun w => (set_eq (P.full g.owner.length) (P.full g.owner.length) w).trans (by rw [decide_eq_true rfl])
        have e2 : ∀ w, (binOp .eql 47 (.agg #[.int .u64 0, .int .u64 0, .int .u64 0, .int .u64 0]) (.agg #[.int .u64 0, .int .u64 0, .int .u64 0, .int .u64 0])).run Tryd.prog w = .ok (.bool true) w := fun w => by
          have h := set_eq 0#256 0#256 w
          rw [wrd_none 0 (by decide), wrd_none 1 (by decide), wrd_none 2 (by decide), wrd_none 3 (by decide), decide_eq_true rfl] at h
          exact h
        have cor := cOr_ wg (g.own 0) (g.own 1)
        rw [P.G.own_or HR.out] at cor
        have cand := cAnd_ wg (g.own 0) (g.own 1)
        rw [P.G.own_and g, wrd_none 0 (by decide), wrd_none 1 (by decide), wrd_none 2 (by decide), wrd_none 3 (by decide)] at cand
        have c2 := cOwn wg g _ 2 (HV.out.on W.out)
        rw [show P.places 2 g.owner g.owner.length = 0#256 from P.G.own_two HR.out, wrd_none 0 (by decide), wrd_none 1 (by decide), wrd_none 2 (by decide), wrd_none 3 (by decide)] at c2
        have c8 := cAt wg g _ 8 (HV.out.on W.out)
        rw [show P.places 8 g.prio g.prio.length = 0#256 from P.G.atp_eight HR.out, wrd_none 0 (by decide), wrd_none 1 (by decide), wrd_none 2 (by decide), wrd_none 3 (by decide)] at c8
        refine wp_region_quiet_below (by kernel_rfl) (by kernel_rfl) ?_
        repeat (first | go_big_quiet_step ((go_at_call 35; exact cor _ _)) | go_big_quiet_step ((go_at_call 31; exact cand _ _)) | go_big_quiet_step ((go_at_call 27; exact c2 _ _)) | go_big_quiet_step ((go_at_call 28; exact c8 _ _)))
        refine wpQuiet_nil ?_
        intro _ hw'
        obtain ⟨⟨dq2, osq2⟩, hw''⟩ := hw'
        subst hw''
        clear k0 k1 k2 l0 l1 l2 l3 m0 m1 m2 m3 n0 n1 n2 n3 s0 s1 s2 s3 e1 e2 cor cand c2 c8
        go_wp2_with fail
        exact bodyPost_ret (v := .bool true) (by simp [results, Tryd.results11, go_sem]) rfl ⟨rfl, W.out.trans ((below_regrown _ dq2 osq2).mono W.out.size)⟩
      · have fd : decide ((0 : Int) < (dn : Int)) = false := decide_eq_false (by omega)
        refine wp_region_quiet_below (by kernel_rfl) (by kernel_rfl) ?_
        repeat (first | go_big_quiet_step ((go_at_call 27; exact cOwn wf g.dual _ 0 GD.out _ _)))
        refine wpQuiet_nil ?_
        intro _ hw'
        obtain ⟨⟨dq, osq⟩, hw''⟩ := hw'
        subst hw''
        clear k0 k1 k2 l0 l1 l2 l3 m0 m1 m2 m3 n0 n1
        have hgr := grown_of_below (below_regrown wf dq osq) none
        have BQg := Lib.hid (BQg.out.keep hgr)
        have BQz := Lib.hid (BQz.out.keep hgr)
        have BQo := Lib.hid (BQo.out.keep hgr)
        have BQa := Lib.hid (BQa.out.keep hgr)
        have BQs := Lib.hid (BQs.out.keep hgr)
        have W := Lib.hid (W.out.trans ((below_of_grown hgr).mono W.out.size))
        clear hgr
        generalize (grow (redrawn wf dq) osq) = wg at BQg BQz BQo BQa BQs W ⊢
        go_upto_region 19 with (fail)
        rw [P.G.less_all HR.out] at BQs
        have k0 : ∀ (d : Nat) (os : Array Obj), (grow (redrawn wg d) os).cell? ⟨qg, 0, none⟩ = some (.slice ao g.owner.length ka) := fun d os => (BQg.out.keep (grown_of_below (below_regrown wg d os) none)).cell 0 _ rfl
        have k1 : ∀ (d : Nat) (os : Array Obj), (grow (redrawn wg d) os).cell? ⟨qg, 1, none⟩ = some b := fun d os => (BQg.out.keep (grown_of_below (below_regrown wg d os) none)).cell 1 _ rfl
        have k2 : ∀ (d : Nat) (os : Array Obj), (grow (redrawn wg d) os).cell? ⟨qg, 2, none⟩ = some c := fun d os => (BQg.out.keep (grown_of_below (below_regrown wg d os) none)).cell 2 _ rfl
        have l0 : ∀ (d : Nat) (os : Array Obj), (grow (redrawn wg d) os).cell? ⟨qo, 0, none⟩ = some (.int .u64 (P.wrd (g.own 1) 0)) := fun d os => (BQo.out.keep (grown_of_below (below_regrown wg d os) none)).cell 0 _ rfl
        have l1 : ∀ (d : Nat) (os : Array Obj), (grow (redrawn wg d) os).cell? ⟨qo, 1, none⟩ = some (.int .u64 (P.wrd (g.own 1) 1)) := fun d os => (BQo.out.keep (grown_of_below (below_regrown wg d os) none)).cell 1 _ rfl
        have l2 : ∀ (d : Nat) (os : Array Obj), (grow (redrawn wg d) os).cell? ⟨qo, 2, none⟩ = some (.int .u64 (P.wrd (g.own 1) 2)) := fun d os => (BQo.out.keep (grown_of_below (below_regrown wg d os) none)).cell 2 _ rfl
        have l3 : ∀ (d : Nat) (os : Array Obj), (grow (redrawn wg d) os).cell? ⟨qo, 3, none⟩ = some (.int .u64 (P.wrd (g.own 1) 3)) := fun d os => (BQo.out.keep (grown_of_below (below_regrown wg d os) none)).cell 3 _ rfl
        have m0 : ∀ (d : Nat) (os : Array Obj), (grow (redrawn wg d) os).cell? ⟨qz, 0, none⟩ = some (.int .u64 (P.wrd (g.own 0) 0)) := fun d os => (BQz.out.keep (grown_of_below (below_regrown wg d os) none)).cell 0 _ rfl
        have m1 : ∀ (d : Nat) (os : Array Obj), (grow (redrawn wg d) os).cell? ⟨qz, 1, none⟩ = some (.int .u64 (P.wrd (g.own 0) 1)) := fun d os => (BQz.out.keep (grown_of_below (below_regrown wg d os) none)).cell 1 _ rfl
        have m2 : ∀ (d : Nat) (os : Array Obj), (grow (redrawn wg d) os).cell? ⟨qz, 2, none⟩ = some (.int .u64 (P.wrd (g.own 0) 2)) := fun d os => (BQz.out.keep (grown_of_below (below_regrown wg d os) none)).cell 2 _ rfl
        have m3 : ∀ (d : Nat) (os : Array Obj), (grow (redrawn wg d) os).cell? ⟨qz, 3, none⟩ = some (.int .u64 (P.wrd (g.own 0) 3)) := fun d os => (BQz.out.keep (grown_of_below (below_regrown wg d os) none)).cell 3 _ rfl
        have n0 : ∀ (d : Nat) (os : Array Obj), (grow (redrawn wg d) os).cell? ⟨qa, 0, none⟩ = some (.int .u64 (P.wrd (P.full g.owner.length) 0)) := fun d os => (BQa.out.keep (grown_of_below (below_regrown wg d os) none)).cell 0 _ rfl
        have n1 : ∀ (d : Nat) (os : Array Obj), (grow (redrawn wg d) os).cell? ⟨qa, 1, none⟩ = some (.int .u64 (P.wrd (P.full g.owner.length) 1)) := fun d os => (BQa.out.keep (grown_of_below (below_regrown wg d os) none)).cell 1 _ rfl
        have n2 : ∀ (d : Nat) (os : Array Obj), (grow (redrawn wg d) os).cell? ⟨qa, 2, none⟩ = some (.int .u64 (P.wrd (P.full g.owner.length) 2)) := fun d os => (BQa.out.keep (grown_of_below (below_regrown wg d os) none)).cell 2 _ rfl
        have n3 : ∀ (d : Nat) (os : Array Obj), (grow (redrawn wg d) os).cell? ⟨qa, 3, none⟩ = some (.int .u64 (P.wrd (P.full g.owner.length) 3)) := fun d os => (BQa.out.keep (grown_of_below (below_regrown wg d os) none)).cell 3 _ rfl
        have s0 : ∀ (d : Nat) (os : Array Obj), (grow (redrawn wg d) os).cell? ⟨qs, 0, none⟩ = some (.int .u64 (P.wrd (P.full g.owner.length) 0)) := fun d os => (BQs.out.keep (grown_of_below (below_regrown wg d os) none)).cell 0 _ rfl
        have s1 : ∀ (d : Nat) (os : Array Obj), (grow (redrawn wg d) os).cell? ⟨qs, 1, none⟩ = some (.int .u64 (P.wrd (P.full g.owner.length) 1)) := fun d os => (BQs.out.keep (grown_of_below (below_regrown wg d os) none)).cell 1 _ rfl
        have s2 : ∀ (d : Nat) (os : Array Obj), (grow (redrawn wg d) os).cell? ⟨qs, 2, none⟩ = some (.int .u64 (P.wrd (P.full g.owner.length) 2)) := fun d os => (BQs.out.keep (grown_of_below (below_regrown wg d os) none)).cell 2 _ rfl
        have s3 : ∀ (d : Nat) (os : Array Obj), (grow (redrawn wg d) os).cell? ⟨qs, 3, none⟩ = some (.int .u64 (P.wrd (P.full g.owner.length) 3)) := fun d os => (BQs.out.keep (grown_of_below (below_regrown wg d os) none)).cell 3 _ rfl
        have e1 := fun w => (set_eq (P.full g.owner.length) (P.full g.owner.length) w).trans (by rw [decide_eq_true rfl])
        have e2 : ∀ w, (binOp .eql 47 (.agg #[.int .u64 0, .int .u64 0, .int .u64 0, .int .u64 0]) (.agg #[.int .u64 0, .int .u64 0, .int .u64 0, .int .u64 0])).run Tryd.prog w = .ok (.bool true) w := fun w => by
          have h := set_eq 0#256 0#256 w
          rw [wrd_none 0 (by decide), wrd_none 1 (by decide), wrd_none 2 (by decide), wrd_none 3 (by decide), decide_eq_true rfl] at h
          exact h
        have cor := cOr_ wg (g.own 0) (g.own 1)
        rw [P.G.own_or HR.out] at cor
        have cand := cAnd_ wg (g.own 0) (g.own 1)
        rw [P.G.own_and g, wrd_none 0 (by decide), wrd_none 1 (by decide), wrd_none 2 (by decide), wrd_none 3 (by decide)] at cand
        have c2 := cOwn wg g _ 2 (HV.out.on W.out)
        rw [show P.places 2 g.owner g.owner.length = 0#256 from P.G.own_two HR.out, wrd_none 0 (by decide), wrd_none 1 (by decide), wrd_none 2 (by decide), wrd_none 3 (by decide)] at c2
        have c8 := cAt wg g _ 8 (HV.out.on W.out)
        rw [show P.places 8 g.prio g.prio.length = 0#256 from P.G.atp_eight HR.out, wrd_none 0 (by decide), wrd_none 1 (by decide), wrd_none 2 (by decide), wrd_none 3 (by decide)] at c8
        refine wp_region_quiet_below (by kernel_rfl) (by kernel_rfl) ?_
        repeat (first | go_big_quiet_step ((go_at_call 35; exact cor _ _)) | go_big_quiet_step ((go_at_call 31; exact cand _ _)) | go_big_quiet_step ((go_at_call 27; exact c2 _ _)) | go_big_quiet_step ((go_at_call 28; exact c8 _ _)))
        refine wpQuiet_nil ?_
        intro _ hw'
        obtain ⟨⟨dq2, osq2⟩, hw''⟩ := hw'
        subst hw''
        clear k0 k1 k2 l0 l1 l2 l3 m0 m1 m2 m3 n0 n1 n2 n3 s0 s1 s2 s3 e1 e2 cor cand c2 c8
        go_wp2_with fail
        exact bodyPost_ret (v := .bool true) (by simp [results, Tryd.results11, go_sem]) rfl ⟨rfl, W.out.trans ((below_regrown _ dq2 osq2).mono W.out.size)⟩

theorem shares_any (g : P.G) (v : Value) (w : World) (hv : GameV w v g) (hT : Tab w) : Calls Tryd.prog 11 #[v] w fun e w' => e = .returned (.bool true) ∧ Below w.heap.size w w' := by
  by_cases hok : g.ok = true
  · exact shares_ok g v w hv hT ((P.G.ok_iff g).1 hok)
  · exact shares_bad g v w hv hT (by simpa using hok)
end W
end Go.Proofs.YtlbikfimfaecnaaDoor
