/- GameOwns: the walk. -/
import Derived.Test.YtlbikfimfaecnaaDoorShown
import Derived.Test.YtlbikfimfaecnaaDoorAmong
import Derived.Test.YtlbikfimfaecnaaDoorRefWords
import Derived.Deep.RegionWith
import Derived.Deep.RegionHeld3
namespace Go.Proofs.YtlbikfimfaecnaaDoor
open Go.RowKit Go.Sort
namespace W

theorem cOwn (W : World) (g : P.G) (v : Value) (n : Int) (hv : GameV W v g) (d : Nat) (os : Array Obj) : Calls Tryd.prog 27 #[v, .int .i64 n] (grow (redrawn W d) os) fun e w'' => e = .returned (.agg #[.int .u64 (P.wrd (P.places n g.owner g.owner.length) 0), .int .u64 (P.wrd (P.places n g.owner g.owner.length) 1), .int .u64 (P.wrd (P.places n g.owner g.owner.length) 2), .int .u64 (P.wrd (P.places n g.owner g.owner.length) 3)]) ∧ ∃ p : Regrown, w'' = grow (redrawn W p.d) p.os := Calls.regrown_of (own_any g v n _ (hv.on (below_regrown W d os)))
theorem cAt (W : World) (g : P.G) (v : Value) (n : Int) (hv : GameV W v g) (d : Nat) (os : Array Obj) : Calls Tryd.prog 28 #[v, .int .i64 n] (grow (redrawn W d) os) fun e w'' => e = .returned (.agg #[.int .u64 (P.wrd (P.places n g.prio g.prio.length) 0), .int .u64 (P.wrd (P.places n g.prio g.prio.length) 1), .int .u64 (P.wrd (P.places n g.prio g.prio.length) 2), .int .u64 (P.wrd (P.places n g.prio g.prio.length) 3)]) ∧ ∃ p : Regrown, w'' = grow (redrawn W p.d) p.os := Calls.regrown_of (at_any g v n _ (hv.on (below_regrown W d os)))
set_option maxRecDepth 100000 in
set_option maxHeartbeats 1000000 in
theorem owns_any (g : P.G) (v : Value) (n m : Int) (w : World) (hv : GameV w v g) (hT : Tab w) : Calls Tryd.prog 6 #[v, .int .i64 n, .int .i64 m] w fun e w' => e = .returned (.bool true) ∧ Below w.heap.size w w' := by
  have GV := Lib.hid hv
  obtain ⟨a, b, c, rfl, ha, hb, -⟩ := hv
  have IA := Lib.hid ha
  have IB := Lib.hid hb
  have T := Lib.hid hT
  have W := Lib.hid (Below.refl w.heap.size w)
  clear hT ha hb
  go_enter Tryd.func6, Tryd.ntmps6
  go_wp2_with fail
  have bq : Box (w.alloc (.cells #[a, b, c] 25)) w.heap.size 25 #[a, b, c] := Box.new _ _ _
  have hgq := World.grownBy_alloc w (.cells #[a, b, c] 25) none
  have IA := Lib.hid (IA.out.on (below_of_grown hgq))
  have IB := Lib.hid (IB.out.on (below_of_grown hgq))
  have GV := Lib.hid (GV.out.on (below_of_grown hgq))
  have T := Lib.hid (T.out.on (below_of_grown hgq))
  have W := Lib.hid (W.out.trans ((below_of_grown hgq).mono W.out.size))
  generalize (w.alloc (.cells #[a, b, c] 25)) = w1 at bq IA IB GV T W ⊢
  generalize w.heap.size = q1 at bq ⊢
  have BQ1 := Lib.hid bq
  clear bq hgq
  refine (shown_any _ T.out).mono ?_
  rintro e w2 ⟨rfl, hb⟩
  have BQ1 := Lib.hid (BQ1.out.keep (grown_of_below hb none))
  have IA := Lib.hid (IA.out.on hb)
  have IB := Lib.hid (IB.out.on hb)
  have GV := Lib.hid (GV.out.on hb)
  have T := Lib.hid (T.out.on hb)
  have W := Lib.hid (W.out.trans (hb.mono W.out.size))
  clear hb
  have bb := BQ1.out
  have pc0 : w2.cell? ⟨q1, 0, none⟩ = some a := bb.cell 0 _ rfl
  have pc1 : w2.cell? ⟨q1, 1, none⟩ = some b := bb.cell 1 _ rfl
  have pc2 : w2.cell? ⟨q1, 2, none⟩ = some c := bb.cell 2 _ rfl
  clear bb
  go_wp2_with fail
  refine (among_any a g.owner n _ IA.out).mono ?_
  rintro e w3 ⟨rfl, hb⟩
  have BQ1 := Lib.hid (BQ1.out.keep (grown_of_below hb none))
  have IA := Lib.hid (IA.out.on hb)
  have IB := Lib.hid (IB.out.on hb)
  have GV := Lib.hid (GV.out.on hb)
  have T := Lib.hid (T.out.on hb)
  have W := Lib.hid (W.out.trans (hb.mono W.out.size))
  clear hb pc0 pc1 pc2
  obtain ⟨SA, hSA⟩ : ∃ SA, P.places n g.owner g.owner.length = SA := ⟨_, rfl⟩
  rw [hSA]
  have ESA := Lib.hid hSA
  clear hSA
  go_wp2_with fail
  refine (words_any SA _).mono ?_
  rintro e w4 ⟨rfl, hb⟩
  have BQ1 := Lib.hid (BQ1.out.keep (grown_of_below hb none))
  have IA := Lib.hid (IA.out.on hb)
  have IB := Lib.hid (IB.out.on hb)
  have GV := Lib.hid (GV.out.on hb)
  have T := Lib.hid (T.out.on hb)
  have W := Lib.hid (W.out.trans (hb.mono W.out.size))
  clear hb
  have bb := BQ1.out.alloc (.cells #[.int .u64 (P.wrd SA 0), .int .u64 (P.wrd SA 1), .int .u64 (P.wrd SA 2), .int .u64 (P.wrd SA 3)] 35)
  have pc0 : (w4.alloc (.cells #[.int .u64 (P.wrd SA 0), .int .u64 (P.wrd SA 1), .int .u64 (P.wrd SA 2), .int .u64 (P.wrd SA 3)] 35)).cell? ⟨q1, 0, none⟩ = some a := bb.cell 0 _ rfl
  have pc1 : (w4.alloc (.cells #[.int .u64 (P.wrd SA 0), .int .u64 (P.wrd SA 1), .int .u64 (P.wrd SA 2), .int .u64 (P.wrd SA 3)] 35)).cell? ⟨q1, 1, none⟩ = some b := bb.cell 1 _ rfl
  have pc2 : (w4.alloc (.cells #[.int .u64 (P.wrd SA 0), .int .u64 (P.wrd SA 1), .int .u64 (P.wrd SA 2), .int .u64 (P.wrd SA 3)] 35)).cell? ⟨q1, 2, none⟩ = some c := bb.cell 2 _ rfl
  clear bb
  go_wp2_with fail
  clear pc0 pc1 pc2
  have bq : Box (w4.alloc (.cells #[.int .u64 (P.wrd SA 0), .int .u64 (P.wrd SA 1), .int .u64 (P.wrd SA 2), .int .u64 (P.wrd SA 3)] 35)) w4.heap.size 35 #[.int .u64 (P.wrd SA 0), .int .u64 (P.wrd SA 1), .int .u64 (P.wrd SA 2), .int .u64 (P.wrd SA 3)] := Box.new _ _ _
  have hgq := World.grownBy_alloc w4 (.cells #[.int .u64 (P.wrd SA 0), .int .u64 (P.wrd SA 1), .int .u64 (P.wrd SA 2), .int .u64 (P.wrd SA 3)] 35) none
  have BQ1 := Lib.hid (BQ1.out.keep hgq)
  have IA := Lib.hid (IA.out.on (below_of_grown hgq))
  have IB := Lib.hid (IB.out.on (below_of_grown hgq))
  have GV := Lib.hid (GV.out.on (below_of_grown hgq))
  have T := Lib.hid (T.out.on (below_of_grown hgq))
  have W := Lib.hid (W.out.trans ((below_of_grown hgq).mono W.out.size))
  generalize (w4.alloc (.cells #[.int .u64 (P.wrd SA 0), .int .u64 (P.wrd SA 1), .int .u64 (P.wrd SA 2), .int .u64 (P.wrd SA 3)] 35)) = w5 at bq BQ1 IA IB GV T W ⊢
  generalize w4.heap.size = q2 at bq ⊢
  have BQ2 := Lib.hid bq
  clear bq hgq
  refine (among_any b g.prio m _ IB.out).mono ?_
  rintro e w6 ⟨rfl, hb⟩
  have BQ1 := Lib.hid (BQ1.out.keep (grown_of_below hb none))
  have IA := Lib.hid (IA.out.on hb)
  have IB := Lib.hid (IB.out.on hb)
  have GV := Lib.hid (GV.out.on hb)
  have T := Lib.hid (T.out.on hb)
  have W := Lib.hid (W.out.trans (hb.mono W.out.size))
  have BQ2 := Lib.hid (BQ2.out.keep (grown_of_below hb none))
  clear hb
  obtain ⟨SB, hSB⟩ : ∃ SB, P.places m g.prio g.prio.length = SB := ⟨_, rfl⟩
  rw [hSB]
  have ESB := Lib.hid hSB
  clear hSB
  go_wp2_with fail
  refine (words_any SB _).mono ?_
  rintro e w7 ⟨rfl, hb⟩
  have BQ1 := Lib.hid (BQ1.out.keep (grown_of_below hb none))
  have IA := Lib.hid (IA.out.on hb)
  have IB := Lib.hid (IB.out.on hb)
  have GV := Lib.hid (GV.out.on hb)
  have T := Lib.hid (T.out.on hb)
  have W := Lib.hid (W.out.trans (hb.mono W.out.size))
  have BQ2 := Lib.hid (BQ2.out.keep (grown_of_below hb none))
  clear hb
  go_upto_region 4 with (fail)
  have bq : Box (w7.alloc (.cells #[.int .u64 (P.wrd SB 0), .int .u64 (P.wrd SB 1), .int .u64 (P.wrd SB 2), .int .u64 (P.wrd SB 3)] 35)) w7.heap.size 35 #[.int .u64 (P.wrd SB 0), .int .u64 (P.wrd SB 1), .int .u64 (P.wrd SB 2), .int .u64 (P.wrd SB 3)] := Box.new _ _ _
  have hgq := World.grownBy_alloc w7 (.cells #[.int .u64 (P.wrd SB 0), .int .u64 (P.wrd SB 1), .int .u64 (P.wrd SB 2), .int .u64 (P.wrd SB 3)] 35) none
  have BQ1 := Lib.hid (BQ1.out.keep hgq)
  have IA := Lib.hid (IA.out.on (below_of_grown hgq))
  have IB := Lib.hid (IB.out.on (below_of_grown hgq))
  have GV := Lib.hid (GV.out.on (below_of_grown hgq))
  have T := Lib.hid (T.out.on (below_of_grown hgq))
  have W := Lib.hid (W.out.trans ((below_of_grown hgq).mono W.out.size))
  have BQ2 := Lib.hid (BQ2.out.keep hgq)
  generalize (w7.alloc (.cells #[.int .u64 (P.wrd SB 0), .int .u64 (P.wrd SB 1), .int .u64 (P.wrd SB 2), .int .u64 (P.wrd SB 3)] 35)) = w8 at bq BQ1 IA IB GV T W BQ2 ⊢
  generalize w7.heap.size = q3 at bq ⊢
  have BQ3 := Lib.hid bq
  clear bq hgq
  have k0 : ∀ (d : Nat) (os : Array Obj), (grow (redrawn w8 d) os).cell? ⟨q1, 0, none⟩ = some a := fun d os => (BQ1.out.keep (grown_of_below (below_regrown w8 d os) none)).cell 0 _ rfl
  have k1 : ∀ (d : Nat) (os : Array Obj), (grow (redrawn w8 d) os).cell? ⟨q1, 1, none⟩ = some b := fun d os => (BQ1.out.keep (grown_of_below (below_regrown w8 d os) none)).cell 1 _ rfl
  have k2 : ∀ (d : Nat) (os : Array Obj), (grow (redrawn w8 d) os).cell? ⟨q1, 2, none⟩ = some c := fun d os => (BQ1.out.keep (grown_of_below (below_regrown w8 d os) none)).cell 2 _ rfl
  have l0 : ∀ (d : Nat) (os : Array Obj), (grow (redrawn w8 d) os).cell? ⟨q2, 0, none⟩ = some (.int .u64 (P.wrd SA 0)) := fun d os => (BQ2.out.keep (grown_of_below (below_regrown w8 d os) none)).cell 0 _ rfl
  have l1 : ∀ (d : Nat) (os : Array Obj), (grow (redrawn w8 d) os).cell? ⟨q2, 1, none⟩ = some (.int .u64 (P.wrd SA 1)) := fun d os => (BQ2.out.keep (grown_of_below (below_regrown w8 d os) none)).cell 1 _ rfl
  have l2 : ∀ (d : Nat) (os : Array Obj), (grow (redrawn w8 d) os).cell? ⟨q2, 2, none⟩ = some (.int .u64 (P.wrd SA 2)) := fun d os => (BQ2.out.keep (grown_of_below (below_regrown w8 d os) none)).cell 2 _ rfl
  have l3 : ∀ (d : Nat) (os : Array Obj), (grow (redrawn w8 d) os).cell? ⟨q2, 3, none⟩ = some (.int .u64 (P.wrd SA 3)) := fun d os => (BQ2.out.keep (grown_of_below (below_regrown w8 d os) none)).cell 3 _ rfl
  have m0 : ∀ (d : Nat) (os : Array Obj), (grow (redrawn w8 d) os).cell? ⟨q3, 0, none⟩ = some (.int .u64 (P.wrd SB 0)) := fun d os => (BQ3.out.keep (grown_of_below (below_regrown w8 d os) none)).cell 0 _ rfl
  have m1 : ∀ (d : Nat) (os : Array Obj), (grow (redrawn w8 d) os).cell? ⟨q3, 1, none⟩ = some (.int .u64 (P.wrd SB 1)) := fun d os => (BQ3.out.keep (grown_of_below (below_regrown w8 d os) none)).cell 1 _ rfl
  have m2 : ∀ (d : Nat) (os : Array Obj), (grow (redrawn w8 d) os).cell? ⟨q3, 2, none⟩ = some (.int .u64 (P.wrd SB 2)) := fun d os => (BQ3.out.keep (grown_of_below (below_regrown w8 d os) none)).cell 2 _ rfl
  have m3 : ∀ (d : Nat) (os : Array Obj), (grow (redrawn w8 d) os).cell? ⟨q3, 3, none⟩ = some (.int .u64 (P.wrd SB 3)) := fun d os => (BQ3.out.keep (grown_of_below (below_regrown w8 d os) none)).cell 3 _ rfl
  have ea := fun w => (set_eq SA SA w).trans (by rw [decide_eq_true rfl])
  have eb := fun w => (set_eq SB SB w).trans (by rw [decide_eq_true rfl])
  have co := cOwn w8 g _ n GV.out
  have ca := cAt w8 g _ m GV.out
  rw [ESA.out] at co
  rw [ESB.out] at ca
  refine wp_region_quiet_below (by kernel_rfl) (by kernel_rfl) ?_
  repeat (first | go_big_quiet_step ((go_at_call 27; exact co _ _)) | go_big_quiet_step ((go_at_call 28; exact ca _ _)) | quiet_step ((go_at_call 27; exact co _ _)))
  refine wpQuiet_nil ?_
  intro _ hw'
  obtain ⟨⟨dq, osq⟩, hw''⟩ := hw'
  subst hw''
  clear k0 k1 k2 l0 l1 l2 l3 m0 m1 m2 m3 ea eb co ca
  go_wp2_with fail
  exact bodyPost_ret (v := .bool true) (by simp [results, Tryd.results6, go_sem]) rfl ⟨rfl, W.out.trans ((below_regrown _ dq osq).mono W.out.size)⟩
end W
end Go.Proofs.YtlbikfimfaecnaaDoor
