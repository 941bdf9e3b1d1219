/- Solve: the document's. -/
import Derived.Test.YteeaojciobmcaaaBest
import Derived.Test.YteeaojciobmcaaaRLift
import Derived.Test.YteeaojciobmcaaaSolveX
import Derived.Lib.QuietBelow
import Derived.Deep.Cut
import Derived.Lib.Hide
import Derived.Deep.QuietTactic
import Derived.BigQuiet
namespace Go.Proofs.Yteeaojciobmcaaa
open Go.RowKit Go.Sort
namespace W

theorem info_rtup : (Try.prog.info? 24).map (fun i => (i.zero, i.size, i.bytes)) = some (some (.agg (tc .zero)), 5, 40) := by kernel_rfl
theorem und_rtups : Try.prog.underlying 39 = some (.slice 24) := by kernel_rfl
/-- make of tuples, the world spelled out. -/
theorem wpl_maker {w : World} {ops : Array Oper} {rest : List Oper} {o : Oper} {a : Act} {Q : Exit → Act → World → Prop} (hgd : o.guard = none) (s x : Operand)
    (ho : o.op = .makeSlice 39 s x) (n : Nat) (hs : a.eval s = .int .i64 n) (hx : a.eval x = .int .i64 n) (hb : 40 * n ≤ 281474976710656)
    (h : ∀ w', w' = w.alloc (.cells (flatT (List.replicate n .zero)) 24) → wpList Try.prog ops Q rest (a.put o.dst (.slice (some ⟨w.heap.size, 0, none⟩) n n)) w') : wpList Try.prog ops Q (o :: rest) a w := by
  obtain ⟨i, hi, hz, hsz, hby⟩ := info_parts info_rtup
  have hb' : (i.bytes : Int) * (n : Int) ≤ 281474976710656 := by
    have h : ((i.bytes * n : Nat) : Int) ≤ 281474976710656 := by rw [hby]; omega
    rwa [Int.natCast_mul] at h
  have hr := run_make (P := Try.prog) w 39 24 i _ und_rtups hi hz .i64 .i64 n n (by omega) (Int.le_refl _) hb' (by omega)
  rw [hsz] at hr
  simp only [Int.toNat_natCast, made_tups] at hr
  refine wpList_plain hgd fun _ hK => ?_
  unfold Oper.wp execOp
  simp only [ho, hs, hx, Sem.run_bind, Sem.run_pure, hr, Result.andThen_ok]
  exact hK _ _ (h _ rfl)
theorem box_tcell {w : World} {p : Nat} {ty : TypeId} {l : List P.Tup} (h : Box w p ty (flatT l)) {x : Nat} (hx : x < l.length) {t : P.Tup} (ht : l.getD x .zero = t) (j : Nat) (u : Value) (hu : (tl t)[j]? = some u) : w.cell? ⟨p, x * 5 + j, none⟩ = some u := by
  refine h.cell _ u ?_
  have hj : j < 5 := (List.getElem?_eq_some_iff.1 hu).1
  unfold flatT
  rw [List.getElem?_toArray, flatL_at l x j hx hj, ht]
  exact hu
def isTv : Value → Nat
  | .bool true => 1
  | _ => 0
def mu2 (g : P.G) (n p : Nat) (v : Value) (w : World) : Nat := 2 * P.slack g.tups ((List.range n).map (tatC w p)) + isTv v
theorem mu2_is {w : World} {p n : Nat} {ty : TypeId} {l : List P.Tup} (h : Box w p ty (flatT l)) (hl : l.length = n) (g : P.G) (b : Bool) : mu2 g n p (.bool b) w = 2 * P.slack g.tups l + isTv (.bool b) := by
  unfold mu2
  have e1 : (List.range n).map (tatC w p) = l := by
    apply List.ext_getElem (by simp [hl])
    intro j h1 h2
    have hj : j < n := by simpa using h1
    rw [List.getElem_map, List.getElem_range]
    have ht : l.getD j .zero = l[j] := by rw [List.getD_eq_getElem?_getD, List.getElem?_eq_getElem h2]; rfl
    have c := fun i v hi => box_tcell h h2 ht i v hi
    have c0 : w.cell? ⟨p, j * 5, none⟩ = _ := c 0 _ rfl
    have c1 := c 1 _ rfl
    have c2 := c 2 _ rfl
    have c3 := c 3 _ rfl
    have c4 := c 4 _ rfl
    unfold tatC batC iatC
    rw [c0, c1, c2, c3, c4]
  rw [e1]
/-- What the document's Solve gives. -/
def RSolV (w : World) (g : P.G) (lo : Nat) (v : Value) : Prop := ∃ p l, v = .slice (some ⟨p, 0, none⟩) g.owner.length g.owner.length ∧ P.IsSol g l ∧ lo ≤ p ∧ Box w p 24 (flatT l)
set_option maxRecDepth 100000 in
set_option maxHeartbeats 1000000 in
theorem rsolve_wrong (g : P.G) (hok : g.ok = false) (v : Value) (w : World) (hv : GameV w v g) : Calls Try.prog 25 #[v] w fun e w' => e = .returned (.slice none 0 0) ∧ Below w.heap.size w w' := by
  have HOK := Lib.hid hok
  have HV := Lib.hid hv
  obtain ⟨a, b, c, rfl, -⟩ := hv
  clear hok
  go_enter Try.func25, Try.ntmps25
  go_wp2_with fail
  have bx0 : Box (w.alloc (.cells #[a, b, c] 33)) (w.heap.size) 33 #[a, b, c] := Box.new w 33 #[a, b, c]
  have hbq : Below w.heap.size w (w.alloc (.cells #[a, b, c] 33)) := (Below.refl _ w).alloc (Nat.le_refl _) _
  have hle0 : w.heap.size ≤ w.heap.size := Nat.le_refl _
  generalize (w.alloc (.cells #[a, b, c] 33)) = w0 at bx0 hbq  ⊢
  have BQg := Lib.hid bx0
  have W := Lib.hid hbq
  have LEg := Lib.hid hle0
  clear hbq hle0 bx0 
  obtain ⟨qg, hqg⟩ : ∃ qg, w.heap.size = qg := ⟨_, rfl⟩
  rw [hqg] at BQg ⊢
  have LEg : Hid (w.heap.size ≤ qg) := Lib.hid (by omega)
  clear hqg
  refine (is_any g _ w0 (HV.out.on W.out)).mono ?_
  rintro e w1 ⟨rfl, hb⟩
  rw [HOK.out]
  replace BQg := Lib.hid (BQg.out.keep (grown_of_below hb none))
  replace W := Lib.hid (W.out.trans (hb.mono W.out.size))
  clear hb
  go_wp2_with fail
  go_ret
  exact ⟨rfl, W.out⟩
set_option maxRecDepth 100000 in
set_option maxHeartbeats 4000000 in
theorem rsolve_any (g : P.G) (hr : g.Right) (v : Value) (w : World) (hv : GameV w v g) : Calls Try.prog 25 #[v] w fun e w' => ∃ u, e = .returned u ∧ RSolV w' g w.heap.size u ∧ Below w.heap.size w w' := by
  have hop := hr.prio
  have hmp := hr.moves
  have hmany := hr.many
  have h0 := hr.pos
  obtain ⟨n, hn⟩ : ∃ n, g.owner.length = n := ⟨_, rfl⟩
  rw [hn] at hop hmp hmany h0
  have HV := Lib.hid hv
  obtain ⟨ba, oa, ka, bb, ob, kb, bc_, oc, kc, rfl, -, -, -⟩ := hv.open_ hn hop hmp h0
  have HOK := Lib.hid ((P.G.ok_iff g).2 hr)
  have HR := Lib.hid hr
  have HN := Lib.hid hn
  clear hr hn hop hmp hv
  go_enter Try.func25, Try.ntmps25
  go_wp2_with fail
  have bx0 : Box (w.alloc (.cells #[.slice (some ⟨ba, oa, none⟩) n ka, .slice (some ⟨bb, ob, none⟩) n kb, .slice (some ⟨bc_, oc, none⟩) n kc] 33)) (w.heap.size) 33 #[.slice (some ⟨ba, oa, none⟩) n ka, .slice (some ⟨bb, ob, none⟩) n kb, .slice (some ⟨bc_, oc, none⟩) n kc] := Box.new w 33 #[.slice (some ⟨ba, oa, none⟩) n ka, .slice (some ⟨bb, ob, none⟩) n kb, .slice (some ⟨bc_, oc, none⟩) n kc]
  have hbq : Below w.heap.size w (w.alloc (.cells #[.slice (some ⟨ba, oa, none⟩) n ka, .slice (some ⟨bb, ob, none⟩) n kb, .slice (some ⟨bc_, oc, none⟩) n kc] 33)) := (Below.refl _ w).alloc (Nat.le_refl _) _
  have hle0 : w.heap.size ≤ w.heap.size := Nat.le_refl _
  generalize (w.alloc (.cells #[.slice (some ⟨ba, oa, none⟩) n ka, .slice (some ⟨bb, ob, none⟩) n kb, .slice (some ⟨bc_, oc, none⟩) n kc] 33)) = w0 at bx0 hbq  ⊢
  have BQg := Lib.hid bx0
  have W := Lib.hid hbq
  have LEg := Lib.hid hle0
  clear hbq hle0 bx0 
  obtain ⟨qg, hqg⟩ : ∃ qg, w.heap.size = qg := ⟨_, rfl⟩
  rw [hqg] at BQg ⊢
  have LEg : Hid (w.heap.size ≤ qg) := Lib.hid (by omega)
  clear hqg
  refine (is_any g _ w0 (HV.out.on W.out)).mono ?_
  rintro e w1 ⟨rfl, hb⟩
  rw [HOK.out]
  replace BQg := Lib.hid (BQg.out.keep (grown_of_below hb none))
  replace W := Lib.hid (W.out.trans (hb.mono W.out.size))
  clear hb
  have hbb := BQg.out
  have gc0 : w1.cell? ⟨qg, 0, none⟩ = some (.slice (some ⟨ba, oa, none⟩) n ka) := hbb.cell 0 _ rfl
  have gc1 : w1.cell? ⟨qg, 1, none⟩ = some (.slice (some ⟨bb, ob, none⟩) n kb) := hbb.cell 1 _ rfl
  have gc2 : w1.cell? ⟨qg, 2, none⟩ = some (.slice (some ⟨bc_, oc, none⟩) n kc) := hbb.cell 2 _ rfl
  clear hbb
  go_wp2_with (refine wpl_maker rfl (.tmp 14) (.tmp 14) rfl n rfl rfl (by omega) ?_; intro w2 hw2; have HW2 := Lib.hid hw2; clear hw2)
  clear gc0 gc1 gc2
  have bl : Box w2 w1.heap.size 24 (flatT (List.replicate n .zero)) := by rw [HW2.out]; exact Box.new _ _ _
  have hb : Below w1.heap.size w1 w2 := by rw [HW2.out]; exact (Below.refl _ _).alloc (Nat.le_refl _) _
  have hp := W.out.size
  replace BQg := Lib.hid (BQg.out.keep (grown_of_below hb none))
  replace W := Lib.hid (W.out.trans (hb.mono W.out.size))
  clear hb HW2
  obtain ⟨p, hpe⟩ : ∃ p, w1.heap.size = p := ⟨_, rfl⟩
  rw [hpe] at bl hp ⊢
  have BQl := Lib.hid bl
  have HP := Lib.hid hp
  clear bl hpe hp
  have HLO := Lib.hid (P.zero_low (g := g))
  rw [HN.out] at HLO
  go_loopw [5] (fun mv wr => ∃ (b : Bool) (l : List P.Tup), mv = .bool b ∧ P.Low g l ∧ (b = false → P.Fixed g l) ∧ Box wr qg 33 #[.slice (some ⟨ba, oa, none⟩) n ka, .slice (some ⟨bb, ob, none⟩) n kb, .slice (some ⟨bc_, oc, none⟩) n kc] ∧ Box wr p 24 (flatT l) ∧ Below w.heap.size w wr) (fun mv wr => mu2 g n p mv wr)
  case atStart => exact ⟨true, _, rfl, HLO.out, fun h => (by cases h), BQg.out, BQl.out, W.out⟩
  case round =>
    obtain ⟨b, l0, rfl, hlo, hfx, b1, b2, hb⟩ := hrel
    replace HLO := Lib.hid hlo
    have HFX := Lib.hid hfx
    replace BQg := Lib.hid b1
    replace BQl := Lib.hid b2
    replace W := Lib.hid hb
    have HM0 := Lib.hid (mu2_is b2 (by rw [hlo.1, HN.out]) g b)
    clear hlo hfx b1 b2 hb
    cases b
    · go_wp2_with fail
      refine bodyPost_ret (v := .slice (some ⟨p, 0, none⟩) n n) (by simp [results, Try.results25, go_sem]) rfl ?_
      exact ⟨_, rfl, ⟨p, l0, by rw [HN.out], ⟨HLO.out, HFX.out (by first | rfl | trivial)⟩, HP.out, BQl.out⟩, W.out⟩
    · go_wp2_with fail
      obtain ⟨wo, rfl⟩ : ∃ wo : World, wo = wr := ⟨_, rfl⟩
      go_loopw [5, 6] (fun mv iv wr => ∃ (i : Nat) (mk : Bool) (l : List P.Tup), i ≤ n ∧ mv = .bool mk ∧ iv = .int .i64 (i : Int) ∧ P.Low g l ∧ (P.slack g.tups l ≤ P.slack g.tups l0 ∧ (mk = false → ∀ j, j < i → P.Rest g l j) ∧ (mk = true → P.slack g.tups l < P.slack g.tups l0)) ∧ Box wr qg 33 #[.slice (some ⟨ba, oa, none⟩) n ka, .slice (some ⟨bb, ob, none⟩) n kb, .slice (some ⟨bc_, oc, none⟩) n kc] ∧ Box wr p 24 (flatT l) ∧ Below w.heap.size w wr) (fun _ iv _ => n - (intOf iv).toNat)
      case atStart => exact ⟨0, false, l0, Nat.zero_le _, rfl, rfl, HLO.out, ⟨Nat.le_refl _, fun _ j h => absurd h (Nat.not_lt_zero j), fun h => (by cases h)⟩, BQg.out, BQl.out, W.out⟩
      case round =>
        obtain ⟨i, mk, l, hi, rfl, rfl, hlo, hsl, b1, b2, hb⟩ := hrel
        replace HLO := Lib.hid hlo
        have HSL := Lib.hid hsl
        replace BQg := Lib.hid b1
        replace BQl := Lib.hid b2
        replace W := Lib.hid hb
        clear hlo hsl b1 b2 hb
        have hi0 : (0 : Int) ≤ (i : Int) := Int.natCast_nonneg _
        by_cases hlt : i < n
        · have fi : decide ((i : Int) < (n : Int)) = true := decide_eq_true (by omega)
          have hii : (i : Int) < (n : Int) := by omega
          have hbb := BQg.out
          have gc0 : wr.cell? ⟨qg, 0, none⟩ = some (.slice (some ⟨ba, oa, none⟩) n ka) := hbb.cell 0 _ rfl
          have gc1 : wr.cell? ⟨qg, 1, none⟩ = some (.slice (some ⟨bb, ob, none⟩) n kb) := hbb.cell 1 _ rfl
          have gc2 : wr.cell? ⟨qg, 2, none⟩ = some (.slice (some ⟨bc_, oc, none⟩) n kc) := hbb.cell 2 _ rfl
          clear hbb
          go_wp2_with fail
          clear gc0 gc1 gc2
          have hV : TupsV wr (.slice (some ⟨p, 0, none⟩) n n) l := by
            have h := BQl.out.tups (by rw [HLO.out.1, HN.out]; omega) n
            rw [HLO.out.1, HN.out] at h
            exact h
          refine (best_any g HR.out l HLO.out.1 (sol_low HLO.out) i (by rw [HN.out]; exact hlt) _ _ wr (HV.out.on W.out) hV).mono ?_
          rintro e w3 ⟨rfl, hb⟩
          replace BQg := Lib.hid (BQg.out.keep (grown_of_below hb none))
          replace BQl := Lib.hid (BQl.out.keep (grown_of_below hb none))
          replace W := Lib.hid (W.out.trans (hb.mono W.out.size))
          clear hb hV
          obtain ⟨u, hu⟩ : ∃ u, (g.choose l i).2 = u := ⟨_, rfl⟩
          rw [hu]
          have HU := Lib.hid hu
          clear hu
          obtain ⟨t, ht⟩ : ∃ t, l.getD i .zero = t := ⟨_, rfl⟩
          have HT := Lib.hid ht
          clear ht
          have HLI := Lib.hid (show i < l.length by rw [HLO.out.1, HN.out]; exact hlt)
          unfold tc
          go_upto_region 12 with (fail)
          have bq : Box (w3.alloc (.cells #[.bool u.top, .int .i64 u.a, .int .i64 u.b, .int .i64 u.c, .int .i64 u.d] 24)) w3.heap.size 24 #[.bool u.top, .int .i64 u.a, .int .i64 u.b, .int .i64 u.c, .int .i64 u.d] := Box.new _ _ _
          have hgq := World.grownBy_alloc w3 (.cells #[.bool u.top, .int .i64 u.a, .int .i64 u.b, .int .i64 u.c, .int .i64 u.d] 24) none
          replace BQg := Lib.hid (BQg.out.keep hgq)
          replace BQl := Lib.hid (BQl.out.keep hgq)
          replace W := Lib.hid (W.out.trans ((below_of_grown hgq).mono W.out.size))
          generalize (w3.alloc (.cells #[.bool u.top, .int .i64 u.a, .int .i64 u.b, .int .i64 u.c, .int .i64 u.d] 24)) = w4 at bq BQg BQl W ⊢
          generalize w3.heap.size = qt at bq ⊢
          have BQt := Lib.hid bq
          clear bq hgq
          have kl0 : ∀ (d : Nat) (os : Array Obj), (grow (redrawn w4 d) os).cell? ⟨p, i * 5, none⟩ = some (.bool t.top) := fun d os => box_tcell (BQl.out.keep (grown_of_below (below_regrown w4 d os) none)) HLI.out HT.out 0 _ rfl
          have kl1 : ∀ (d : Nat) (os : Array Obj), (grow (redrawn w4 d) os).cell? ⟨p, i * 5 + 1, none⟩ = some (.int .i64 t.a) := fun d os => box_tcell (BQl.out.keep (grown_of_below (below_regrown w4 d os) none)) HLI.out HT.out 1 _ rfl
          have kl2 : ∀ (d : Nat) (os : Array Obj), (grow (redrawn w4 d) os).cell? ⟨p, i * 5 + 2, none⟩ = some (.int .i64 t.b) := fun d os => box_tcell (BQl.out.keep (grown_of_below (below_regrown w4 d os) none)) HLI.out HT.out 2 _ rfl
          have kl3 : ∀ (d : Nat) (os : Array Obj), (grow (redrawn w4 d) os).cell? ⟨p, i * 5 + 3, none⟩ = some (.int .i64 t.c) := fun d os => box_tcell (BQl.out.keep (grown_of_below (below_regrown w4 d os) none)) HLI.out HT.out 3 _ rfl
          have kl4 : ∀ (d : Nat) (os : Array Obj), (grow (redrawn w4 d) os).cell? ⟨p, i * 5 + 4, none⟩ = some (.int .i64 t.d) := fun d os => box_tcell (BQl.out.keep (grown_of_below (below_regrown w4 d os) none)) HLI.out HT.out 4 _ rfl
          have kb0 : ∀ (d : Nat) (os : Array Obj), (grow (redrawn w4 d) os).cell? ⟨qt, 0, none⟩ = some (.bool u.top) := fun d os => (BQt.out.keep (grown_of_below (below_regrown w4 d os) none)).cell 0 _ rfl
          have kb1 : ∀ (d : Nat) (os : Array Obj), (grow (redrawn w4 d) os).cell? ⟨qt, 1, none⟩ = some (.int .i64 u.a) := fun d os => (BQt.out.keep (grown_of_below (below_regrown w4 d os) none)).cell 1 _ rfl
          have kb2 : ∀ (d : Nat) (os : Array Obj), (grow (redrawn w4 d) os).cell? ⟨qt, 2, none⟩ = some (.int .i64 u.b) := fun d os => (BQt.out.keep (grown_of_below (below_regrown w4 d os) none)).cell 2 _ rfl
          have kb3 : ∀ (d : Nat) (os : Array Obj), (grow (redrawn w4 d) os).cell? ⟨qt, 3, none⟩ = some (.int .i64 u.c) := fun d os => (BQt.out.keep (grown_of_below (below_regrown w4 d os) none)).cell 3 _ rfl
          have kb4 : ∀ (d : Nat) (os : Array Obj), (grow (redrawn w4 d) os).cell? ⟨qt, 4, none⟩ = some (.int .i64 u.d) := fun d os => (BQt.out.keep (grown_of_below (below_regrown w4 d os) none)).cell 4 _ rfl
          have c1 := fun d os => rRCmp w4 u t 0 d os
          refine wp_region_quiet_below (by kernel_rfl) (by kernel_rfl) ?_
          repeat (first | go_big_quiet_step (with_reducible exact c1 _ _) | quiet_step (with_reducible exact c1 _ _))
          refine wpQuiet_nil ?_
          intro _ hw'
          obtain ⟨⟨dq, osq⟩, hw''⟩ := hw'
          subst hw''
          clear c1 kb0 kb1 kb2 kb3 kb4 kl0 kl1 kl2 kl3 kl4
          have hb := below_regrown w4 dq osq
          replace BQg := Lib.hid (BQg.out.keep (grown_of_below hb none))
          replace BQl := Lib.hid (BQl.out.keep (grown_of_below hb none))
          replace W := Lib.hid (W.out.trans (hb.mono W.out.size))
          replace BQt := Lib.hid (BQt.out.keep (grown_of_below hb none))
          clear hb
          generalize (grow (redrawn w4 dq) osq) = w6 at BQg BQl W BQt ⊢
          have hnx : i + 1 ≤ n := hlt
          by_cases hc : 0 < P.Tup.cmp u t 0
          · have fc : decide (0 < P.Tup.cmp u t 0) = true := decide_eq_true hc
            try rw [fc]
            have hnl : ¬ P.Tup.le (g.choose l i).2 (l.getD i .zero) := by rw [HU.out, HT.out]; exact (P.Tup.cmp_gt _ _).1 hc
            have hig : i < g.owner.length := by rw [HN.out]; exact hlt
            have HLO2 := Lib.hid (HLO.out.lifted HR.out hig)
            have HSL2 := Lib.hid (Nat.lt_of_lt_of_le (P.slack_lifted HR.out HLO.out.rng hig hnl) HSL.out.1)
            rw [HU.out] at HLO2 HSL2
            clear hc hnl hig
            have hbb := BQt.out
            have yc0 : w6.cell? ⟨qt, 0, none⟩ = some (.bool u.top) := hbb.cell 0 _ rfl
            have yc1 : w6.cell? ⟨qt, 1, none⟩ = some (.int .i64 u.a) := hbb.cell 1 _ rfl
            have yc2 : w6.cell? ⟨qt, 2, none⟩ = some (.int .i64 u.b) := hbb.cell 2 _ rfl
            have yc3 : w6.cell? ⟨qt, 3, none⟩ = some (.int .i64 u.c) := hbb.cell 3 _ rfl
            have yc4 : w6.cell? ⟨qt, 4, none⟩ = some (.int .i64 u.d) := hbb.cell 4 _ rfl
            clear hbb
            have tc0 : w6.cell? ⟨p, i * 5, none⟩ = some (.bool t.top) := box_tcell BQl.out HLI.out HT.out 0 _ rfl
            have tf0 : w6.frozen? ⟨p, i * 5, none⟩ = false := BQl.out.frozen _
            have tc1 : w6.cell? ⟨p, i * 5 + 1, none⟩ = some (.int .i64 t.a) := box_tcell BQl.out HLI.out HT.out 1 _ rfl
            have tf1 : w6.frozen? ⟨p, i * 5 + 1, none⟩ = false := BQl.out.frozen _
            have tc2 : w6.cell? ⟨p, i * 5 + 2, none⟩ = some (.int .i64 t.b) := box_tcell BQl.out HLI.out HT.out 2 _ rfl
            have tf2 : w6.frozen? ⟨p, i * 5 + 2, none⟩ = false := BQl.out.frozen _
            have tc3 : w6.cell? ⟨p, i * 5 + 3, none⟩ = some (.int .i64 t.c) := box_tcell BQl.out HLI.out HT.out 3 _ rfl
            have tf3 : w6.frozen? ⟨p, i * 5 + 3, none⟩ = false := BQl.out.frozen _
            have tc4 : w6.cell? ⟨p, i * 5 + 4, none⟩ = some (.int .i64 t.d) := box_tcell BQl.out HLI.out HT.out 4 _ rfl
            have tf4 : w6.frozen? ⟨p, i * 5 + 4, none⟩ = false := BQl.out.frozen _
            go_wp2_with fail
            clear tc0 tf0 yc0 tc1 tf1 yc1 tc2 tf2 yc2 tc3 tf3 yc3 tc4 tf4 yc4
            have b2 := BQl.out.setAt i HLI.out u
            have b1 := far5 (q := p) (j := i) u BQg.out (BQg.out.ne BQl.out (by decide))
            have hb2 : Below w.heap.size w (((((w6.setCell ⟨p, i * 5, none⟩ (.bool u.top)).setCell ⟨p, i * 5 + 1, none⟩ (.int .i64 u.a)).setCell ⟨p, i * 5 + 2, none⟩ (.int .i64 u.b)).setCell ⟨p, i * 5 + 3, none⟩ (.int .i64 u.c)).setCell ⟨p, i * 5 + 4, none⟩ (.int .i64 u.d)) := ((((W.out.setCell (p := ⟨p, _, none⟩) HP.out _).setCell (p := ⟨p, _, none⟩) HP.out _).setCell (p := ⟨p, _, none⟩) HP.out _).setCell (p := ⟨p, _, none⟩) HP.out _).setCell (p := ⟨p, _, none⟩) HP.out _
            generalize (((((w6.setCell ⟨p, i * 5, none⟩ (.bool u.top)).setCell ⟨p, i * 5 + 1, none⟩ (.int .i64 u.a)).setCell ⟨p, i * 5 + 2, none⟩ (.int .i64 u.b)).setCell ⟨p, i * 5 + 3, none⟩ (.int .i64 u.c)).setCell ⟨p, i * 5 + 4, none⟩ (.int .i64 u.d)) = w7 at b1 b2 hb2 ⊢
            go_roundw
            case rel => exact ⟨i + 1, true, l.set i u, hnx, rfl, by first | rfl | go_num, HLO2.out, ⟨Nat.le_of_lt HSL2.out, fun h => (by cases h), fun _ => HSL2.out⟩, b1, b2, hb2⟩
            case measure => simp [intOf]; omega
          · have fc : decide (0 < P.Tup.cmp u t 0) = false := decide_eq_false hc
            try rw [fc]
            have HRS := Lib.hid (show mk = false → ∀ j, j < i + 1 → P.Rest g l j from fun hm j hj => by
              by_cases e : j = i
              · rw [e]
                unfold P.Rest
                rw [HU.out, HT.out]
                exact (P.Tup.cmp_le _ _).1 (by omega)
              · exact HSL.out.2.1 hm j (by omega))
            clear hc
            go_wp2_with fail
            go_roundw
            case rel => exact ⟨i + 1, mk, l, hnx, rfl, by first | rfl | go_num, HLO.out, ⟨HSL.out.1, HRS.out, HSL.out.2.2⟩, BQg.out, BQl.out, W.out⟩
            case measure => simp [intOf]; omega
        · have fi : decide ((i : Int) < (n : Int)) = false := decide_eq_false (by omega)
          have HM1 := Lib.hid (mu2_is BQl.out (by rw [HLO.out.1, HN.out]) g mk)
          have HLT := Lib.hid (show 2 * P.slack g.tups l + isTv (.bool mk) < 2 * P.slack g.tups l0 + isTv (.bool true) from by
            have h := HSL.out
            cases mk with
            | true => have := h.2.2 rfl; show 2 * _ + 1 < 2 * _ + 1; omega
            | false => have := h.1; show 2 * _ + 0 < 2 * _ + 1; omega)
          have HFX2 := Lib.hid (show mk = false → P.Fixed g l from fun h j hj => HSL.out.2.1 h j (by rw [HN.out] at hj; omega))
          go_wp2_with fail
          go_roundw
          case rel => exact ⟨mk, l, rfl, HLO.out, HFX2.out, BQg.out, BQl.out, W.out⟩
          case measure => rw [HM0.out, HM1.out]; exact HLT.out
end W
end Go.Proofs.Yteeaojciobmcaaa
