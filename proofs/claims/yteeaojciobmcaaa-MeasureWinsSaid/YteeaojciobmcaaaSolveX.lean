/- Solve: the program's. -/
import Derived.Test.YteeaojciobmcaaaLifA
import Derived.Test.YteeaojciobmcaaaMea
import Derived.Deep.Cut
import Derived.Lib.Hide
import Derived.Deep.QuietTactic
import Derived.BigQuiet
namespace Go.Proofs.Yteeaojciobmcaaa
open Go.RowKit
namespace W

/-- What a block's cells say. -/
def batC (w : World) (b j : Nat) : Bool := match w.cell? ⟨b, j, none⟩ with | some (.bool x) => x | _ => false
def iatC (w : World) (b j : Nat) : Int := match w.cell? ⟨b, j, none⟩ with | some (.int _ x) => x | _ => 0
def tatC (w : World) (b j : Nat) : P.Tup := ⟨batC w b (j * 5), iatC w b (j * 5 + 1), iatC w b (j * 5 + 2), iatC w b (j * 5 + 3), iatC w b (j * 5 + 4)⟩
def mu (g : P.G) (n pt pw : Nat) (v : Value) (w : World) : Nat := P.slack g.tups ((List.range n).map (tatC w pt)) * (2 * n + 1) + (P.waiting (batC w pw) n + (n - (intOf v).toNat))
section
variable {wb : World} {N n qL pt pB pp pw qo ko : Nat} {s0 s1 s2 : Value} {bt : P.Tup} {O : List Nat} {B : List (List Int)} {L : List Value} {l : List P.Tup} {m : Nat → Int} {Wt : Nat → Bool} {w : World}
theorem Lm.mu (h : Lm wb N n qL pt pB pp pw qo ko s0 s1 s2 bt O B L l m Wt w) (g : P.G) (k : Nat) : mu g n pt pw (.int .i64 (k : Int)) w = P.slack g.tups l * (2 * n + 1) + (P.waiting Wt n + (n - k)) := by
  unfold W.mu
  have e1 : (List.range n).map (tatC w pt) = l := by
    apply List.ext_getElem (by simp [h.llen])
    intro j h1 h2
    have hj : j < n := by simpa using h1
    rw [List.getElem_map, List.getElem_range]
    have ht : l.getD j .zero = l[j] := by rw [List.getD_eq_getElem?_getD, List.getElem?_eq_getElem h2]; rfl
    have c := fun i v hi => h.tcell hj ht i v hi
    have c0 : w.cell? ⟨pt, j * 5, none⟩ = _ := c 0 _ rfl
    have c1 := c 1 _ rfl
    have c2 := c 2 _ rfl
    have c3 := c 3 _ rfl
    have c4 := c 4 _ rfl
    unfold tatC batC iatC
    rw [c0, c1, c2, c3, c4]
  have e2 : P.waiting (batC w pw) n = P.waiting Wt n := P.unmet_congr fun y hy => by
    have c := h.wts.cell y _ (bl_at hy)
    unfold batC
    rw [c]
  rw [e1, e2]
  rfl
end
/-- What Solve gives. -/
def SolV (w : World) (g : P.G) (lo : Nat) (v : Value) : Prop := ∃ pt l, v = .slice (some ⟨pt, 0, none⟩) g.owner.length g.owner.length ∧ P.IsSol g l ∧ lo ≤ pt ∧ Box w pt 26 (flatT l)
set_option maxRecDepth 100000 in
set_option maxHeartbeats 1000000 in
theorem solve_wrong (g : P.G) (hok : g.ok = false) (v : Value) (w : World) (hv : GameV w v g) : Calls Try.prog 26 #[v] w fun e w' => e = .returned (.slice none 0 0) ∧ Below w.heap.size w w' := by
  have hq0 : g.right.2 ≠ 0 := by unfold P.G.ok at hok; exact beq_eq_false_iff_ne.1 hok
  clear hok
  have HV := Lib.hid hv
  obtain ⟨a, b, c, rfl, -⟩ := hv
  go_enter Try.func26, Try.ntmps26
  go_wp2_with fail
  have bx0 : Box (w.alloc (.cells #[a, b, c] 33)) (w.heap.size) 33 #[a, b, c] := Box.new w 33 #[a, b, c]
  have hbq : Below w.heap.size w (w.alloc (.cells #[a, b, c] 33)) := (Below.refl _ w).alloc (Nat.le_refl _) _
  have hle0 : w.heap.size ≤ w.heap.size := Nat.le_refl _
  generalize (w.alloc (.cells #[a, b, c] 33)) = w0 at bx0 hbq  ⊢
  have BQg := Lib.hid bx0
  have W := Lib.hid hbq
  have LEg := Lib.hid hle0
  clear hbq hle0 bx0 
  obtain ⟨qg, hqg⟩ : ∃ qg, w.heap.size = qg := ⟨_, rfl⟩
  rw [hqg] at BQg ⊢
  have LEg : Hid (w.heap.size ≤ qg) := Lib.hid (by omega)
  clear hqg
  refine (right_any g _ _ (HV.out.on W.out)).mono ?_
  rintro e w1 ⟨rfl, hb⟩
  replace BQg := Lib.hid (BQg.out.keep (grown_of_below hb none))
  replace W := Lib.hid (W.out.trans (hb.mono W.out.size))
  clear hb
  obtain ⟨z, hz⟩ : ∃ z, g.right.2 = z := ⟨_, rfl⟩
  rw [hz] at hq0 ⊢
  have fq : (((z : Nat) : Int) != 0) = true := by rw [bne_iff_ne]; omega
  clear hz hq0
  go_wp2_with fail
  go_ret
  exact ⟨rfl, W.out⟩
theorem sol_low {g : P.G} {l : List P.Tup} (h : P.Low g l) : ∀ j k, k < 4 → -9223372036854775808 ≤ ct (l.getD j .zero) k := by
  intro j k hk
  rcases Nat.lt_or_ge j g.owner.length with hj | hj
  · have h1 := (h.2.1 j hj).1
    unfold P.Tup.inR at h1
    match k, hk with
    | 0, _ => show _ ≤ (l.getD j .zero).a; omega
    | 1, _ => show _ ≤ (l.getD j .zero).b; omega
    | 2, _ => show _ ≤ (l.getD j .zero).c; omega
    | 3, _ => show _ ≤ (l.getD j .zero).d; omega
  · rw [List.getD_eq_getElem?_getD, List.getElem?_eq_none (by rw [h.1]; exact hj)]
    match k, hk with
    | 0, _ | 1, _ | 2, _ | 3, _ => decide
set_option maxRecDepth 100000 in
set_option maxHeartbeats 4000000 in
theorem solve_any (g : P.G) (hr : g.Right) (v : Value) (w : World) (hv : GameV w v g) : Calls Try.prog 26 #[v] w fun e w' => ∃ u, e = .returned u ∧ SolV w' g w.heap.size u ∧ Below w.heap.size w w' := by
  have hop := hr.prio
  have hmp := hr.moves
  have hmany := hr.many
  have h0 := hr.pos
  obtain ⟨n, hn⟩ : ∃ n, g.owner.length = n := ⟨_, rfl⟩
  rw [hn] at hop hmp hmany h0
  have HV := Lib.hid hv
  obtain ⟨ba, oa, ka, bb, ob, kb, bc_, oc, kc, rfl, -, -, hcc⟩ := hv.open_ hn hop hmp h0
  have HROW := Lib.hid (rows_of hr hn hcc)
  have HR := Lib.hid hr
  have HN := Lib.hid hn
  have hq0 : g.right.2 = 0 := by
    have := (P.G.ok_iff g).2 hr
    unfold P.G.ok at this
    exact beq_iff_eq.1 this
  clear hcc hr hn hop hmp hv
  go_enter Try.func26, Try.ntmps26
  go_wp2_with fail
  have bx0 : Box (w.alloc (.cells #[.slice (some ⟨ba, oa, none⟩) n ka, .slice (some ⟨bb, ob, none⟩) n kb, .slice (some ⟨bc_, oc, none⟩) n kc] 33)) (w.heap.size) 33 #[.slice (some ⟨ba, oa, none⟩) n ka, .slice (some ⟨bb, ob, none⟩) n kb, .slice (some ⟨bc_, oc, none⟩) n kc] := Box.new w 33 #[.slice (some ⟨ba, oa, none⟩) n ka, .slice (some ⟨bb, ob, none⟩) n kb, .slice (some ⟨bc_, oc, none⟩) n kc]
  have hbq : Below w.heap.size w (w.alloc (.cells #[.slice (some ⟨ba, oa, none⟩) n ka, .slice (some ⟨bb, ob, none⟩) n kb, .slice (some ⟨bc_, oc, none⟩) n kc] 33)) := (Below.refl _ w).alloc (Nat.le_refl _) _
  have hle0 : w.heap.size ≤ w.heap.size := Nat.le_refl _
  generalize (w.alloc (.cells #[.slice (some ⟨ba, oa, none⟩) n ka, .slice (some ⟨bb, ob, none⟩) n kb, .slice (some ⟨bc_, oc, none⟩) n kc] 33)) = w0 at bx0 hbq  ⊢
  have BQg := Lib.hid bx0
  have W := Lib.hid hbq
  have LEg := Lib.hid hle0
  clear hbq hle0 bx0 
  obtain ⟨qg, hqg⟩ : ∃ qg, w.heap.size = qg := ⟨_, rfl⟩
  rw [hqg] at BQg ⊢
  have LEg : Hid (w.heap.size ≤ qg) := Lib.hid (by omega)
  clear hqg
  refine (right_any g _ _ (HV.out.on W.out)).mono ?_
  rintro e w1 ⟨rfl, hb⟩
  replace BQg := Lib.hid (BQg.out.keep (grown_of_below hb none))
  replace W := Lib.hid (W.out.trans (hb.mono W.out.size))
  clear hb
  obtain ⟨z, hz⟩ : ∃ z, g.right.2 = z := ⟨_, rfl⟩
  rw [hz] at hq0 ⊢
  have fq : (((z : Nat) : Int) != 0) = false := by rw [bne_eq_false_iff_eq]; omega
  clear hz hq0
  have hbb := BQg.out
  have gc0 : w1.cell? ⟨qg, 0, none⟩ = some (.slice (some ⟨ba, oa, none⟩) n ka) := hbb.cell 0 _ rfl
  have gc1 : w1.cell? ⟨qg, 1, none⟩ = some (.slice (some ⟨bb, ob, none⟩) n kb) := hbb.cell 1 _ rfl
  have gc2 : w1.cell? ⟨qg, 2, none⟩ = some (.slice (some ⟨bc_, oc, none⟩) n kc) := hbb.cell 2 _ rfl
  clear hbb
  go_wp2_with fail
  clear gc0 gc1 gc2 fq
  refine (begun_any g HR.out n HN.out ba oa ka bb ob kb bc_ oc kc w1 (HV.out.on W.out) (fun j hj => by
    obtain ⟨b, off, k, h⟩ := HROW.out j hj
    exact ⟨b, off, k, fun w' hw => h w' (W.out.trans (hw.mono W.out.size))⟩)).mono ?_
  rintro e w2 ⟨N, qL, pt, pB, pp, pw, qo, ko, O, L, m, Wt, rfl, hO, hL, hm, hW⟩
  have HL0 := Lib.hid hL
  have HO := Lib.hid hO
  have HM := Lib.hid hm
  have HPL := Lib.hid (hO.places hm)
  have HI0 := Lib.hid (P.SInv.start g m Wt n (fun i hi => by
    rw [HN.out] at hi
    obtain ⟨y, h1, h2, -⟩ := HPL.out i hi
    exact ⟨y, h1, h2⟩) hW)
  rw [HN.out] at HI0
  have HV1 := Lib.hid (HV.out.on W.out)
  clear hL hO hm hW BQg
  go_wp2_with fail
  go_loopw [6] (fun iv wr => ∃ (k : Nat) (l : List P.Tup) (Wt : Nat → Bool), k ≤ n ∧ iv = .int .i64 (k : Int) ∧ Lm w1 N n qL pt pB pp pw qo ko (.slice (some ⟨ba, oa, none⟩) n ka) (.slice (some ⟨bb, ob, none⟩) n kb) (.slice (some ⟨bc_, oc, none⟩) n kc) g.tups O (P.prv n (P.pairs g O)) L l m Wt wr ∧ P.SInv g m l Wt k) (fun iv wr => mu g n pt pw iv wr)
  case atStart => exact ⟨0, _, _, Nat.zero_le _, rfl, HL0.out, HI0.out⟩
  case round =>
    obtain ⟨k, l, Wt2, hk, rfl, hL, hI⟩ := hrel
    have HL := Lib.hid hL
    have HI := Lib.hid hI
    clear hL hI
    have hk0 : (0 : Int) ≤ (k : Int) := Int.natCast_nonneg _
    have lc9 : wr.cell? ⟨qL, 9, none⟩ = some (.slice (some ⟨qo, 0, none⟩) n ko) := HL.out.lbox.cell 9 _ rfl
    by_cases hlt : k < n
    · have fk : decide ((k : Int) < (n : Int)) = true := decide_eq_true (by omega)
      have hki : (k : Int) < (n : Int) := by omega
      have HLT := Lib.hid hlt
      have lc11 : wr.cell? ⟨qL, 11, none⟩ = some (.slice (some ⟨pw, 0, none⟩) n n) := HL.out.lbox.cell 11 _ rfl
      have wc := HL.out.wts.cell k _ (bl_at hlt)
      have HMU := Lib.hid (HL.out.mu g k)
      rcases (show Wt2 k = true ∨ Wt2 k = false by cases Wt2 k <;> simp) with hw | hw
      · rw [hw] at wc
        have HW := Lib.hid hw
        clear hw hlt
        obtain ⟨x, hx⟩ : ∃ x, O[k]? = some x := ⟨_, List.getElem?_eq_getElem (by rw [HO.out.len]; exact HLT.out)⟩
        have HX := Lib.hid hx
        clear hx
        go_wp2_with fail
        clear lc9 lc11 wc
        refine (liftAt_any g HR.out n HN.out w1 N qL pt pB pp pw qo ko ba oa ka bb ob kb bc_ oc kc O L l m Wt2 _ rfl HV1.out HO.out HM.out (sol_low HI.out.low) k x HX.out wr HL.out).mono ?_
        rintro e w4 ⟨first, l', Wt', rfl, hL', hD⟩
        have HL4 := Lib.hid hL'
        have HMU4 := Lib.hid (hL'.mu g first)
        have hxn : x < g.owner.length := by
          rw [HN.out]
          exact (HO.out.2 x).1 (List.mem_of_getElem? HX.out)
        have hxu : ∀ i, i < g.owner.length → m i = (k : Int) → i = x := by
          intro i hi e
          rw [HN.out] at hi
          obtain ⟨y, h1, h2, h3⟩ := HPL.out i hi
          have : y = k := by omega
          rw [this, HX.out] at h3
          injection h3 with h3
          exact h3.symm
        have HNX := Lib.hid (show first ≤ n ∧ P.SInv g m l' Wt' first ∧ P.slack g.tups l' * (2 * n + 1) + (P.waiting Wt' n + (n - first)) < P.slack g.tups l * (2 * n + 1) + (P.waiting Wt2 n + (n - k)) from by
          rcases hD with ⟨h1, rfl, rfl, h4⟩ | ⟨h1, rfl, h3, h4, h5⟩
          · refine ⟨hk, HI.out.same h1 hxu h4, ?_⟩
            have := P.waiting_off HLT.out HW.out h4
            omega
          · refine ⟨by omega, HI.out.lifted HR.out hxn hxu h3 h4 h5 fun i hi hxi => ?_, ?_⟩
            · have hxn' := hxn
              rw [HN.out] at hxn' hi
              exact (P.prv_mem hxn' _).2 ⟨i, (HO.out.2 i).2 hi, ⟨_, hxi, Int.toNat_natCast x⟩, rfl⟩
            · exact P.measure_lt (P.slack_lifted HR.out HI.out.low.rng hxn h1) (P.waiting_le _ _) (by omega))
        clear hL' hD hxn hxu
        go_wp2_with fail
        go_roundw
        case rel => exact ⟨first, l', Wt', HNX.out.1, rfl, HL4.out, HNX.out.2.1⟩
        case measure => rw [HMU.out, HMU4.out]; exact HNX.out.2.2
      · rw [hw] at wc
        have HI2 := Lib.hid (HI.out.skip hw)
        clear hw hlt
        have HMU2 := Lib.hid (HL.out.mu g (k + 1))
        have hlt := HLT.out
        go_wp2_with fail
        clear lc9 lc11 wc
        go_roundw
        case rel => exact ⟨k + 1, l, Wt2, by omega, by first | rfl | go_num, HL.out, HI2.out⟩
        case measure =>
          have e : Value.int .i64 ((k : Int) + 1) = .int .i64 ((k + 1 : Nat) : Int) := rfl
          rw [e, HMU.out, HMU2.out]
          omega
    · have fk : decide ((k : Int) < (n : Int)) = false := decide_eq_false (by omega)
      have hkn : k = n := by omega
      subst hkn
      have lc7 : wr.cell? ⟨qL, 7, none⟩ = some (.slice (some ⟨pt, 0, none⟩) k k) := HL.out.lbox.cell 7 _ rfl
      have HS := Lib.hid (HI.out.done fun i hi => by
        rw [HN.out] at hi
        obtain ⟨y, h1, h2, -⟩ := HPL.out i hi
        exact ⟨y, h1, h2⟩)
      go_wp2_with fail
      refine bodyPost_ret (v := .slice (some ⟨pt, 0, none⟩) k k) (by simp [results, Try.results26, go_sem]) rfl ?_
      refine ⟨_, rfl, ⟨pt, l, by rw [HN.out], HS.out, Nat.le_trans W.out.size HL.out.los.2.1, HL.out.tups⟩, W.out.trans (HL.out.low.mono W.out.size)⟩
end W
end Go.Proofs.Yteeaojciobmcaaa
