/- The document's rounds: its Step, and its Attract. -/
import Derived.Test.YtpjmboonaciplaaDoorBools
import Derived.Test.YtpjmboonaciplaaDoorAttA
import Derived.Deep.Cut
namespace Go.Proofs.YtpjmboonaciplaaDoor
open Go.RowKit
namespace W

set_option maxRecDepth 100000 in
set_option maxHeartbeats 1000000 in
theorem step_any (g : P.G) (hr : g.Right) (I : BitVec 256) (p : Int) (fa : Nat → Bool) (i : Nat) (v vi va : Value) (w : World) (hv : GameV w v g) (hI : Bl w vi g.owner.length (fun i => I.getLsbD i)) (hA : Bl w va g.owner.length fa) (hi : i < g.owner.length) :
    Calls Tryd.prog 55 #[v, vi, .int .i64 p, va, .int .i64 (i : Int)] w fun e w' => e = .returned (.bool (P.step g I p fa i)) ∧ Below w.heap.size w w' := by
  have hop := hr.prio
  have hmp := hr.moves
  have hmany := hr.many
  have h0 := hr.pos
  obtain ⟨n, hn⟩ : ∃ n, g.owner.length = n := ⟨_, rfl⟩
  rw [hn] at hop hmp hmany h0 hi hI hA
  obtain ⟨ba, oa, ka, bb, ob, kb, bc, oc, kc, rfl, hca, -, hcc⟩ := hv.open_ hn hop hmp h0
  have HCA := Lib.hid hca
  have HCC := Lib.hid hcc
  have HR := Lib.hid hr
  have HN := Lib.hid hn
  clear hca hcc hr hn hop hmp hv
  have IB := Lib.hid hI
  have AB := Lib.hid hA
  obtain ⟨bi, ki, rfl, hbi, -⟩ := hI
  obtain ⟨bA, kA, rfl, hbA, -⟩ := hA
  have hat := HR.out.at i (by rw [HN.out]; exact hi)
  obtain ⟨xv, hcx, hxv⟩ := HCC.out w (Below.refl _ _) i hi
  have hco := HCA.out w (Below.refl _ _) i hi
  obtain ⟨ms, hms⟩ : ∃ ms, g.moves.getD i [] = ms := ⟨_, rfl⟩
  obtain ⟨zo, hzo⟩ : ∃ z, g.owner.getD i 0 = z := ⟨_, rfl⟩
  rw [hms] at hxv hat
  rw [hzo] at hco
  obtain ⟨-, -, -, hne, hrise⟩ := hat
  rw [HN.out] at hrise
  have hlen : ms.length ≤ 200 := P.rise_len hrise hmany
  obtain ⟨mo, mk, rfl, -, hmc⟩ := hxv
  obtain ⟨bm, om, rfl, hbm, hmc⟩ := hmc.resolve_left hne
  have HRISE := Lib.hid hrise
  have HMS := Lib.hid hms
  have HZO := Lib.hid hzo
  have HMC := Lib.hid hmc
  have LBC := Lib.hid (cell_lt hcx)
  have LBA := Lib.hid (cell_lt hco)
  have HCX := Lib.hid hcx
  have HCO := Lib.hid hco
  have LBM := Lib.hid hbm
  have LBI := Lib.hid hbi
  have LBA2 := Lib.hid hbA
  have hi0 : (0 : Int) ≤ (i : Int) := Int.natCast_nonneg _
  have hii : (i : Int) < (n : Int) := by omega
  clear hne hrise hms hzo hmc hcx hco hbm hbi hbA
  go_enter Tryd.func55, Tryd.ntmps55
  go_wp2_with fail
  have bx0 : Box (w.alloc (.cells #[.slice (some ⟨ba, oa, none⟩) n ka, .slice (some ⟨bb, ob, none⟩) n kb, .slice (some ⟨bc, oc, none⟩) n kc] 25)) (w.heap.size) 25 #[.slice (some ⟨ba, oa, none⟩) n ka, .slice (some ⟨bb, ob, none⟩) n kb, .slice (some ⟨bc, oc, none⟩) n kc] := Box.new w 25 #[.slice (some ⟨ba, oa, none⟩) n ka, .slice (some ⟨bb, ob, none⟩) n kb, .slice (some ⟨bc, oc, none⟩) n kc]
  have hbq : Below w.heap.size w (w.alloc (.cells #[.slice (some ⟨ba, oa, none⟩) n ka, .slice (some ⟨bb, ob, none⟩) n kb, .slice (some ⟨bc, oc, none⟩) n kc] 25)) := (Below.refl _ w).alloc (Nat.le_refl _) _
  have hle0 : w.heap.size ≤ w.heap.size := Nat.le_refl _
  generalize (w.alloc (.cells #[.slice (some ⟨ba, oa, none⟩) n ka, .slice (some ⟨bb, ob, none⟩) n kb, .slice (some ⟨bc, oc, none⟩) n kc] 25)) = w0 at bx0 hbq  ⊢
  have BQg := Lib.hid bx0
  have W := Lib.hid hbq
  have LEg := Lib.hid hle0
  clear hbq hle0 bx0 
  obtain ⟨qg, hqg⟩ : ∃ qg, w.heap.size = qg := ⟨_, rfl⟩
  rw [hqg] at BQg ⊢
  have LEg : Hid (w.heap.size ≤ qg) := Lib.hid (by omega)
  clear hqg
  have hbb := BQg.out
  have gc0 : w0.cell? ⟨qg, 0, none⟩ = some (.slice (some ⟨ba, oa, none⟩) n ka) := hbb.cell 0 _ rfl
  have gc1 : w0.cell? ⟨qg, 1, none⟩ = some (.slice (some ⟨bb, ob, none⟩) n kb) := hbb.cell 1 _ rfl
  have gc2 : w0.cell? ⟨qg, 2, none⟩ = some (.slice (some ⟨bc, oc, none⟩) n kc) := hbb.cell 2 _ rfl
  clear hbb
  have cx := (W.out.cell (p := ⟨bc, oc + i, none⟩) LBC.out).trans HCX.out
  have co := (W.out.cell (p := ⟨ba, oa + i, none⟩) LBA.out).trans HCO.out
  go_loopw [11, 12, 13] (fun c d kv wr => ∃ k : Nat, c = .int .i64 ((((ms.take k).filter (P.has I)).length : Nat) : Int) ∧ d = .int .i64 ((((ms.take k).filter (fun m => P.has I m && fa m.toNat)).length : Nat) : Int) ∧ kv = .int .i64 (k : Int) ∧ k ≤ ms.length ∧ wr = w0) (fun _ _ kv _ => ms.length - (intOf kv).toNat)
  case atStart => exact ⟨0, by simp, by simp, rfl, Nat.zero_le _, by first | trivial | rfl⟩
  case round =>
    obtain ⟨k, rfl, rfl, rfl, hk, hw⟩ := hrel
    obtain rfl : w0 = wr := hw.symm
    clear hw
    have hk0 : (0 : Int) ≤ (k : Int) := Int.natCast_nonneg _
    obtain ⟨c, hc⟩ : ∃ c, ((ms.take k).filter (P.has I)).length = c := ⟨_, rfl⟩
    obtain ⟨d, hd⟩ : ∃ d, ((ms.take k).filter (fun m => P.has I m && fa m.toNat)).length = d := ⟨_, rfl⟩
    have hc200 : c ≤ 200 := by rw [← hc]; exact Nat.le_trans (List.length_filter_le _ _) (by rw [List.length_take]; omega)
    have hd200 : d ≤ 200 := by rw [← hd]; exact Nat.le_trans (List.length_filter_le _ _) (by rw [List.length_take]; omega)
    rw [hc, hd]
    have HC := Lib.hid hc
    have HD := Lib.hid hd
    clear hc hd
    by_cases hlt : k < ms.length
    · have fk : decide ((k : Int) < (ms.length : Int)) = true := decide_eq_true (by omega)
      have hki : (k : Int) < (ms.length : Int) := by omega
      have hcell := HMC.out k hlt
      have hmb := P.rise_bounds HRISE.out (ms.getD k 0) (by rw [List.getD_eq_getElem?_getD, List.getElem?_eq_getElem hlt]; exact List.getElem_mem hlt)
      have htake : ms.take (k + 1) = ms.take k ++ [ms.getD k 0] := by
        rw [List.take_succ_eq_append_getElem hlt, List.getD_eq_getElem?_getD, List.getElem?_eq_getElem hlt]
        rfl
      obtain ⟨mz, hmz⟩ : ∃ mz, ms.getD k 0 = mz := ⟨_, rfl⟩
      rw [hmz] at hcell hmb htake
      obtain ⟨mn, rfl⟩ := Int.eq_ofNat_of_zero_le (show 0 ≤ mz by omega)
      have hmn : mn < n := by omega
      have hmi : (mn : Int) < (n : Int) := by omega
      have hm0 : (0 : Int) ≤ (mn : Int) := Int.natCast_nonneg _
      have cm := (W.out.cell (p := ⟨bm, om + k, none⟩) LBM.out).trans hcell
      obtain ⟨b1, k1, e1, -, hci⟩ := (show ∃ b kk, (Value.slice (some ⟨bi, 0, none⟩) n ki : Value) = .slice (some ⟨b, 0, none⟩) n kk ∧ b < w0.heap.size ∧ ∀ j, j < n → w0.cell? ⟨b, j, none⟩ = some (.bool (I.getLsbD j)) from IB.out.on W.out)
      have ci := hci mn hmn
      obtain ⟨b2, k2, e2, -, hca⟩ := (show ∃ b kk, (Value.slice (some ⟨bA, 0, none⟩) n kA : Value) = .slice (some ⟨b, 0, none⟩) n kk ∧ b < w0.heap.size ∧ ∀ j, j < n → w0.cell? ⟨b, j, none⟩ = some (.bool (fa j)) from AB.out.on W.out)
      have ca := hca mn hmn
      simp only [Value.slice.injEq, Option.some.injEq, Addr.mk.injEq, and_true, true_and] at e1 e2
      rw [← e1.1] at ci
      rw [← e2.1] at ca
      have HT := Lib.hid htake
      clear hcell hmb htake hmz hci hca e1 e2
      have hstep1 : ∀ b : Bool, I.getLsbD mn = b → ((ms.take (k + 1)).filter (P.has I)).length = if b = true then c + 1 else c := fun b hb => by
        rw [HT.out, List.filter_append, List.length_append, HC.out]
        cases b
        · rw [List.filter_cons_of_neg (by rw [P.nat_has, hb]; decide)]; rfl
        · rw [List.filter_cons_of_pos (by rw [P.nat_has, hb])]; rfl
      have hstep2 : ∀ b : Bool, (I.getLsbD mn && fa mn) = b → ((ms.take (k + 1)).filter (fun m => P.has I m && fa m.toNat)).length = if b = true then d + 1 else d := fun b hb => by
        rw [HT.out, List.filter_append, List.length_append, HD.out]
        cases b
        · rw [List.filter_cons_of_neg (by rw [P.nat_has, Int.toNat_natCast, hb]; decide)]; rfl
        · rw [List.filter_cons_of_pos (by rw [P.nat_has, Int.toNat_natCast, hb])]; rfl
      by_cases h1 : I.getLsbD mn = true
      · rw [h1] at ci
        have HC1 := Lib.hid (hstep1 true h1)
        by_cases h2 : fa mn = true
        · rw [h2] at ca
          have HI1 := Lib.hid (hstep2 true (by rw [h1, h2]; rfl))
          clear hstep1 hstep2 h1 h2
          go_wp2_with fail
          go_roundw
          case rel => exact ⟨k + 1, by rw [HC1.out]; first | rfl | go_num, by rw [HI1.out]; first | rfl | go_num, by go_num, by omega, by first | trivial | rfl⟩
          case measure => simp [intOf]; omega
        · have h2 : fa mn = false := by simpa using h2
          rw [h2] at ca
          have HI1 := Lib.hid (hstep2 false (by rw [h1, h2]; rfl))
          clear hstep1 hstep2 h1 h2
          go_wp2_with fail
          go_roundw
          case rel => exact ⟨k + 1, by rw [HC1.out]; first | rfl | go_num, by rw [HI1.out]; first | rfl | go_num, by go_num, by omega, by first | trivial | rfl⟩
          case measure => simp [intOf]; omega
      · have h1 : I.getLsbD mn = false := by simpa using h1
        rw [h1] at ci
        have HC1 := Lib.hid (hstep1 false h1)
        have HI1 := Lib.hid (hstep2 false (by rw [h1]; rfl))
        clear hstep1 hstep2 h1
        go_wp2_with fail
        go_roundw
        case rel => exact ⟨k + 1, by rw [HC1.out]; first | rfl | go_num, by rw [HI1.out]; first | rfl | go_num, by go_num, by omega, by first | trivial | rfl⟩
        case measure => simp [intOf]; omega
    · have fk : decide ((k : Int) < (ms.length : Int)) = false := decide_eq_false (by omega)
      have hcf : (P.into g I i).length = c := by unfold P.into; rw [HMS.out, ← HC.out, List.take_of_length_le (by omega)]
      have hdf : (P.hits g I fa i).length = d := by unfold P.hits; rw [HMS.out, ← HD.out, List.take_of_length_le (by omega)]
      have HSTEP := Lib.hid (show P.step g I p fa i = if zo = p then decide (0 < d) else decide (0 < c) && decide (d = c) from by unfold P.step; rw [HZO.out, hcf, hdf])
      clear hcf hdf
      by_cases hzp : zo = p
      · have fz : (zo == p) = true := beq_iff_eq.2 hzp
        have HF := Lib.hid (show P.step g I p fa i = decide (0 < d) from by rw [HSTEP.out, if_pos hzp])
        clear hzp
        go_wp2_with fail
        go_ret
        exact ⟨by rw [HF.out]; simp, W.out⟩
      · have fz : (zo == p) = false := beq_eq_false_iff_ne.2 hzp
        have HF := Lib.hid (show P.step g I p fa i = (decide (0 < c) && decide (d = c)) from by rw [HSTEP.out, if_neg hzp])
        clear hzp
        by_cases hc0 : 0 < c
        · have fc : decide ((0 : Int) < (c : Int)) = true := decide_eq_true (by omega)
          have HF2 := Lib.hid (show P.step g I p fa i = decide (d = c) from by rw [HF.out, decide_eq_true hc0, Bool.true_and])
          have hbe : ((d : Int) == (c : Int)) = decide (d = c) := by rw [Bool.eq_iff_iff, beq_iff_eq, decide_eq_true_eq]; omega
          have HBE := Lib.hid hbe
          clear hbe
          go_wp2_with fail
          go_ret
          exact ⟨by rw [HF2.out]; simp [HBE.out], W.out⟩
        · have fc : decide ((0 : Int) < (c : Int)) = false := decide_eq_false (by omega)
          have HF2 := Lib.hid (show P.step g I p fa i = false from by rw [HF.out, decide_eq_false hc0, Bool.false_and])
          go_wp2_with fail
          go_ret
          exact ⟨by rw [HF2.out]; simp, W.out⟩

/-- How many truths a row holds. -/
def truesAt (w : World) (v : Value) (n : Nat) : Nat := match v with
  | .slice (some a) _ _ => ((List.range n).filter (fun j => match w.cell? ⟨a.block, j, none⟩ with | some (.bool b) => b | _ => false)).length
  | _ => 0
def isT : Value → Nat
  | .bool true => 1
  | _ => 0
theorem truesAt_bl {w : World} {v : Value} {n : Nat} {f : Nat → Bool} (h : Bl w v n f) : truesAt w v n = ((List.range n).filter f).length := by
  obtain ⟨b, k, rfl, -, hc⟩ := h
  unfold truesAt
  simp only []
  congr 1
  apply List.filter_congr
  intro j hj
  rw [hc j (List.mem_range.1 hj)]
theorem next_in (g : P.G) (I : BitVec 256) (p : Int) (fa : Nat → Bool) (y : Nat) (hy : y < g.owner.length) (h1 : I.getLsbD y = true) (h2 : fa y = false) : P.next g I p fa y = P.step g I p fa y := by
  unfold P.next
  rw [h1, h2, decide_eq_true hy]
  simp
theorem next_out (g : P.G) (I : BitVec 256) (p : Int) (fa : Nat → Bool) (y : Nat) (h : ¬ (I.getLsbD y = true ∧ fa y = false)) : P.next g I p fa y = fa y := by
  unfold P.next
  cases h1 : fa y
  · have h2 : I.getLsbD y = false := by
      cases e : I.getLsbD y
      · rfl
      · exact absurd ⟨e, h1⟩ h
    rw [h2]
    simp
  · simp
/-- Does a round bring in any of the first k? -/
def news (g : P.G) (I : BitVec 256) (p : Int) (fa : Nat → Bool) (k : Nat) : Bool := (List.range k).any (fun y => P.next g I p fa y && !fa y)
theorem news_succ (g : P.G) (I : BitVec 256) (p : Int) (fa : Nat → Bool) (k : Nat) : news g I p fa (k + 1) = (news g I p fa k || (P.next g I p fa k && !fa k)) := by
  unfold news
  rw [List.range_succ, List.any_append]
  simp
theorem news_none {g : P.G} {I : BitVec 256} {p : Int} {fa : Nat → Bool} {k : Nat} (h : news g I p fa k = false) (i : Nat) (hi : i < k) : P.next g I p fa i = fa i := by
  unfold news at h
  rw [List.any_eq_false] at h
  have := h i (List.mem_range.2 hi)
  cases h1 : fa i
  · rw [h1] at this
    simpa using this
  · unfold P.next
    rw [h1, Bool.true_or]
theorem news_some {g : P.G} {I : BitVec 256} {p : Int} {fa : Nat → Bool} {k : Nat} (h : news g I p fa k = true) : ((List.range k).filter fa).length < ((List.range k).filter (P.next g I p fa)).length := by
  unfold news at h
  rw [List.any_eq_true] at h
  obtain ⟨y, hy, h1⟩ := h
  rw [Bool.and_eq_true, Bool.not_eq_true'] at h1
  obtain ⟨h2, h3⟩ := P.filter_lt fa (P.next g I p fa) (List.range k) fun x _ hx => by unfold P.next; rw [hx, Bool.true_or]
  rcases Nat.lt_or_eq_of_le h2 with h4 | h4
  · exact h4
  · have := h3 h4 y hy h1.1
    rw [h1.2] at this
    cases this
structure RelA2 (w0 : World) (g : P.G) (I : BitVec 256) (p : Int) (To : BitVec 256) (lo n : Nat) (av mv : Value) (wr : World) (f : Nat → Bool) (m : Bool) : Prop where
  own : OwnB wr lo av n f
  more : mv = .bool m
  sub : ∀ i, f i = true → P.Att g I p To i
  base : ∀ i, i < n → I.getLsbD i = true → To.getLsbD i = true → f i = true
  rest : m = false → ∀ i, i < n → P.next g I p f i = f i
  out : ∀ i, n ≤ i → f i = false
  below : Below w0.heap.size w0 wr
/-- What the document's Attract hands back. -/
def RAttracted (w : World) (g : P.G) (I : BitVec 256) (p : Int) (To : BitVec 256) (e : Ending) (w' : World) : Prop := ∃ v f, e = .returned v ∧ OwnB w' w.heap.size v g.owner.length f ∧ (∀ i, i < g.owner.length → (f i = true ↔ P.Att g I p To i)) ∧ Below w.heap.size w w'

set_option maxRecDepth 100000 in
set_option maxHeartbeats 2000000 in
theorem rattract_any (g : P.G) (hr : g.Right) (I To : BitVec 256) (p : Int) (v vi vt : Value) (w : World) (hv : GameV w v g) (hI : Bl w vi g.owner.length (fun i => I.getLsbD i)) (hT : Bl w vt g.owner.length (fun i => To.getLsbD i)) :
    Calls Tryd.prog 43 #[v, vi, .int .i64 p, vt] w (RAttracted w g I p To) := by
  have HV := Lib.hid hv
  have hop := hr.prio
  have hmp := hr.moves
  have hmany := hr.many
  have h0 := hr.pos
  obtain ⟨n, hn⟩ : ∃ n, g.owner.length = n := ⟨_, rfl⟩
  rw [hn] at hop hmp hmany h0 hI hT
  obtain ⟨ba, oa, ka, bb, ob, kb, bc, oc, kc, rfl, hca, -, hcc⟩ := hv.open_ hn hop hmp h0
  have HCA := Lib.hid hca
  have HCC := Lib.hid hcc
  have HR := Lib.hid hr
  have HN := Lib.hid hn
  clear hca hcc hr hn hop hmp hv
  have IB := Lib.hid hI
  have TB := Lib.hid hT
  obtain ⟨bi, ki, rfl, hbi, hci⟩ := hI
  obtain ⟨bt, kt, rfl, hbt, hct⟩ := hT
  have CI := Lib.hid hci
  have CT := Lib.hid hct
  have LBI := Lib.hid hbi
  have LBT := Lib.hid hbt
  clear hbi hbt hci hct
  go_enter Tryd.func43, Tryd.ntmps43
  go_upto_region 1 with (fail)
  have bx0 : Box (w.alloc (.cells #[.slice (some ⟨ba, oa, none⟩) n ka, .slice (some ⟨bb, ob, none⟩) n kb, .slice (some ⟨bc, oc, none⟩) n kc] 25)) (w.heap.size) 25 #[.slice (some ⟨ba, oa, none⟩) n ka, .slice (some ⟨bb, ob, none⟩) n kb, .slice (some ⟨bc, oc, none⟩) n kc] := Box.new w 25 #[.slice (some ⟨ba, oa, none⟩) n ka, .slice (some ⟨bb, ob, none⟩) n kb, .slice (some ⟨bc, oc, none⟩) n kc]
  have hbq : Below w.heap.size w (w.alloc (.cells #[.slice (some ⟨ba, oa, none⟩) n ka, .slice (some ⟨bb, ob, none⟩) n kb, .slice (some ⟨bc, oc, none⟩) n kc] 25)) := (Below.refl _ w).alloc (Nat.le_refl _) _
  have hle0 : w.heap.size ≤ w.heap.size := Nat.le_refl _
  generalize (w.alloc (.cells #[.slice (some ⟨ba, oa, none⟩) n ka, .slice (some ⟨bb, ob, none⟩) n kb, .slice (some ⟨bc, oc, none⟩) n kc] 25)) = w0 at bx0 hbq  ⊢
  have BQg := Lib.hid bx0
  have W := Lib.hid hbq
  have LEg := Lib.hid hle0
  clear hbq hle0 bx0 
  obtain ⟨qg, hqg⟩ : ∃ qg, w.heap.size = qg := ⟨_, rfl⟩
  rw [hqg] at BQg ⊢
  have LEg : Hid (w.heap.size ≤ qg) := Lib.hid (by omega)
  clear hqg
  have HQG := Lib.hid BQg.out.lt
  have hbb := BQg.out
  have gc0 : w0.cell? ⟨qg, 0, none⟩ = some (.slice (some ⟨ba, oa, none⟩) n ka) := hbb.cell 0 _ rfl
  have gc1 : w0.cell? ⟨qg, 1, none⟩ = some (.slice (some ⟨bb, ob, none⟩) n kb) := hbb.cell 1 _ rfl
  have gc2 : w0.cell? ⟨qg, 2, none⟩ = some (.slice (some ⟨bc, oc, none⟩) n kc) := hbb.cell 2 _ rfl
  clear hbb
  go_wp2_with (refine wpl_make elBoolB rfl (.tmp 18) (.tmp 18) rfl n rfl rfl (by omega) (by omega) ?_; intro w1 hown1 hg1 hs1)
  obtain ⟨pa, hpa⟩ : ∃ pa, w0.heap.size = pa := ⟨_, rfl⟩
  have HO1 := Lib.hid (OwnB.made hown1)
  have HG1 := Lib.hid hg1
  rw [hpa] at HO1 ⊢
  have HPA := Lib.hid hpa
  replace BQg := Lib.hid (BQg.out.keep hg1)
  clear hown1 hg1 hs1 gc0 gc1 gc2 hpa
  go_wp2_with fail
  go_loopw [11] (fun i wr => ∃ k : Nat, k ≤ n ∧ i = .int .i64 (k : Int) ∧ OwnB wr pa (.slice (some ⟨pa, 0, none⟩) n n) n (fun y => decide (y < k) && (I.getLsbD y && To.getLsbD y)) ∧ Below pa w1 wr) (fun i _ => n - (intOf i).toNat)
  case atStart => exact ⟨0, Nat.zero_le _, rfl, HO1.out.congr (fun y _ => by simp), Below.refl _ _⟩
  case round =>
    obtain ⟨k, hk, rfl, ho, hb⟩ := hrel
    have HO := Lib.hid ho
    have HB := Lib.hid hb
    clear ho hb
    have hk0 : (0 : Int) ≤ (k : Int) := Int.natCast_nonneg _
    have HBW := Lib.hid (W.out.trans ((below_of_grown HG1.out).mono W.out.size) |>.trans (HB.out.mono (by have := HPA.out; have := W.out.size; omega)))
    by_cases hlt : k < n
    · have fk : decide ((k : Int) < (n : Int)) = true := decide_eq_true (by omega)
      have hki : (k : Int) < (n : Int) := by omega
      have ci := (HBW.out.cell (p := ⟨bi, k, none⟩) LBI.out).trans (CI.out k hlt)
      have ct := (HBW.out.cell (p := ⟨bt, k, none⟩) LBT.out).trans (CT.out k hlt)
      obtain ⟨co, fo⟩ := HO.out.cell hlt
      have HREL := Lib.hid (show ∀ b : Bool, (I.getLsbD k && To.getLsbD k) = b → OwnB (wr.setCell ⟨pa, k, none⟩ (.bool b)) pa (.slice (some ⟨pa, 0, none⟩) n n) n (fun y => decide (y < k + 1) && (I.getLsbD y && To.getLsbD y)) from fun b hb => (HO.out.put k b).congr fun y _ => by
        by_cases e : y = k
        · subst e; rw [if_pos rfl, decide_eq_true (by omega), Bool.true_and, hb]
        · rw [if_neg e]
          congr 1
          rw [Bool.eq_iff_iff, decide_eq_true_eq, decide_eq_true_eq]
          omega)
      have HB2 := Lib.hid (fun b : Bool => HB.out.setCell (p := ⟨pa, k, none⟩) (Nat.le_refl pa) (.bool b))
      obtain ⟨b1, hb1⟩ : ∃ b, I.getLsbD k = b := ⟨_, rfl⟩
      obtain ⟨b2, hb2⟩ : ∃ b, To.getLsbD k = b := ⟨_, rfl⟩
      rw [hb1] at ci
      rw [hb2] at ct
      have HREL2 := Lib.hid (HREL.out (b1 && b2) (by rw [hb1, hb2]))
      clear hb1 hb2
      cases b1
      · go_wp2_with fail
        go_roundw
        case rel => exact ⟨k + 1, by omega, by go_num, HREL2.out, HB2.out _⟩
        case measure => simp [intOf]; omega
      · go_wp2_with fail
        go_roundw
        case rel => exact ⟨k + 1, by omega, by go_num, HREL2.out, HB2.out _⟩
        case measure => simp [intOf]; omega
    · have fk : decide ((k : Int) < (n : Int)) = false := decide_eq_false (by omega)
      have hkn : k = n := by omega
      have HA0 := Lib.hid (HO.out.congr (h := fun y => decide (y < n) && (I.getLsbD y && To.getLsbD y)) (fun y hy => by rw [decide_eq_true (show y < k by omega), decide_eq_true hy]))
      have BQg := Lib.hid (show Box wr qg 25 #[.slice (some ⟨ba, oa, none⟩) n ka, .slice (some ⟨bb, ob, none⟩) n kb, .slice (some ⟨bc, oc, none⟩) n kc] from by
        have h := BQg.out
        unfold Box at h ⊢
        rw [HB.out.block _ (by have h1 := LEg.out; have h2 := HPA.out; have h3 := HQG.out; omega)]
        exact h)
      have W3 := Lib.hid HBW.out
      have LPA : Hid (w.heap.size ≤ pa ∧ pa < wr.heap.size) := Lib.hid ⟨by have := HPA.out; have := W.out.size; omega, (own_lt HO.out pa rfl).2⟩
      obtain ⟨w3, rfl⟩ : ∃ w3 : World, w3 = wr := ⟨_, rfl⟩
      clear hkn HO HB
      go_wp2_with fail
      go_loopw [10, 12] (fun av mv wr => ∃ f m, RelA2 w3 g I p To pa n av mv wr f m) (fun av mv wr => 2 * (n - truesAt wr av n) + isT mv)
      case atStart =>
        refine ⟨_, true, HA0.out, rfl, fun i h => ?_, fun i hi h1 h2 => ?_, fun h => (by cases h), fun i hi => ?_, Below.refl _ _⟩
        · rw [Bool.and_eq_true, Bool.and_eq_true, decide_eq_true_eq] at h
          exact .base i (by rw [HN.out]; exact h.1) h.2.1 h.2.2
        · rw [h1, h2, decide_eq_true hi]; rfl
        · rw [decide_eq_false (by omega), Bool.false_and]
      case round =>
        obtain ⟨fa, m, hR⟩ := hrel
        obtain rfl := hR.more
        have HR2 := Lib.hid hR
        clear hR
        cases m with
        | false =>
          obtain ⟨qa, kq, e9, -, -, -, -⟩ := own_form HR2.out.own h0
          subst e9
          have HOUT := Lib.hid (show RAttracted w g I p To (.returned (.slice (some ⟨qa, 0, none⟩) n kq)) wr from by
            have hbw := W3.out.trans (HR2.out.below.mono W3.out.size)
            have h1 := LPA.out
            have h2 := W3.out.size
            refine ⟨_, fa, rfl, by rw [HN.out]; exact own_more HR2.out.own h1.1, fun i hi => ?_, hbw⟩
            have hs := HR2.out.rest rfl
            rw [HN.out] at hi
            exact P.next_done HR.out HR2.out.sub (fun i hi2 => HR2.out.base i (by rwa [HN.out] at hi2)) (fun i hi2 => hs i (by rwa [HN.out] at hi2)) i)
          go_wp2_with fail
          go_ret
          exact HOUT.out
        | true =>
          obtain ⟨qa, kq, e9, -, hqa, -, -⟩ := own_form HR2.out.own h0
          subst e9
          have HQA := Lib.hid hqa
          have HQA2 := Lib.hid (own_lt HR2.out.own qa rfl).1
          have hrow : Row (wr.alloc (.cells #[] 4)) (.slice (some ⟨qa, 0, none⟩) n kq) ((rowB n fa).map Value.bool) := by
            have h := own_grown HR2.out.own (World.grownBy_alloc wr (.cells #[] 4) none)
            refine own_row (e := 4) (lo := pa) ?_
            rw [List.length_map, rowB_len]
            exact h
          have HROW := Lib.hid hrow
          have HC1 := Lib.hid (truesAt_bl (HR2.out.own.bl h0))
          clear hqa hrow
          go_wp2_with (at_builtin; refine wpl_append_new elBoolB rfl (.tmp 39) (.tmp 40) rfl rfl (World.ownsRow_made wr #[] 0 (Nat.le_refl _) (by decide) rfl) rfl HROW.out ?_ ?_ ?_ ?_ ?_)
          · intro u hu
            obtain ⟨b, _, rfl⟩ := List.mem_map.1 hu
            rfl
          · simp [rowB_len]; omega
          · simp [rowB_len]; omega
          · simp
          intro v' w5 hown hgr hat
          rw [rowB_len] at hown
          obtain ⟨qn, kn, e9, hqn, -, -, -⟩ := own_form hown h0
          subst e9
          have HG5 := Lib.hid (grown_chain (World.grownBy_alloc wr (.cells #[] 4) none) hgr)
          have HON := Lib.hid (show OwnB w5 wr.heap.size (.slice (some ⟨qn, 0, none⟩) n kn) n fa from hown)
          have HQN := Lib.hid hqn
          clear hown hgr hat hqn HROW
          go_wp2_with fail
          obtain ⟨w4, rfl⟩ : ∃ w4 : World, w4 = wr := ⟨_, rfl⟩
          go_loopw [12, 14] (fun mv iv wr => ∃ k : Nat, k ≤ n ∧ mv = .bool (news g I p fa k) ∧ iv = .int .i64 (k : Int) ∧ OwnB wr w4.heap.size (.slice (some ⟨qn, 0, none⟩) n kn) n (fun y => if y < k then P.next g I p fa y else fa y) ∧ Below w4.heap.size w4 wr) (fun _ iv _ => n - (intOf iv).toNat)
          case atStart => exact ⟨0, Nat.zero_le _, rfl, rfl, HON.out.congr (fun y _ => by rw [if_neg (by omega)]), below_of_grown HG5.out⟩
          case round =>
            obtain ⟨k, hk, rfl, rfl, ho, hb⟩ := hrel
            have HO := Lib.hid ho
            have HB := Lib.hid hb
            clear ho hb
            obtain ⟨mk, hmk⟩ : ∃ m, news g I p fa k = m := ⟨_, rfl⟩
            rw [hmk]
            have HMK := Lib.hid hmk
            clear hmk
            have hk0 : (0 : Int) ≤ (k : Int) := Int.natCast_nonneg _
            have HB3 := Lib.hid (HR2.out.below.trans (HB.out.mono HR2.out.below.size))
            have HBW := Lib.hid (W3.out.trans (HB3.out.mono W3.out.size))
            by_cases hlt : k < n
            · have fk : decide ((k : Int) < (n : Int)) = true := decide_eq_true (by omega)
              have hki : (k : Int) < (n : Int) := by omega
              have ci := (HBW.out.cell (p := ⟨bi, k, none⟩) LBI.out).trans (CI.out k hlt)
              have ca := (HB.out.cell (p := ⟨qa, k, none⟩) HQA.out).trans (HR2.out.own.cell hlt).1
              obtain ⟨b1, hb1⟩ : ∃ b, I.getLsbD k = b := ⟨_, rfl⟩
              obtain ⟨b2, hb2⟩ : ∃ b, fa k = b := ⟨_, rfl⟩
              rw [hb1] at ci
              rw [hb2] at ca
              by_cases hc : b1 = true ∧ b2 = false
              · obtain ⟨rfl, rfl⟩ := hc
                have HNX := Lib.hid (next_in g I p fa k (by rw [HN.out]; exact hlt) hb1 hb2)
                obtain ⟨co, fo⟩ := HO.out.cell hlt
                have hbb := BQg.out.keep (grown_of_below HB3.out none)
                have gc0 : wr.cell? ⟨qg, 0, none⟩ = some (.slice (some ⟨ba, oa, none⟩) n ka) := hbb.cell 0 _ rfl
                have gc1 : wr.cell? ⟨qg, 1, none⟩ = some (.slice (some ⟨bb, ob, none⟩) n kb) := hbb.cell 1 _ rfl
                have gc2 : wr.cell? ⟨qg, 2, none⟩ = some (.slice (some ⟨bc, oc, none⟩) n kc) := hbb.cell 2 _ rfl
                clear hbb
                have HF := Lib.hid hb2
                clear hb1 hb2
                go_wp2_with fail
                refine (step_any g HR.out I p fa k _ _ _ _ (HV.out.on HBW.out) (by rw [HN.out]; exact IB.out.on HBW.out) (by rw [HN.out]; exact (HR2.out.own.bl h0).on HB.out) (by rw [HN.out]; exact hlt)).mono ?_
                rintro e w7 ⟨rfl, hb⟩
                rw [← HNX.out]
                have HO := Lib.hid (show OwnB w7 w4.heap.size (.slice (some ⟨qn, 0, none⟩) n kn) n (fun y => if y < k then P.next g I p fa y else fa y) from own_grown HO.out (grown_of_below hb none))
                replace HB := Lib.hid (HB.out.trans (hb.mono HB.out.size))
                obtain ⟨b, hbv⟩ : ∃ b, P.next g I p fa k = b := ⟨_, rfl⟩
                rw [hbv]
                clear hb gc0 gc1 gc2 ci ca co fo
                obtain ⟨co, fo⟩ := HO.out.cell hlt
                have HO2 := Lib.hid (show OwnB (w7.setCell ⟨qn, k, none⟩ (.bool b)) w4.heap.size (.slice (some ⟨qn, 0, none⟩) n kn) n (fun y => if y < k + 1 then P.next g I p fa y else fa y) from (HO.out.put k b).congr (fun y _ => by
                  by_cases e : y = k
                  · subst e; rw [if_pos rfl, if_pos (by omega), hbv]
                  · rw [if_neg e]
                    by_cases e2 : y < k
                    · rw [if_pos e2, if_pos (by omega)]
                    · rw [if_neg e2, if_neg (by omega)]))
                have HB2 := Lib.hid (HB.out.setCell (p := ⟨qn, k, none⟩) HQN.out (.bool b))
                have HM2 := Lib.hid (show news g I p fa (k + 1) = (mk || b) from by rw [news_succ, HMK.out, hbv, HF.out]; simp)
                have HBV := Lib.hid hbv
                clear hbv
                go_upto_region 16 with (fail)
                clear co fo
                generalize (w7.setCell ⟨qn, k, none⟩ (.bool b)) = w8 at HO2 HB2 ⊢
                have co := (HO2.out.cell hlt).1
                have hcv : (if k < k + 1 then P.next g I p fa k else fa k) = b := by
                  rw [if_pos (by omega)]
                  exact HBV.out
                rw [hcv] at co
                clear hcv
                cases mk
                · go_wp2_with fail
                  go_roundw
                  case rel => exact ⟨k + 1, by omega, by rw [HM2.out]; rfl, by go_num, HO2.out, HB2.out⟩
                  case measure => simp [intOf]; omega
                · go_wp2_with fail
                  go_roundw
                  case rel => exact ⟨k + 1, by omega, by rw [HM2.out]; rfl, by go_num, HO2.out, HB2.out⟩
                  case measure => simp [intOf]; omega
              · have hnx := next_out g I p fa k (fun h => hc ⟨by rw [← hb1]; exact h.1, by rw [← hb2]; exact h.2⟩)
                have HO2 := Lib.hid (show OwnB wr w4.heap.size (.slice (some ⟨qn, 0, none⟩) n kn) n (fun y => if y < k + 1 then P.next g I p fa y else fa y) from HO.out.congr (fun y _ => by
                  by_cases e : y = k
                  · subst e; rw [if_neg (by omega), if_pos (by omega), hnx]
                  · by_cases e2 : y < k
                    · rw [if_pos e2, if_pos (by omega)]
                    · rw [if_neg e2, if_neg (by omega)]))
                have HM2 := Lib.hid (show news g I p fa (k + 1) = mk from by rw [news_succ, HMK.out, hnx]; cases fa k <;> simp)
                clear hnx hb1 hb2
                cases b1
                · clear hc
                  go_wp2_with fail
                  go_roundw
                  case rel => exact ⟨k + 1, by omega, by rw [HM2.out], by go_num, HO2.out, HB.out⟩
                  case measure => simp [intOf]; omega
                · obtain rfl : b2 = true := by
                    cases b2
                    · exact absurd ⟨rfl, rfl⟩ hc
                    · rfl
                  clear hc
                  go_wp2_with fail
                  go_roundw
                  case rel => exact ⟨k + 1, by omega, by rw [HM2.out], by go_num, HO2.out, HB.out⟩
                  case measure => simp [intOf]; omega
            · have fk : decide ((k : Int) < (n : Int)) = false := decide_eq_false (by omega)
              have hkn : k = n := by omega
              have HRR := Lib.hid (show RelA2 w3 g I p To pa n (.slice (some ⟨qn, 0, none⟩) n kn) (.bool mk) wr (P.next g I p fa) mk from by
                refine ⟨?_, rfl, fun i h => P.next_sub HR.out HR2.out.sub i h, fun i hi h1 h2 => ?_, fun hm i hi => ?_, fun i hi => ?_, HB3.out⟩
                · have h := HO.out.congr (h := P.next g I p fa) (fun y hy => by rw [if_pos (by omega)])
                  exact own_more h (by have h1 := LPA.out; have h2 := HR2.out.below.size; omega)
                · unfold P.next
                  rw [HR2.out.base i hi h1 h2, Bool.true_or]
                · have h := HMK.out
                  rw [hm, hkn] at h
                  have h2 : (P.next g I p fa) = fa := by
                    funext y
                    rcases Nat.lt_or_ge y n with hy | hy
                    · exact news_none h y hy
                    · rw [HR2.out.out y hy]
                      unfold P.next
                      rw [HR2.out.out y hy, HN.out, decide_eq_false (by omega)]
                      simp
                  rw [h2, h2]
                · unfold P.next
                  rw [HR2.out.out i hi, HN.out, decide_eq_false (by omega)]
                  simp)
              have HME := Lib.hid (show 2 * (n - truesAt wr (.slice (some ⟨qn, 0, none⟩) n kn) n) + isT (.bool mk) < 2 * (n - truesAt w4 (.slice (some ⟨qa, 0, none⟩) n kq) n) + isT (.bool true) from by
                rw [HC1.out, truesAt_bl (HRR.out.own.bl h0)]
                have h1 : ((List.range n).filter (P.next g I p fa)).length ≤ n := Nat.le_trans (List.length_filter_le _ _) (by rw [List.length_range]; exact Nat.le_refl n)
                have h3 := HMK.out
                rw [hkn] at h3
                cases mk with
                | true =>
                  have h4 := news_some h3
                  show 2 * _ + 1 < 2 * _ + 1
                  omega
                | false =>
                  have h4 : ((List.range n).filter (P.next g I p fa)).length = ((List.range n).filter fa).length := by
                    congr 1
                    apply List.filter_congr
                    intro y hy
                    exact news_none h3 y (List.mem_range.1 hy)
                  rw [h4]
                  show 2 * _ + 0 < 2 * _ + 1
                  omega)
              clear hkn
              go_wp2_with fail
              go_roundw
              case rel => exact ⟨_, _, HRR.out⟩
              case measure => exact HME.out
end W
end Go.Proofs.YtpjmboonaciplaaDoor
