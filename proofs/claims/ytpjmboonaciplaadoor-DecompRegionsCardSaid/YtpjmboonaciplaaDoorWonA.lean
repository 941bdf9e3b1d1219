/- Truths: is any so; those without others. Who wins where: the document's recursion. Who wins where: the document's Solve. -/
import Derived.Test.YtpjmboonaciplaaDoorBools
import Derived.Deep.Cut
import Derived.Lib.Hide
import Derived.Test.YtpjmboonaciplaaDoorRAtt
import Derived.Test.YtpjmboonaciplaaDoorAttL
import Derived.Deep.QuietTactic
import Derived.BigQuiet
import Derived.Deep.RegionLaw
import Derived.Test.YtpjmboonaciplaaDoorDecA
import Derived.Test.YtpjmboonaciplaaDoorIs
section
namespace Go.Proofs.YtpjmboonaciplaaDoor
open Go.RowKit
namespace W

def anyB (n : Nat) (f : Nat → Bool) : Bool := (List.range n).any f
theorem anyB_true {n : Nat} {f : Nat → Bool} : anyB n f = true ↔ ∃ i, i < n ∧ f i = true := by
  unfold anyB
  rw [List.any_eq_true]
  exact ⟨fun ⟨i, h1, h2⟩ => ⟨i, List.mem_range.1 h1, h2⟩, fun ⟨i, h1, h2⟩ => ⟨i, List.mem_range.2 h1, h2⟩⟩
theorem anyB_false {n : Nat} {f : Nat → Bool} : anyB n f = false ↔ ∀ i, i < n → f i = false := by
  cases h : anyB n f
  · refine ⟨fun _ i hi => ?_, fun _ => rfl⟩
    cases hf : f i
    · rfl
    · rw [anyB_true.2 ⟨i, hi, hf⟩] at h; cases h
  · obtain ⟨i, hi, hf⟩ := anyB_true.1 h
    exact ⟨fun h => (by cases h), fun h => by rw [h i hi] at hf; cases hf⟩
set_option maxRecDepth 100000 in
set_option maxHeartbeats 1000000 in
theorem some_any (n : Nat) (hn : n ≤ 200) (f : Nat → Bool) (v : Value) (w : World) (hv : Bl w v n f) : Calls Tryd.prog 42 #[v] w fun e w' => e = .returned (.bool (anyB n f)) ∧ Below w.heap.size w w' := by
  obtain ⟨b, kb, rfl, -, hcb⟩ := hv
  have HCB := Lib.hid hcb
  clear hcb
  go_enter Tryd.func42, Tryd.ntmps42
  go_wp2_with fail
  go_loopw [3] (fun i wr => ∃ k : Nat, k ≤ n ∧ i = .int .i64 (k : Int) ∧ (∀ j, j < k → f j = false) ∧ wr = w) (fun i _ => n - (intOf i).toNat)
  case atStart => exact ⟨0, Nat.zero_le _, rfl, fun j h => absurd h (Nat.not_lt_zero j), rfl⟩
  case round =>
    obtain ⟨k, hk, rfl, hf, hw⟩ := hrel
    rw [hw]
    clear hw
    have HF := Lib.hid hf
    clear hf
    have hk0 : (0 : Int) ≤ (k : Int) := Int.natCast_nonneg _
    by_cases hlt : k < n
    · have fk : decide ((k : Int) < (n : Int)) = true := decide_eq_true (by omega)
      have hki : (k : Int) < (n : Int) := by omega
      have cb := HCB.out k hlt
      obtain ⟨x, hx⟩ : ∃ x, f k = x := ⟨_, rfl⟩
      rw [hx] at cb
      have HX := Lib.hid hx
      clear hx
      cases x
      · have HF2 := Lib.hid (show ∀ j, j < k + 1 → f j = false from fun j hj => by
          by_cases e : j = k
          · rw [e]; exact HX.out
          · exact HF.out j (by omega))
        go_wp2_with fail
        go_roundw
        case rel => exact ⟨k + 1, by omega, by first | rfl | go_num, HF2.out, by first | trivial | rfl⟩
        case measure => simp [intOf]; omega
      · have HA := Lib.hid (anyB_true.2 ⟨k, hlt, HX.out⟩)
        go_wp2_with fail
        exact bodyPost_ret (v := .bool true) (by simp [results, Tryd.results42, go_sem]) rfl ⟨by rw [HA.out], Below.refl _ _⟩
    · have fk : decide ((k : Int) < (n : Int)) = false := decide_eq_false (by omega)
      have HA := Lib.hid (anyB_false.2 fun j (hj : j < n) => HF.out j (by omega))
      go_wp2_with fail
      exact bodyPost_ret (v := .bool false) (by simp [results, Tryd.results42, go_sem]) rfl ⟨by rw [HA.out], Below.refl _ _⟩

set_option maxRecDepth 100000 in
set_option maxHeartbeats 1000000 in
theorem less_any (n : Nat) (hn : n ≤ 200) (f h : Nat → Bool) (va vb : Value) (w : World) (hva : Bl w va n f) (hvb : Bl w vb n h) : Calls Tryd.prog 44 #[va, vb] w fun e w' => ∃ v, e = .returned v ∧ OwnB w' w.heap.size v n (fun i => f i && !h i) ∧ Below w.heap.size w w' := by
  obtain ⟨ba, ka, rfl, hla, hca⟩ := hva
  obtain ⟨bb, kb, rfl, hlb, hcb⟩ := hvb
  have HCA := Lib.hid hca
  have HCB := Lib.hid hcb
  have LA := Lib.hid hla
  have LB := Lib.hid hlb
  clear hca hcb hla hlb
  go_enter Tryd.func44, Tryd.ntmps44
  go_wp2_with (refine wpl_make elBoolB rfl (.tmp 8) (.tmp 8) rfl n rfl rfl (by omega) (by omega) ?_; intro w1 hown1 hg1 hs1)
  obtain ⟨pa, hpa⟩ : ∃ pa, w.heap.size = pa := ⟨_, rfl⟩
  have HO1 := Lib.hid (OwnB.made hown1)
  have HG1 := Lib.hid (below_of_grown hg1)
  rw [hpa] at HO1 HG1 LA LB ⊢
  have HPA := Lib.hid hpa
  clear hown1 hg1 hs1 hpa
  go_wp2_with fail
  go_loopw [6] (fun i wr => ∃ k : Nat, k ≤ n ∧ i = .int .i64 (k : Int) ∧ OwnB wr pa (.slice (some ⟨pa, 0, none⟩) n n) n (fun y => decide (y < k) && (f y && !h y)) ∧ Below pa w wr) (fun i _ => n - (intOf i).toNat)
  case atStart => exact ⟨0, Nat.zero_le _, rfl, HO1.out.congr (fun y _ => by simp), HG1.out⟩
  case round =>
    obtain ⟨k, hk, rfl, ho, hb⟩ := hrel
    have HO := Lib.hid ho
    have HB := Lib.hid hb
    clear ho hb
    have hk0 : (0 : Int) ≤ (k : Int) := Int.natCast_nonneg _
    by_cases hlt : k < n
    · have fk : decide ((k : Int) < (n : Int)) = true := decide_eq_true (by omega)
      have hki : (k : Int) < (n : Int) := by omega
      have ca := (HB.out.cell (p := ⟨ba, k, none⟩) LA.out).trans (HCA.out k hlt)
      have cb := (HB.out.cell (p := ⟨bb, k, none⟩) LB.out).trans (HCB.out k hlt)
      obtain ⟨co, fo⟩ := HO.out.cell hlt
      have HREL := Lib.hid (show ∀ b : Bool, (f k && !h k) = b → OwnB (wr.setCell ⟨pa, k, none⟩ (.bool b)) pa (.slice (some ⟨pa, 0, none⟩) n n) n (fun y => decide (y < k + 1) && (f y && !h y)) from fun b hb => (HO.out.put k b).congr fun y _ => by
        by_cases e : y = k
        · subst e; rw [if_pos rfl, decide_eq_true (by omega), Bool.true_and, hb]
        · rw [if_neg e]
          congr 1
          rw [Bool.eq_iff_iff, decide_eq_true_eq, decide_eq_true_eq]
          omega)
      have HB2 := Lib.hid (fun b : Bool => HB.out.setCell (p := ⟨pa, k, none⟩) (Nat.le_refl pa) (.bool b))
      obtain ⟨b1, hb1⟩ : ∃ b, f k = b := ⟨_, rfl⟩
      obtain ⟨b2, hb2⟩ : ∃ b, h k = b := ⟨_, rfl⟩
      rw [hb1] at ca
      rw [hb2] at cb
      have HREL2 := Lib.hid (HREL.out (b1 && !b2) (by rw [hb1, hb2]))
      clear hb1 hb2
      cases b1
      · go_wp2_with fail
        go_roundw
        case rel => exact ⟨k + 1, by omega, by first | rfl | go_num, HREL2.out, HB2.out _⟩
        case measure => simp [intOf]; omega
      · go_wp2_with fail
        go_roundw
        case rel => exact ⟨k + 1, by omega, by first | rfl | go_num, HREL2.out, HB2.out _⟩
        case measure => simp [intOf]; omega
    · have fk : decide ((k : Int) < (n : Int)) = false := decide_eq_false (by omega)
      have HOUT := Lib.hid (HO.out.congr (h := fun y => f y && !h y) (fun y hy => by rw [decide_eq_true (show y < k by omega), Bool.true_and]))
      go_wp2_with fail
      go_ret
      exact ⟨_, rfl, by rw [HPA.out]; exact HOUT.out, by rw [HPA.out]; exact HB.out⟩
end W
end Go.Proofs.YtpjmboonaciplaaDoor
end
section
namespace Go.Proofs.YtpjmboonaciplaaDoor
open Go.RowKit
namespace W

theorem step_make {e sl : TypeId} {z : Value} {bytes : Nat} (El_ : El e sl z bytes) {ops : Array Oper} {o : Oper} {a : Act} {w : World} {K : Act → World → Prop} {Q : Exit → Act → World → Prop} {E : Prop} {s x : Operand} (hg : o.guard = none)
    (ho : o.op = .makeSlice sl s x) (n : Nat) (hs : a.eval s = .int .i64 n) (hx : a.eval x = .int .i64 n) (hb : bytes * n ≤ 281474976710656) (hn : n ≤ 9223372036854775807)
    (hK : K (a.put o.dst (.slice (some ⟨w.heap.size, 0, none⟩) n n)) (Made w e z n)) : if Region.wanted o (yielded ops a.tmps) = true then Oper.wp Tryd.prog o a w K Q else E := by
  rw [if_pos (by simp [Region.wanted, hg])]
  exact op_make El_ ho n hs hx hb hn hK
theorem Bl.congr {w : World} {v : Value} {n : Nat} {f h : Nat → Bool} (hv : Bl w v n f) (e : ∀ i, i < n → f i = h i) : Bl w v n h := by
  obtain ⟨b, k, e1, h1, h2⟩ := hv
  exact ⟨b, k, e1, h1, fun j hj => by rw [← e j hj]; exact h2 j hj⟩
theorem setK_at {f : Nat → Bool} {m n : Nat} (hm : m = n) (hn : n ≤ 256) {i : Nat} (hi : i < n) : f i = (P.setK f m).getLsbD i := by
  rw [hm, P.setK_bit f n hn i, decide_eq_true hi, Bool.true_and]
section
variable {g : P.G} {f : Nat → Bool} {k : Nat} {z y : Int}
theorem top_skip (h : (∀ j, j < k → f j = true → g.prio.getD j 0 ≤ z) ∧ (z = -1 ∧ (∀ j, j < k → f j = false) ∨ ∃ j, j < k ∧ f j = true ∧ g.prio.getD j 0 = z)) (hf : f k = false) : (∀ j, j < k + 1 → f j = true → g.prio.getD j 0 ≤ z) ∧ (z = -1 ∧ (∀ j, j < k + 1 → f j = false) ∨ ∃ j, j < k + 1 ∧ f j = true ∧ g.prio.getD j 0 = z) := by
  refine ⟨fun j hj h2 => ?_, h.2.imp (fun h2 => ⟨h2.1, fun j hj => ?_⟩) fun ⟨j, h1, h2⟩ => ⟨j, by omega, h2⟩⟩
  · by_cases e : j = k
    · rw [e, hf] at h2; cases h2
    · exact h.1 j (by omega) h2
  · by_cases e : j = k
    · rw [e]; exact hf
    · exact h2.2 j (by omega)
theorem top_new (h : (∀ j, j < k → f j = true → g.prio.getD j 0 ≤ z) ∧ (z = -1 ∧ (∀ j, j < k → f j = false) ∨ ∃ j, j < k ∧ f j = true ∧ g.prio.getD j 0 = z)) (hf : f k = true) (hy : g.prio.getD k 0 = y) (hz : z < y) : (∀ j, j < k + 1 → f j = true → g.prio.getD j 0 ≤ y) ∧ (y = -1 ∧ (∀ j, j < k + 1 → f j = false) ∨ ∃ j, j < k + 1 ∧ f j = true ∧ g.prio.getD j 0 = y) := by
  refine ⟨fun j hj h2 => ?_, .inr ⟨k, by omega, hf, hy⟩⟩
  by_cases e : j = k
  · rw [e, hy]; exact Int.le_refl _
  · have := h.1 j (by omega) h2
    omega
theorem top_same (h : (∀ j, j < k → f j = true → g.prio.getD j 0 ≤ z) ∧ (z = -1 ∧ (∀ j, j < k → f j = false) ∨ ∃ j, j < k ∧ f j = true ∧ g.prio.getD j 0 = z)) (hy : g.prio.getD k 0 = y) (hz : ¬ z < y) (hy0 : 0 ≤ y) : (∀ j, j < k + 1 → f j = true → g.prio.getD j 0 ≤ z) ∧ (z = -1 ∧ (∀ j, j < k + 1 → f j = false) ∨ ∃ j, j < k + 1 ∧ f j = true ∧ g.prio.getD j 0 = z) := by
  refine ⟨fun j hj h2 => ?_, ?_⟩
  · by_cases e : j = k
    · rw [e, hy]; omega
    · exact h.1 j (by omega) h2
  · rcases h.2 with ⟨h1, -⟩ | ⟨j, h1, h2⟩
    · omega
    · exact .inr ⟨j, by omega, h2⟩
end
theorem put_skip {b x : Nat → Bool} {k : Nat} {v : Bool} (hb : b k = false) (y : Nat) : (if decide (y < k) = true then (if b y = true then v else x y) else x y) = (if decide (y < k + 1) = true then (if b y = true then v else x y) else x y) := by
  by_cases e : y = k
  · rw [e, if_neg (show ¬ decide (k < k) = true by simp), if_pos (show decide (k < k + 1) = true by simp), hb]; rfl
  · by_cases h : y < k
    · rw [if_pos (show decide (y < k) = true by simpa using h), if_pos (show decide (y < k + 1) = true from decide_eq_true (by omega))]
    · rw [if_neg (show ¬ decide (y < k) = true by simpa using h), if_neg (show ¬ decide (y < k + 1) = true by rw [decide_eq_true_eq]; omega)]
theorem put_one {b x : Nat → Bool} {k : Nat} {v : Bool} (hb : b k = true) (y : Nat) : (if y = k then v else if decide (y < k) = true then (if b y = true then v else x y) else x y) = (if decide (y < k + 1) = true then (if b y = true then v else x y) else x y) := by
  by_cases e : y = k
  · rw [e, if_pos rfl, if_pos (show decide (k < k + 1) = true by simp), hb]; rfl
  · rw [if_neg e]
    by_cases h : y < k
    · rw [if_pos (show decide (y < k) = true by simpa using h), if_pos (show decide (y < k + 1) = true from decide_eq_true (by omega))]
    · rw [if_neg (show ¬ decide (y < k) = true by simpa using h), if_neg (show ¬ decide (y < k + 1) = true by rw [decide_eq_true_eq]; omega)]
def tupW (v : Value) (i : Nat) : Value := match v with
  | .tuple cs => cs.getD i undef
  | _ => undef
/-- What won hands back: two rows of truths, the caller's own. -/
def WonT (g : P.G) (n : Nat) (f : Nat → Bool) (lo : Nat) (v : Value) (w : World) : Prop := ∃ q1 k1 q2 k2 x y, v = .tuple #[.slice (some ⟨q1, 0, none⟩) n k1, .slice (some ⟨q2, 0, none⟩) n k2] ∧ q1 ≠ q2 ∧ OwnB w lo (.slice (some ⟨q1, 0, none⟩) n k1) n x ∧ OwnB w lo (.slice (some ⟨q2, 0, none⟩) n k2) n y ∧ P.SolB g f x y
theorem WonT.grown {g : P.G} {n : Nat} {f : Nat → Bool} {lo : Nat} {v : Value} {w w' : World} (h : WonT g n f lo v w) (hg : w.grownBy w' none) : WonT g n f lo v w' := by
  obtain ⟨q1, k1, q2, k2, x, y, h1, h2, h3, h4, h5⟩ := h
  exact ⟨q1, k1, q2, k2, x, y, h1, h2, own_grown h3 hg, own_grown h4 hg, h5⟩
set_option maxRecDepth 100000 in
set_option maxHeartbeats 4000000 in
theorem won_any (g : P.G) (hr : g.Right) (n : Nat) (hn : g.owner.length = n) : ∀ (c : Nat) (f : Nat → Bool), P.cntF g f < c → P.Goes g (P.inF g f) → ∀ (lo : Nat) (v vi : Value) (w : World), GameV w v g → OwnB w lo vi n f → lo ≤ w.heap.size →
    Calls Tryd.prog 30 #[v, vi] w fun e w' => ∃ u, e = .returned u ∧ WonT g n f lo u w' ∧ Below w.heap.size w w' := by
  intro c
  induction c with
  | zero => exact fun f h => absurd h (Nat.not_lt_zero _)
  | succ c ih =>
  intro f hcn hgo0 lo v vi w hv hi hlo
  have IH := Lib.hid ih
  have HCN := Lib.hid hcn
  have hgo := Lib.hid hgo0
  have HLO := Lib.hid hlo
  have HV := Lib.hid hv
  have hop := hr.prio
  have hmp := hr.moves
  have hmany := hr.many
  have h0 := hr.pos
  rw [hn] at hop hmp hmany h0
  obtain ⟨ba, oa, ka, bb, ob, kb, bc_, oc, kc, rfl, -, hcb, -⟩ := hv.open_ hn hop hmp h0
  have HCB := Lib.hid hcb
  have HR := Lib.hid hr
  have HN := Lib.hid hn
  have HOI := Lib.hid hi
  obtain ⟨pi, ki, rfl, -, hlt, -, -⟩ := own_form hi h0
  have HBI := Lib.hid (hi.bl h0)
  have HCI := Lib.hid (fun j (hj : j < n) => (hi.cell hj).1)
  have LBI := Lib.hid hlt
  clear ih hcn hgo0 hlo hcb hr hn hi hlt hop hmp hv
  go_enter Tryd.func30, Tryd.ntmps30
  go_wp2_with fail
  have bx0 : Box (w.alloc (.cells #[.slice (some ⟨ba, oa, none⟩) n ka, .slice (some ⟨bb, ob, none⟩) n kb, .slice (some ⟨bc_, oc, none⟩) n kc] 25)) (w.heap.size) 25 #[.slice (some ⟨ba, oa, none⟩) n ka, .slice (some ⟨bb, ob, none⟩) n kb, .slice (some ⟨bc_, oc, none⟩) n kc] := Box.new w 25 #[.slice (some ⟨ba, oa, none⟩) n ka, .slice (some ⟨bb, ob, none⟩) n kb, .slice (some ⟨bc_, oc, none⟩) n kc]
  have hbq : Below w.heap.size w (w.alloc (.cells #[.slice (some ⟨ba, oa, none⟩) n ka, .slice (some ⟨bb, ob, none⟩) n kb, .slice (some ⟨bc_, oc, none⟩) n kc] 25)) := (Below.refl _ w).alloc (Nat.le_refl _) _
  have hle0 : w.heap.size ≤ w.heap.size := Nat.le_refl _
  generalize (w.alloc (.cells #[.slice (some ⟨ba, oa, none⟩) n ka, .slice (some ⟨bb, ob, none⟩) n kb, .slice (some ⟨bc_, oc, none⟩) n kc] 25)) = w0 at bx0 hbq  ⊢
  have BQg := Lib.hid bx0
  have W := Lib.hid hbq
  have LEg := Lib.hid hle0
  clear hbq hle0 bx0 
  obtain ⟨qg, hqg⟩ : ∃ qg, w.heap.size = qg := ⟨_, rfl⟩
  rw [hqg] at BQg ⊢
  have LEg : Hid (w.heap.size ≤ qg) := Lib.hid (by omega)
  clear hqg
  refine (some_any n hmany f _ w0 (HBI.out.on W.out)).mono ?_
  rintro e w1 ⟨rfl, hb⟩
  replace BQg := Lib.hid (BQg.out.keep (grown_of_below hb none))
  replace W := Lib.hid (W.out.trans (hb.mono W.out.size))
  clear hb
  obtain ⟨an, han⟩ : ∃ b, anyB n f = b := ⟨_, rfl⟩
  rw [han]
  cases an
  · go_upto_region 4 with (fail)
    have hAw : Below w.heap.size w w1.drew := W.out.drew
    have hsz1 : lo ≤ w1.drew.heap.size := Nat.le_trans HLO.out hAw.size
    have oA0 : OwnB (Made w1.drew 4 (.bool false) n) lo (.slice (some ⟨w1.heap.size, 0, none⟩) n n) n (fun _ => false) := OwnB.made (made_own hsz1 n (by omega))
    have hlt1 := (own_lt oA0 w1.heap.size rfl).2
    have g1 := made_grown (e := 4) (z := .bool false) w1.drew n
    have g2 := made_grown (e := 4) (z := .bool false) (Made w1.drew 4 (.bool false) n) n
    have oA := own_grown oA0 g2
    have oB : OwnB (Made (Made w1.drew 4 (.bool false) n) 4 (.bool false) n) lo (.slice (some ⟨(Made w1.drew 4 (.bool false) n).heap.size, 0, none⟩) n n) n (fun _ => false) := OwnB.made (made_own (Nat.le_trans hsz1 (below_of_grown g1).size) n (by omega))
    have WW := Lib.hid ((hAw.trans ((below_of_grown g1).mono hAw.size)).trans ((below_of_grown g2).mono (Nat.le_trans hAw.size (below_of_grown g1).size)))
    have hso := P.solq_none (g := g) (f := f) fun i hi => anyB_false.1 han i (by rw [← HN.out]; exact hi)
    have HOUT1 := Lib.hid (show WonT g n f lo (.tuple #[.slice (some ⟨w1.heap.size, 0, none⟩) n n, .slice (some ⟨(Made w1.drew 4 (.bool false) n).heap.size, 0, none⟩) n n]) _ from ⟨_, _, _, _, _, _, rfl, by omega, oA, oB, hso⟩)
    have HOUT2 := Lib.hid (show WonT g n f lo (.tuple #[.slice (some ⟨(Made w1.drew 4 (.bool false) n).heap.size, 0, none⟩) n n, .slice (some ⟨w1.heap.size, 0, none⟩) n n]) _ from ⟨_, _, _, _, _, _, rfl, by omega, oB, oA, hso⟩)
    clear hAw hsz1 oA0 hlt1 g1 g2 oA oB hso
    have hmk := fun w => run_make1 elBoolB n (by omega) (by omega) w
    go_region
    all_goals
      clear hmk
      go_wp2_with fail
      first
        | (refine bodyPost_ret (v := _) ?_ rfl ⟨_, rfl, HOUT1.out, WW.out⟩; simp [results, Tryd.results30, go_sem]; done)
        | (refine bodyPost_ret (v := _) ?_ rfl ⟨_, rfl, HOUT2.out, WW.out⟩; simp [results, Tryd.results30, go_sem]; done)
  · have HANY := Lib.hid (anyB_true.1 han)
    clear han
    go_wp2_with fail
    go_loopw [8, 9] (fun tv i wr => ∃ (k : Nat) (z : Int), k ≤ n ∧ i = .int .i64 (k : Int) ∧ tv = .int .i64 z ∧ ((∀ j, j < k → f j = true → g.prio.getD j 0 ≤ z) ∧ (z = -1 ∧ (∀ j, j < k → f j = false) ∨ ∃ j, j < k ∧ f j = true ∧ g.prio.getD j 0 = z)) ∧ wr = w1) (fun _ i _ => n - (intOf i).toNat)
    case atStart => exact ⟨0, -1, Nat.zero_le _, rfl, rfl, ⟨fun j h => absurd h (Nat.not_lt_zero j), .inl ⟨rfl, fun j h => absurd h (Nat.not_lt_zero j)⟩⟩, rfl⟩
    case round =>
      obtain ⟨k, z, hk, rfl, rfl, hz, hw⟩ := hrel
      rw [hw]
      clear hw
      have HZ := Lib.hid hz
      clear hz
      have hk0 : (0 : Int) ≤ (k : Int) := Int.natCast_nonneg _
      by_cases hlt : k < n
      · have fk : decide ((k : Int) < (n : Int)) = true := decide_eq_true (by omega)
        have hki : (k : Int) < (n : Int) := by omega
        have ci := ((W.out).cell (p := ⟨pi, k, none⟩) LBI.out).trans (HCI.out k hlt)
        have cp := HCB.out w1 W.out k hlt
        obtain ⟨y, hy⟩ : ∃ y, g.prio.getD k 0 = y := ⟨_, rfl⟩
        rw [hy] at cp
        obtain ⟨b1, hb1⟩ : ∃ b, f k = b := ⟨_, rfl⟩
        rw [hb1] at ci
        have HY := Lib.hid hy
        have HB1 := Lib.hid hb1
        have hbb := BQg.out
        have gc0 : w1.cell? ⟨qg, 0, none⟩ = some (.slice (some ⟨ba, oa, none⟩) n ka) := hbb.cell 0 _ rfl
        have gc1 : w1.cell? ⟨qg, 1, none⟩ = some (.slice (some ⟨bb, ob, none⟩) n kb) := hbb.cell 1 _ rfl
        have gc2 : w1.cell? ⟨qg, 2, none⟩ = some (.slice (some ⟨bc_, oc, none⟩) n kc) := hbb.cell 2 _ rfl
        clear hbb
        clear hb1 hy
        cases b1
        · have HZ2 := Lib.hid (show (∀ j, j < k + 1 → f j = true → g.prio.getD j 0 ≤ z) ∧ (z = -1 ∧ (∀ j, j < k + 1 → f j = false) ∨ ∃ j, j < k + 1 ∧ f j = true ∧ g.prio.getD j 0 = z) from top_skip HZ.out HB1.out)
          go_wp2_with fail
          clear gc0 gc1 gc2 ci cp
          go_roundw
          case rel => exact ⟨k + 1, z, by omega, by first | rfl | go_num, rfl, HZ2.out, by first | trivial | rfl⟩
          case measure => simp [intOf]; omega
        · by_cases hyz : z < y
          · have fz : decide (z < y) = true := decide_eq_true hyz
            have HZ2 := Lib.hid (show (∀ j, j < k + 1 → f j = true → g.prio.getD j 0 ≤ y) ∧ (y = -1 ∧ (∀ j, j < k + 1 → f j = false) ∨ ∃ j, j < k + 1 ∧ f j = true ∧ g.prio.getD j 0 = y) from top_new HZ.out HB1.out HY.out hyz)
            go_wp2_with fail
            clear gc0 gc1 gc2 ci cp
            go_roundw
            case rel => exact ⟨k + 1, y, by omega, by first | rfl | go_num, rfl, HZ2.out, by first | trivial | rfl⟩
            case measure => simp [intOf]; omega
          · have fz : decide (z < y) = false := decide_eq_false hyz
            have HZ2 := Lib.hid (show (∀ j, j < k + 1 → f j = true → g.prio.getD j 0 ≤ z) ∧ (z = -1 ∧ (∀ j, j < k + 1 → f j = false) ∨ ∃ j, j < k + 1 ∧ f j = true ∧ g.prio.getD j 0 = z) from top_same HZ.out HY.out hyz (by rw [← HY.out]; exact (HR.out.at k (by rw [HN.out]; exact hlt)).2.1))
            go_wp2_with fail
            clear gc0 gc1 gc2 ci cp
            go_roundw
            case rel => exact ⟨k + 1, z, by omega, by first | rfl | go_num, rfl, HZ2.out, by first | trivial | rfl⟩
            case measure => simp [intOf]; omega
      · have fk : decide ((k : Int) < (n : Int)) = false := decide_eq_false (by omega)
        have hkn : k = n := by omega
        rw [hkn] at HZ
        clear hkn hk
        obtain ⟨it, hit, hitz⟩ : ∃ i, P.inF g f i ∧ g.prio.getD i 0 = z := by
          rcases HZ.out.2 with ⟨-, h2⟩ | ⟨i, h1, h2, h3⟩
          · obtain ⟨i, h1, h3⟩ := HANY.out
            rw [h2 i h1] at h3
            cases h3
          · exact ⟨i, ⟨by rw [HN.out]; exact h1, h2⟩, h3⟩
        have hz0 : 0 ≤ z := by rw [← hitz]; exact (HR.out.at it hit.1).2.1
        obtain ⟨pl, hpl⟩ : ∃ p, z % 2 = p := ⟨_, rfl⟩
        have fr : z.tmod 2 = pl := by rw [Int.tmod_eq_emod_of_nonneg hz0, hpl]
        have HP01 := Lib.hid (show pl = 0 ∨ pl = 1 by omega)
        have HPL := Lib.hid hpl
        have HZM := Lib.hid (show ∀ i, P.inF g f i → g.prio.getD i 0 ≤ z from fun i hi2 => HZ.out.1 i (by have := hi2.1; rw [HN.out] at this; exact this) hi2.2)
        have HTOP := Lib.hid hit
        have HTZ := Lib.hid hitz
        clear hit hitz hpl hz0
        go_wp2_with (refine wpl_make elBoolB rfl (.tmp 54) (.tmp 54) rfl n rfl rfl (by omega) (by omega) ?_; intro w2 hown1 hg1 hs1)
        obtain ⟨pm, hpm⟩ : ∃ pm, w1.heap.size = pm := ⟨_, rfl⟩
        have OM0 := Lib.hid (show OwnB w2 w.heap.size (.slice (some ⟨w1.heap.size, 0, none⟩) n n) n (fun _ => false) from own_more (OwnB.made hown1) W.out.size)
        have hb := below_of_grown hg1
        rw [hpm] at OM0 ⊢
        replace BQg := Lib.hid (BQg.out.keep (grown_of_below hb none))
        replace W := Lib.hid (W.out.trans (hb.mono W.out.size))
        clear hown1 hg1 hs1 hb hpm
        go_wp2_with fail
        go_loopw [12] (fun i wr => ∃ k : Nat, k ≤ n ∧ i = .int .i64 (k : Int) ∧ OwnB wr w.heap.size (.slice (some ⟨pm, 0, none⟩) n n) n (fun y => decide (y < k) && (f y && decide (g.prio.getD y 0 = z))) ∧ Box wr qg 25 #[.slice (some ⟨ba, oa, none⟩) n ka, .slice (some ⟨bb, ob, none⟩) n kb, .slice (some ⟨bc_, oc, none⟩) n kc] ∧ Below w.heap.size w wr) (fun i _ => n - (intOf i).toNat)
        case atStart => exact ⟨0, Nat.zero_le _, rfl, OM0.out.congr (fun y _ => by simp), BQg.out, W.out⟩
        case round =>
          obtain ⟨k, hk, rfl, ho, bg, hb⟩ := hrel
          have HO := Lib.hid ho
          replace BQg := Lib.hid bg
          replace W := Lib.hid hb
          clear ho bg hb
          have hk0 : (0 : Int) ≤ (k : Int) := Int.natCast_nonneg _
          by_cases hlt : k < n
          · have fk : decide ((k : Int) < (n : Int)) = true := decide_eq_true (by omega)
            have hki : (k : Int) < (n : Int) := by omega
            have ci := ((W.out).cell (p := ⟨pi, k, none⟩) LBI.out).trans (HCI.out k hlt)
            have cp := HCB.out wr W.out k hlt
            obtain ⟨co, fo⟩ := HO.out.cell hlt
            have HREL := Lib.hid (show ∀ b : Bool, (f k && decide (g.prio.getD k 0 = z)) = b → OwnB (wr.setCell ⟨pm, k, none⟩ (.bool b)) w.heap.size (.slice (some ⟨pm, 0, none⟩) n n) n (fun y => decide (y < k + 1) && (f y && decide (g.prio.getD y 0 = z))) from fun b hb => (HO.out.put k b).congr fun y _ => by
              by_cases e : y = k
              · subst e; rw [if_pos rfl, decide_eq_true (by omega), Bool.true_and, hb]
              · rw [if_neg e]
                congr 1
                rw [Bool.eq_iff_iff, decide_eq_true_eq, decide_eq_true_eq]
                omega)
            have ng : qg ≠ pm := fun e => own_box HO.out BQg.out (by decide) (by rw [e]; rfl)
            have HB2 := Lib.hid (fun b : Bool => W.out.setCell (p := ⟨pm, k, none⟩) (own_lt HO.out pm rfl).1 (.bool b))
            have HG2 := Lib.hid (fun b : Bool => BQg.out.far (p := ⟨pm, k, none⟩) ng (.bool b))
            obtain ⟨y, hy⟩ : ∃ y, g.prio.getD k 0 = y := ⟨_, rfl⟩
            rw [hy] at cp
            obtain ⟨b1, hb1⟩ : ∃ b, f k = b := ⟨_, rfl⟩
            rw [hb1] at ci
            have HREL2 := Lib.hid (HREL.out (b1 && decide (y = z)) (by rw [hb1, hy]))
            have hbb := BQg.out
            have gc0 : wr.cell? ⟨qg, 0, none⟩ = some (.slice (some ⟨ba, oa, none⟩) n ka) := hbb.cell 0 _ rfl
            have gc1 : wr.cell? ⟨qg, 1, none⟩ = some (.slice (some ⟨bb, ob, none⟩) n kb) := hbb.cell 1 _ rfl
            have gc2 : wr.cell? ⟨qg, 2, none⟩ = some (.slice (some ⟨bc_, oc, none⟩) n kc) := hbb.cell 2 _ rfl
            clear hbb
            clear hb1 hy ng
            cases b1
            · go_wp2_with fail
              clear gc0 gc1 gc2 ci cp co fo
              go_roundw
              case rel => exact ⟨k + 1, by omega, by first | rfl | go_num, HREL2.out, HG2.out _, HB2.out _⟩
              case measure => simp [intOf]; omega
            · have fe : (y == z) = decide (y = z) := by rw [Bool.eq_iff_iff, beq_iff_eq, decide_eq_true_eq]
              have HFE := Lib.hid fe
              have HREL3 := HREL2.out
              rw [Bool.true_and, ← fe] at HREL3
              have HREL4 := Lib.hid HREL3
              clear fe HREL3
              go_wp2_with fail
              clear gc0 gc1 gc2 ci cp co fo
              go_roundw
              case rel => exact ⟨k + 1, by omega, by first | rfl | go_num, HREL4.out, HG2.out _, HB2.out _⟩
              case measure => simp [intOf]; omega
          · have fk : decide ((k : Int) < (n : Int)) = false := decide_eq_false (by omega)
            have OM := Lib.hid (HO.out.congr (h := fun y => f y && decide (g.prio.getD y 0 = z)) (fun y hy => by rw [decide_eq_true (show y < k by omega), Bool.true_and]))
            clear HO fk
            obtain ⟨w2, rfl⟩ : ∃ w2 : World, w2 = wr := ⟨_, rfl⟩
            have hbb := BQg.out
            have gc0 : w2.cell? ⟨qg, 0, none⟩ = some (.slice (some ⟨ba, oa, none⟩) n ka) := hbb.cell 0 _ rfl
            have gc1 : w2.cell? ⟨qg, 1, none⟩ = some (.slice (some ⟨bb, ob, none⟩) n kb) := hbb.cell 1 _ rfl
            have gc2 : w2.cell? ⟨qg, 2, none⟩ = some (.slice (some ⟨bc_, oc, none⟩) n kc) := hbb.cell 2 _ rfl
            clear hbb
            go_wp2_with fail
            clear gc0 gc1 gc2
            have bm := (OwnB.bl OM.out h0).congr (h := fun i => (P.setK (fun y => f y && decide (g.prio.getD y 0 = z)) g.owner.length).getLsbD i) (fun i hi => setK_at (f := fun y => f y && decide (g.prio.getD y 0 = z)) HN.out (Nat.le_trans hmany (by omega)) hi)
            have bi := (HBI.out.on W.out).congr (h := fun i => (P.setK f g.owner.length).getLsbD i) (fun i hi => setK_at HN.out (Nat.le_trans hmany (by omega)) hi)
            rw [← HN.out] at bm bi
            refine (rattract_any g HR.out (P.setK f g.owner.length) (P.setK (fun y => f y && decide (g.prio.getD y 0 = z)) g.owner.length) pl _ _ _ w2 (HV.out.on W.out) (by rw [HN.out] at bi ⊢; exact bi) (by rw [HN.out] at bm ⊢; exact bm)).mono ?_
            rintro e w3 ⟨va, a, rfl, hoa, hatt, hb⟩
            rw [HN.out] at hoa
            obtain ⟨pa, ka2, rfl, -, -, -, -⟩ := own_form hoa h0
            obtain ⟨mvA, rkA, hat⟩ := P.att_attr HR.out f (fun y => f y && decide (g.prio.getD y 0 = z)) a hgo.out hatt
            have HATT := Lib.hid hat
            have HATOP := Lib.hid (show a it = true from (hat.base it HTOP.out ⟨HTOP.out.1, by show (f it && decide (g.prio.getD it 0 = z)) = true; rw [HTOP.out.2, decide_eq_true HTZ.out]; rfl⟩).2)
            clear hat
            have HAI := Lib.hid hatt
            have OA := Lib.hid hoa
            replace BQg := Lib.hid (BQg.out.keep (grown_of_below hb none))
            replace W := Lib.hid (W.out.trans (hb.mono W.out.size))
            clear hb hoa hatt bm bi
            go_upto_region 18 with (fail)
            refine Rt.wp_region_tail 1 (fun idx => match idx with | 0 => (fun v _ _ => v = .agg #[.slice (some ⟨ba, oa, none⟩) n ka, .slice (some ⟨bb, ob, none⟩) n kb, .slice (some ⟨bc_, oc, none⟩) n kc]) | 1 => (fun v _ _ => v = (.slice (some ⟨pi, 0, none⟩) n ki)) | 2 => (fun v _ _ => v = (.slice (some ⟨pa, 0, none⟩) n ka2)) | 3 => (fun v _ w' => ∃ q k, v = .slice (some ⟨q, 0, none⟩) n k ∧ OwnB w' w3.heap.size v n (fun i => f i && !a i)) | 4 => (fun v _ w' => WonT g n (fun i => f i && !a i) w3.heap.size v w') | 5 => (fun v ds w' => v = ds.getD 0 undef ∧ WonT g n (fun i => f i && !a i) w3.heap.size v w') | 6 => (fun v ds _ => v = tupW (ds.getD 0 undef) 0) | 7 => (fun v ds _ => v = tupW (ds.getD 0 undef) 1) | 8 => (fun v ds _ => v = ds.getD 0 undef) | _ => fun _ _ _ => True) (fun _ _ _ _ => True) (Rk.allK) 99 (by kernel_rfl) (by rfl) (by kernel_rfl) (by rfl) ?_ ?_ ?_ ?_
            · refine ⟨?_, ?_, ?_, ?_, ?_, ?_, ?_, ?_, ?_, trivial⟩
              · intro A w' K vals h hn hT hgk hK0
                have r0 : A.tmps[2]?.getD undef = .pointer (some ⟨qg, 0, none⟩) := Rg.slot h.1
                have bs := BQg.out.keep (Rk.grown_of hgk)
                have cc0 : w'.cell? ⟨qg, 0, none⟩ = some (.slice (some ⟨ba, oa, none⟩) n ka) := bs.cell 0 _ rfl
                have cc1 : w'.cell? ⟨qg, 1, none⟩ = some (.slice (some ⟨bb, ob, none⟩) n kb) := bs.cell 1 _ rfl
                have cc2 : w'.cell? ⟨qg, 2, none⟩ = some (.slice (some ⟨bc_, oc, none⟩) n kc) := bs.cell 2 _ rfl
                clear h hn hT hgk bs
                simp [Oper.wp, execOp, go_sem, r0, cc0, cc1, cc2]
                exact hK0 _ _ (Rk.Keeps.refl _ _) rfl trivial
              · intro A w' K vals h hn hT hgk hK0
                have r0 : A.tmps[1]?.getD undef = .slice (some ⟨pi, 0, none⟩) n ki := Rg.slot h.1
                clear h hn hT hgk
                simp [Oper.wp, execOp, go_sem, r0]
                exact hK0 _ _ (Rk.Keeps.refl _ _) rfl trivial
              · intro A w' K vals h hn hT hgk hK0
                have r0 : A.tmps[13]?.getD undef = .slice (some ⟨pa, 0, none⟩) n ka2 := Rg.slot h.1
                clear h hn hT hgk
                simp [Oper.wp, execOp, go_sem, r0]
                exact hK0 _ _ (Rk.Keeps.refl _ _) rfl trivial
              · intro A w' K vals h hn hT hgk hK0
                have r0 : A.tmps[84]?.getD undef = vals 1 := Rg.slot h.2.1
                have r1 : A.tmps[85]?.getD undef = vals 2 := Rg.slot h.2.2.1
                have s0 : vals 1 = (.slice (some ⟨pi, 0, none⟩) n ki) := hn.1
                have s1 : vals 2 = (.slice (some ⟨pa, 0, none⟩) n ka2) := hn.2.1
                have hb := below_of_grown (Rk.grown_of hgk)
                have hsz := hgk.size
                have b1 := HBI.out.on (W.out.trans (hb.mono W.out.size))
                have b2 := (OwnB.bl OA.out h0).on hb
                clear h hn hT hgk
                simp [Oper.wp, go_sem, r0, r1, s0, s1]
                refine (less_any n hmany f a _ _ w' b1 b2).mono ?_
                rintro e w'' ⟨u, rfl, ho, hb⟩
                obtain ⟨q, k, rfl, -, -, -, -⟩ := own_form ho h0
                exact hK0 _ _ (Rk.keep_of (grown_of_below hb _)) ⟨q, k, rfl, own_more ho hsz⟩ trivial
              · intro A w' K vals h hn hT hgk hK0
                have r0 : A.tmps[83]?.getD undef = vals 0 := Rg.slot h.2.1
                have r1 : A.tmps[86]?.getD undef = vals 3 := Rg.slot h.2.2.1
                have s0 : vals 0 = .agg #[.slice (some ⟨ba, oa, none⟩) n ka, .slice (some ⟨bb, ob, none⟩) n kb, .slice (some ⟨bc_, oc, none⟩) n kc] := hn.1
                obtain ⟨q, k, s1, ho⟩ : ∃ q k, vals 3 = .slice (some ⟨q, 0, none⟩) n k ∧ OwnB w' w3.heap.size (vals 3) n (fun i => f i && !a i) := hn.2.1
                have hb := below_of_grown (Rk.grown_of hgk)
                have hsz := hgk.size
                rw [s1] at ho
                clear h hn hT hgk
                simp [Oper.wp, go_sem, r0, r1, s0, s1]
                refine (IH.out (fun i => f i && !a i) (by have := HCN.out; have := P.cntF_less HTOP.out HATOP.out; omega) (P.Goes.less HATT.out hgo.out) w3.heap.size _ _ w' (HV.out.on (W.out.trans (hb.mono W.out.size))) ho hsz).mono ?_
                rintro e w'' ⟨u, rfl, ht, hb⟩
                exact hK0 _ _ (Rk.keep_of (grown_of_below hb _)) ht trivial
              · intro A w' K vals h hn hT hgk hK0
                have r0 : A.tmps[87]?.getD undef = vals 4 := Rg.slot h.1
                have n3 : WonT g n (fun i => f i && !a i) w3.heap.size (vals 4) w' := hn.1
                clear h hn hT hgk
                simp [Oper.wp, execOp, go_sem, r0]
                exact hK0 _ _ (Rk.Keeps.refl _ _) ⟨rfl, n3⟩ trivial
              · intro A w' K vals h hn hT hgk hK0
                have r0 : A.tmps[82]?.getD undef = vals 5 := Rg.slot h.1
                obtain ⟨q1, k1, q2, k2, x, y, hv, -⟩ : WonT g n (fun i => f i && !a i) w3.heap.size (vals 5) w' := hn.1.2
                clear h hn hT hgk
                simp [Oper.wp, execOp, go_sem, r0, hv]
                refine hK0 _ _ (Rk.Keeps.refl _ _) ?_ trivial
                show _ = tupW (vals 5) 0
                rw [hv]
                rfl
              · intro A w' K vals h hn hT hgk hK0
                have r0 : A.tmps[82]?.getD undef = vals 5 := Rg.slot h.1
                obtain ⟨q1, k1, q2, k2, x, y, hv, -⟩ : WonT g n (fun i => f i && !a i) w3.heap.size (vals 5) w' := hn.1.2
                clear h hn hT hgk
                simp [Oper.wp, execOp, go_sem, r0, hv]
                refine hK0 _ _ (Rk.Keeps.refl _ _) ?_ trivial
                show _ = tupW (vals 5) 1
                rw [hv]
                rfl
              · intro A w' K vals h hn hT hgk hK0
                have r0 : A.tmps[88]?.getD undef = vals 6 := Rg.slot h.1
                clear h hn hT hgk
                simp [Oper.wp, execOp, go_sem, r0]
                exact hK0 _ _ (Rk.Keeps.refl _ _) rfl trivial
            · refine ⟨?_, ?_, ?_, ?_, ?_, ?_, ?_, ?_, ?_, trivial⟩
              · exact fun _ _ _ _ _ _ h => h
              · exact fun _ _ _ _ _ _ h => h
              · exact fun _ _ _ _ _ _ h => h
              · exact fun _ _ _ _ _ h ⟨q, k, h1, h2⟩ => ⟨q, k, h1, own_grown h2 (Rk.grown_of h)⟩
              · exact fun _ _ _ _ _ h hu => hu.grown (Rk.grown_of h)
              · exact fun _ _ _ _ _ h hu => ⟨hu.1, hu.2.grown (Rk.grown_of h)⟩
              · exact fun _ _ _ _ _ _ h => h
              · exact fun _ _ _ _ _ _ h => h
              · exact fun _ _ _ _ _ _ h => h
            · exact fun _ _ _ _ _ _ h => h
            · intro vals w4 G hgk hS hG
              obtain ⟨q1p, k1p, q2p, k2p, xp, yp, s5, hqp, hxp, hyp, hsolp⟩ : WonT g n (fun i => f i && !a i) w3.heap.size (vals 5) w4 := hS.2.2.2.2.2.1.2
              have s6 : vals 6 = tupW (vals 5) 0 := hS.2.2.2.2.2.2.1
              have s7 : vals 7 = tupW (vals 5) 1 := hS.2.2.2.2.2.2.2.1
              have s8 : vals 8 = vals 6 := hS.2.2.2.2.2.2.2.2.1
              clear hS
              rw [s5] at s6 s7
              replace s6 : vals 6 = .slice (some ⟨q1p, 0, none⟩) n k1p := s6
              replace s7 : vals 7 = .slice (some ⟨q2p, 0, none⟩) n k2p := s7
              rw [s6] at s8
              have HQp := Lib.hid hqp
              have OXp := Lib.hid hxp
              have OYp := Lib.hid hyp
              have HSp := Lib.hid hsolp
              have hb := below_of_grown (Rk.grown_of hgk)
              have HSZp : Hid (w.heap.size ≤ w3.heap.size) := Lib.hid W.out.size
              have HLQp : Hid (w3.heap.size ≤ q1p ∧ w3.heap.size ≤ q2p) := Lib.hid ⟨(own_lt OXp.out q1p rfl).1, (own_lt OYp.out q2p rfl).1⟩
              replace BQg := Lib.hid (BQg.out.keep (grown_of_below hb none))
              replace W := Lib.hid (W.out.trans (hb.mono W.out.size))
              clear hb hgk hqp hxp hyp hsolp
              refine hG ?_
              clear hG
              simp only [List.take, List.drop, List.length, Nat.reduceSub, Nat.reduceAdd, Rg.putAll, Act.put, List.setIfInBounds_toArray, List.set_cons_succ, List.set_cons_zero, s7, s8]
              clear s5 s6 s7 s8
              rcases HP01.out with e1 | e1
              · subst e1
                have HSOL := Lib.hid (P.solB_q (p := 0) (by first | exact .inl rfl | exact .inr rfl) HSp.out)
                go_wp2_with fail
                refine (some_any n hmany yp _ w4 (OwnB.bl OYp.out h0)).mono ?_
                rintro e w5 ⟨rfl, hb⟩
                replace OYp := Lib.hid (own_grown OYp.out (grown_of_below hb none))
                replace BQg := Lib.hid (BQg.out.keep (grown_of_below hb none))
                replace W := Lib.hid (W.out.trans (hb.mono W.out.size))
                have HSZ5 : Hid (w.heap.size ≤ w5.heap.size) := Lib.hid W.out.size
                clear hb
                obtain ⟨an2, han2⟩ : ∃ b, anyB n yp = b := ⟨_, rfl⟩
                rw [han2]
                cases an2
                · have HALL := Lib.hid (P.solq_all HR.out (p := 0) hgo.out HZM.out HPL.out (fun i _ => rfl) HAI.out HSOL.out (fun i hi => anyB_false.1 han2 i (by rw [← HN.out]; exact hi)))
                  clear han2
                  go_upto_region 25 with (fail)
                  refine Rt.wp_region_tail 1 (fun idx => match idx with | 0 => (fun v _ _ => v = (.slice (some ⟨pi, 0, none⟩) n ki)) | 1 => (fun v _ _ => v = (.int .i64 (n : Int))) | 2 => (fun v _ w' => ∃ q, v = .slice (some ⟨q, 0, none⟩) n n ∧ w.heap.size ≤ q ∧ OwnB w' lo v n (fun _ => false)) | 3 => (fun v ds _ => v = ds.getD 0 undef) | _ => fun _ _ _ => True) (fun _ _ _ _ => True) (Rk.allK) 99 (by kernel_rfl) (by rfl) (by kernel_rfl) (by rfl) ?_ ?_ ?_ ?_
                  · refine ⟨?_, ?_, ?_, ?_, trivial⟩
                    · intro A w' K vals h hn hT hgk hK0
                      have r0 : A.tmps[1]?.getD undef = .slice (some ⟨pi, 0, none⟩) n ki := Rg.slot h.1
                      clear h hn hT hgk
                      simp [Oper.wp, execOp, go_sem, r0]
                      exact hK0 _ _ (Rk.Keeps.refl _ _) rfl trivial
                    · intro A w' K vals h hn hT hgk hK0
                      have r0 : A.tmps[6]?.getD undef = .int .i64 (n : Int) := Rg.slot h.1
                      clear h hn hT hgk
                      simp [Oper.wp, execOp, go_sem, r0]
                      exact hK0 _ _ (Rk.Keeps.refl _ _) rfl trivial
                    · intro A w' K vals h hn hT hgk hK0
                      have r0 : A.tmps[101]?.getD undef = vals 1 := Rg.slot h.1
                      have s0 : vals 1 = .int .i64 (n : Int) := hn.1
                      have hsz := hgk.size
                      clear h hn hT
                      refine op_make elBoolB rfl n (by simp [Act.eval, r0, s0]) (by simp [Act.eval, r0, s0]) (by omega) (by omega) (hK0 _ _ (Rk.keep_of (made_grown w' n)) ⟨_, rfl, Nat.le_trans W.out.size hsz, own_more (OwnB.made (made_own (Nat.le_refl _) n (by omega))) (Nat.le_trans HLO.out (Nat.le_trans W.out.size hsz))⟩ trivial)
                    · intro A w' K vals h hn hT hgk hK0
                      have r0 : A.tmps[100]?.getD undef = vals 0 := Rg.slot h.1
                      clear h hn hT hgk
                      simp [Oper.wp, execOp, go_sem, r0]
                      exact hK0 _ _ (Rk.Keeps.refl _ _) rfl trivial
                  · refine ⟨?_, ?_, ?_, ?_, trivial⟩
                    · exact fun _ _ _ _ _ _ h => h
                    · exact fun _ _ _ _ _ _ h => h
                    · exact fun _ _ _ _ _ h ⟨q, h1, h2, h3⟩ => ⟨q, h1, h2, own_grown h3 (Rk.grown_of h)⟩
                    · exact fun _ _ _ _ _ _ h => h
                  · exact fun _ _ _ _ _ _ h => h
                  · intro vals w6 G hgk hS hG
                    have s0 : vals 0 = (.slice (some ⟨pi, 0, none⟩) n ki) := hS.1
                    obtain ⟨q, s2, hq, hm0⟩ : ∃ q, vals 2 = .slice (some ⟨q, 0, none⟩) n n ∧ w.heap.size ≤ q ∧ OwnB w6 lo (vals 2) n (fun _ => false) := hS.2.2.1
                    have s3 : vals 3 = vals 0 := hS.2.2.2.1
                    clear hS
                    rw [s0] at s3
                    rw [s2] at hm0
                    have hb := below_of_grown (Rk.grown_of hgk)
                    replace W := Lib.hid (W.out.trans (hb.mono W.out.size))
                    clear hb hgk
                    have HOUT := Lib.hid (show WonT g n f lo (.tuple #[.slice (some ⟨pi, 0, none⟩) n ki, .slice (some ⟨q, 0, none⟩) n n]) w6 from ⟨_, _, _, _, f, _, rfl, fun e => by have h1 := LBI.out; omega, own_grown HOI.out (grown_of_below W.out none), hm0, P.solq_b (p := 0) (.inl rfl) HALL.out⟩)
                    clear hm0 hq
                    refine hG ?_
                    clear hG
                    simp only [List.take, List.drop, List.length, Nat.reduceSub, Nat.reduceAdd, Rg.putAll, Act.put, List.setIfInBounds_toArray, List.set_cons_succ, List.set_cons_zero, s2, s3]
                    clear s0 s2 s3
                    go_wp2_with fail
                    exact bodyPost_ret (v := _) (by simp [results, Tryd.results30, go_sem]) rfl ⟨_, rfl, HOUT.out, W.out⟩
                · have HSOME := Lib.hid (anyB_true.1 han2)
                  clear han2
                  have hbb := BQg.out
                  have gc0 : w5.cell? ⟨qg, 0, none⟩ = some (.slice (some ⟨ba, oa, none⟩) n ka) := hbb.cell 0 _ rfl
                  have gc1 : w5.cell? ⟨qg, 1, none⟩ = some (.slice (some ⟨bb, ob, none⟩) n kb) := hbb.cell 1 _ rfl
                  have gc2 : w5.cell? ⟨qg, 2, none⟩ = some (.slice (some ⟨bc_, oc, none⟩) n kc) := hbb.cell 2 _ rfl
                  clear hbb
                  go_wp2_with fail
                  clear gc0 gc1 gc2
                  have bl := (OwnB.bl OYp.out h0).congr (h := fun i => (P.setK yp g.owner.length).getLsbD i) (fun i hi => setK_at HN.out (Nat.le_trans hmany (by omega)) hi)
                  have bi := (HBI.out.on W.out).congr (h := fun i => (P.setK f g.owner.length).getLsbD i) (fun i hi => setK_at HN.out (Nat.le_trans hmany (by omega)) hi)
                  rw [← HN.out] at bl bi
                  refine (rattract_any g HR.out (P.setK f g.owner.length) (P.setK yp g.owner.length) 1 _ _ _ w5 (HV.out.on W.out) (by rw [HN.out] at bi ⊢; exact bi) (by rw [HN.out] at bl ⊢; exact bl)).mono ?_
                  rintro e w6 ⟨vb, b, rfl, hob, hbtt, hb⟩
                  rw [HN.out] at hob
                  obtain ⟨pb, kb2, rfl, -, -, -, -⟩ := own_form hob h0
                  obtain ⟨mvB, rkB, hat⟩ := P.att_attr HR.out f yp b hgo.out hbtt
                  have HBTT := Lib.hid hat
                  obtain ⟨li, hli1, hli2⟩ := HSOME.out
                  have HLF := Lib.hid (P.solq_sub HSOL.out li (by rw [HN.out]; exact hli1) hli2)
                  have HLI : Hid (P.inF g f li) := Lib.hid HLF.out
                  have HBI2 := Lib.hid (show b li = true from (hat.base li HLF.out ⟨HLF.out.1, hli2⟩).2)
                  have HBAT := Lib.hid hbtt
                  have OB := Lib.hid hob
                  have HPB : Hid (pb < w6.heap.size) := Lib.hid (own_lt hob pb rfl).2
                  have HSZb : Hid (w.heap.size ≤ w5.heap.size) := Lib.hid W.out.size
                  replace BQg := Lib.hid (BQg.out.keep (grown_of_below hb none))
                  replace W := Lib.hid (W.out.trans (hb.mono W.out.size))
                  clear hb hob hbtt bl bi hat hli1 hli2
                  go_upto_region 28 with (fail)
                  refine Rt.wp_region_tail 1 (fun idx => match idx with | 0 => (fun v _ _ => v = .agg #[.slice (some ⟨ba, oa, none⟩) n ka, .slice (some ⟨bb, ob, none⟩) n kb, .slice (some ⟨bc_, oc, none⟩) n kc]) | 1 => (fun v _ _ => v = (.slice (some ⟨pi, 0, none⟩) n ki)) | 2 => (fun v _ _ => v = (.slice (some ⟨pb, 0, none⟩) n kb2)) | 3 => (fun v _ w' => ∃ q k, v = .slice (some ⟨q, 0, none⟩) n k ∧ OwnB w' w6.heap.size v n (fun i => f i && !b i)) | 4 => (fun v _ w' => WonT g n (fun i => f i && !b i) w6.heap.size v w') | 5 => (fun v ds w' => v = ds.getD 0 undef ∧ WonT g n (fun i => f i && !b i) w6.heap.size v w') | 6 => (fun v ds _ => v = tupW (ds.getD 0 undef) 0) | 7 => (fun v ds _ => v = tupW (ds.getD 0 undef) 1) | 8 => (fun v ds _ => v = ds.getD 0 undef) | _ => fun _ _ _ => True) (fun _ _ _ _ => True) (Rk.allK) 99 (by kernel_rfl) (by rfl) (by kernel_rfl) (by rfl) ?_ ?_ ?_ ?_
                  · refine ⟨?_, ?_, ?_, ?_, ?_, ?_, ?_, ?_, ?_, trivial⟩
                    · intro A w' K vals h hn hT hgk hK0
                      have r0 : A.tmps[2]?.getD undef = .pointer (some ⟨qg, 0, none⟩) := Rg.slot h.1
                      have bs := BQg.out.keep (Rk.grown_of hgk)
                      have cc0 : w'.cell? ⟨qg, 0, none⟩ = some (.slice (some ⟨ba, oa, none⟩) n ka) := bs.cell 0 _ rfl
                      have cc1 : w'.cell? ⟨qg, 1, none⟩ = some (.slice (some ⟨bb, ob, none⟩) n kb) := bs.cell 1 _ rfl
                      have cc2 : w'.cell? ⟨qg, 2, none⟩ = some (.slice (some ⟨bc_, oc, none⟩) n kc) := bs.cell 2 _ rfl
                      clear h hn hT hgk bs
                      simp [Oper.wp, execOp, go_sem, r0, cc0, cc1, cc2]
                      exact hK0 _ _ (Rk.Keeps.refl _ _) rfl trivial
                    · intro A w' K vals h hn hT hgk hK0
                      have r0 : A.tmps[1]?.getD undef = .slice (some ⟨pi, 0, none⟩) n ki := Rg.slot h.1
                      clear h hn hT hgk
                      simp [Oper.wp, execOp, go_sem, r0]
                      exact hK0 _ _ (Rk.Keeps.refl _ _) rfl trivial
                    · intro A w' K vals h hn hT hgk hK0
                      have r0 : A.tmps[17]?.getD undef = .slice (some ⟨pb, 0, none⟩) n kb2 := Rg.slot h.1
                      clear h hn hT hgk
                      simp [Oper.wp, execOp, go_sem, r0]
                      exact hK0 _ _ (Rk.Keeps.refl _ _) rfl trivial
                    · intro A w' K vals h hn hT hgk hK0
                      have r0 : A.tmps[114]?.getD undef = vals 1 := Rg.slot h.2.1
                      have r1 : A.tmps[115]?.getD undef = vals 2 := Rg.slot h.2.2.1
                      have s0 : vals 1 = (.slice (some ⟨pi, 0, none⟩) n ki) := hn.1
                      have s1 : vals 2 = (.slice (some ⟨pb, 0, none⟩) n kb2) := hn.2.1
                      have hb := below_of_grown (Rk.grown_of hgk)
                      have hsz := hgk.size
                      have b1 := HBI.out.on (W.out.trans (hb.mono W.out.size))
                      have b2 := (OwnB.bl OB.out h0).on hb
                      clear h hn hT hgk
                      simp [Oper.wp, go_sem, r0, r1, s0, s1]
                      refine (less_any n hmany f b _ _ w' b1 b2).mono ?_
                      rintro e w'' ⟨u, rfl, ho, hb⟩
                      obtain ⟨q, k, rfl, -, -, -, -⟩ := own_form ho h0
                      exact hK0 _ _ (Rk.keep_of (grown_of_below hb _)) ⟨q, k, rfl, own_more ho hsz⟩ trivial
                    · intro A w' K vals h hn hT hgk hK0
                      have r0 : A.tmps[113]?.getD undef = vals 0 := Rg.slot h.2.1
                      have r1 : A.tmps[116]?.getD undef = vals 3 := Rg.slot h.2.2.1
                      have s0 : vals 0 = .agg #[.slice (some ⟨ba, oa, none⟩) n ka, .slice (some ⟨bb, ob, none⟩) n kb, .slice (some ⟨bc_, oc, none⟩) n kc] := hn.1
                      obtain ⟨q, k, s1, ho⟩ : ∃ q k, vals 3 = .slice (some ⟨q, 0, none⟩) n k ∧ OwnB w' w6.heap.size (vals 3) n (fun i => f i && !b i) := hn.2.1
                      have hb := below_of_grown (Rk.grown_of hgk)
                      have hsz := hgk.size
                      rw [s1] at ho
                      clear h hn hT hgk
                      simp [Oper.wp, go_sem, r0, r1, s0, s1]
                      refine (IH.out (fun i => f i && !b i) (by have := HCN.out; have := P.cntF_less HLI.out HBI2.out; omega) (P.Goes.less HBTT.out hgo.out) w6.heap.size _ _ w' (HV.out.on (W.out.trans (hb.mono W.out.size))) ho hsz).mono ?_
                      rintro e w'' ⟨u, rfl, ht, hb⟩
                      exact hK0 _ _ (Rk.keep_of (grown_of_below hb _)) ht trivial
                    · intro A w' K vals h hn hT hgk hK0
                      have r0 : A.tmps[117]?.getD undef = vals 4 := Rg.slot h.1
                      have n3 : WonT g n (fun i => f i && !b i) w6.heap.size (vals 4) w' := hn.1
                      clear h hn hT hgk
                      simp [Oper.wp, execOp, go_sem, r0]
                      exact hK0 _ _ (Rk.Keeps.refl _ _) ⟨rfl, n3⟩ trivial
                    · intro A w' K vals h hn hT hgk hK0
                      have r0 : A.tmps[112]?.getD undef = vals 5 := Rg.slot h.1
                      obtain ⟨q1, k1, q2, k2, x, y, hv, -⟩ : WonT g n (fun i => f i && !b i) w6.heap.size (vals 5) w' := hn.1.2
                      clear h hn hT hgk
                      simp [Oper.wp, execOp, go_sem, r0, hv]
                      refine hK0 _ _ (Rk.Keeps.refl _ _) ?_ trivial
                      show _ = tupW (vals 5) 0
                      rw [hv]
                      rfl
                    · intro A w' K vals h hn hT hgk hK0
                      have r0 : A.tmps[112]?.getD undef = vals 5 := Rg.slot h.1
                      obtain ⟨q1, k1, q2, k2, x, y, hv, -⟩ : WonT g n (fun i => f i && !b i) w6.heap.size (vals 5) w' := hn.1.2
                      clear h hn hT hgk
                      simp [Oper.wp, execOp, go_sem, r0, hv]
                      refine hK0 _ _ (Rk.Keeps.refl _ _) ?_ trivial
                      show _ = tupW (vals 5) 1
                      rw [hv]
                      rfl
                    · intro A w' K vals h hn hT hgk hK0
                      have r0 : A.tmps[118]?.getD undef = vals 6 := Rg.slot h.1
                      clear h hn hT hgk
                      simp [Oper.wp, execOp, go_sem, r0]
                      exact hK0 _ _ (Rk.Keeps.refl _ _) rfl trivial
                  · refine ⟨?_, ?_, ?_, ?_, ?_, ?_, ?_, ?_, ?_, trivial⟩
                    · exact fun _ _ _ _ _ _ h => h
                    · exact fun _ _ _ _ _ _ h => h
                    · exact fun _ _ _ _ _ _ h => h
                    · exact fun _ _ _ _ _ h ⟨q, k, h1, h2⟩ => ⟨q, k, h1, own_grown h2 (Rk.grown_of h)⟩
                    · exact fun _ _ _ _ _ h hu => hu.grown (Rk.grown_of h)
                    · exact fun _ _ _ _ _ h hu => ⟨hu.1, hu.2.grown (Rk.grown_of h)⟩
                    · exact fun _ _ _ _ _ _ h => h
                    · exact fun _ _ _ _ _ _ h => h
                    · exact fun _ _ _ _ _ _ h => h
                  · exact fun _ _ _ _ _ _ h => h
                  · intro vals w7 G hgk hS hG
                    obtain ⟨q1q, k1q, q2q, k2q, xq, yq, s5, hqq, hxq, hyq, hsolq⟩ : WonT g n (fun i => f i && !b i) w6.heap.size (vals 5) w7 := hS.2.2.2.2.2.1.2
                    have s6 : vals 6 = tupW (vals 5) 0 := hS.2.2.2.2.2.2.1
                    have s7 : vals 7 = tupW (vals 5) 1 := hS.2.2.2.2.2.2.2.1
                    have s8 : vals 8 = vals 6 := hS.2.2.2.2.2.2.2.2.1
                    clear hS
                    rw [s5] at s6 s7
                    replace s6 : vals 6 = .slice (some ⟨q1q, 0, none⟩) n k1q := s6
                    replace s7 : vals 7 = .slice (some ⟨q2q, 0, none⟩) n k2q := s7
                    rw [s6] at s8
                    have HQq := Lib.hid hqq
                    have OXq := Lib.hid hxq
                    have OYq := Lib.hid hyq
                    have HSq := Lib.hid hsolq
                    have hb := below_of_grown (Rk.grown_of hgk)
                    have HSZq : Hid (w.heap.size ≤ w6.heap.size) := Lib.hid W.out.size
                    have HLQq : Hid (w6.heap.size ≤ q1q ∧ w6.heap.size ≤ q2q) := Lib.hid ⟨(own_lt OXq.out q1q rfl).1, (own_lt OYq.out q2q rfl).1⟩
                    replace OB := Lib.hid (own_grown OB.out (grown_of_below hb none))
                    replace BQg := Lib.hid (BQg.out.keep (grown_of_below hb none))
                    replace W := Lib.hid (W.out.trans (hb.mono W.out.size))
                    clear hb hgk hqq hxq hyq hsolq
                    refine hG ?_
                    clear hG
                    simp only [List.take, List.drop, List.length, Nat.reduceSub, Nat.reduceAdd, Rg.putAll, Act.put, List.setIfInBounds_toArray, List.set_cons_succ, List.set_cons_zero, s7, s8]
                    clear s5 s6 s7 s8
                    go_wp2_with fail
                    go_loopw [18] (fun i wr => ∃ k : Nat, k ≤ n ∧ i = .int .i64 (k : Int) ∧ OwnB wr w.heap.size (.slice (some ⟨q1q, 0, none⟩) n k1q) n (fun y => if decide (y < k) = true then (if b y = true then false else xq y) else xq y) ∧ OwnB wr w.heap.size (.slice (some ⟨q2q, 0, none⟩) n k2q) n (fun y => if decide (y < k) = true then (if b y = true then true else yq y) else yq y) ∧ OwnB wr w.heap.size (.slice (some ⟨pb, 0, none⟩) n kb2) n b ∧ Below w.heap.size w wr) (fun i _ => n - (intOf i).toNat)
                    case atStart => exact ⟨0, Nat.zero_le _, rfl, (OwnB.congr (own_more OXq.out HSZq.out) (fun y _ => by simp)), (OwnB.congr (own_more OYq.out HSZq.out) (fun y _ => by simp)), own_more OB.out HSZb.out, W.out⟩
                    case round =>
                      obtain ⟨k, hk, rfl, ho1, ho2, ho3, hb⟩ := hrel
                      have O1 := Lib.hid ho1
                      have O2 := Lib.hid ho2
                      have O3 := Lib.hid ho3
                      replace W := Lib.hid hb
                      clear ho1 ho2 ho3 hb
                      have hk0 : (0 : Int) ≤ (k : Int) := Int.natCast_nonneg _
                      by_cases hlt : k < n
                      · have fk : decide ((k : Int) < (n : Int)) = true := decide_eq_true (by omega)
                        have hki : (k : Int) < (n : Int) := by omega
                        obtain ⟨c3, -⟩ := O3.out.cell hlt
                        obtain ⟨bk, hbk⟩ : ∃ x, b k = x := ⟨_, rfl⟩
                        rw [hbk] at c3
                        have HBK := Lib.hid hbk
                        clear hbk
                        cases bk
                        · have R1 := Lib.hid (OwnB.congr (h := fun y => if decide (y < k + 1) = true then (if b y = true then false else xq y) else xq y) O1.out (fun y _ => put_skip HBK.out y))
                          have R2 := Lib.hid (OwnB.congr (h := fun y => if decide (y < k + 1) = true then (if b y = true then true else yq y) else yq y) O2.out (fun y _ => put_skip HBK.out y))
                          go_wp2_with fail
                          clear c3
                          go_roundw
                          case rel => exact ⟨k + 1, by omega, by first | rfl | go_num, R1.out, R2.out, O3.out, W.out⟩
                          case measure => simp [intOf]; omega
                        · obtain ⟨c1, f1⟩ := O1.out.cell hlt
                          have o2 : OwnB (wr.setCell ⟨q1q, k, none⟩ (.bool false)) w.heap.size (.slice (some ⟨q2q, 0, none⟩) n k2q) n (fun y => if decide (y < k) = true then (if b y = true then true else yq y) else yq y) := own_kept O2.out (grown_set wr ⟨q1q, k, none⟩ _) (.inr fun e => HQq.out (by have e : some q2q = some q1q := e; injection e with e; exact e.symm))
                          obtain ⟨c2, f2⟩ := o2.cell hlt
                          have o1 : OwnB ((wr.setCell ⟨q1q, k, none⟩ (.bool false)).setCell ⟨q2q, k, none⟩ (.bool true)) w.heap.size (.slice (some ⟨q1q, 0, none⟩) n k1q) n (fun y => if y = k then false else if decide (y < k) = true then (if b y = true then false else xq y) else xq y) := own_kept (O1.out.put k false) (grown_set _ ⟨q2q, k, none⟩ _) (.inr fun e => HQq.out (by have e : some q1q = some q2q := e; injection e))
                          have R1 := Lib.hid (OwnB.congr (h := fun y => if decide (y < k + 1) = true then (if b y = true then false else xq y) else xq y) o1 (fun y _ => put_one HBK.out y))
                          have R2 := Lib.hid (OwnB.congr (h := fun y => if decide (y < k + 1) = true then (if b y = true then true else yq y) else yq y) (o2.put k true) (fun y _ => put_one HBK.out y))
                          have hq1 := HLQq.out
                          have hq2 := HPB.out
                          have hq3 := HSZq.out
                          have R3 : Hid (OwnB ((wr.setCell ⟨q1q, k, none⟩ (.bool false)).setCell ⟨q2q, k, none⟩ (.bool true)) w.heap.size (.slice (some ⟨pb, 0, none⟩) n kb2) n b) := Lib.hid (own_kept (own_kept O3.out (grown_set wr ⟨q1q, k, none⟩ _) (.inr fun e => by have e : some pb = some q1q := e; injection e with e; omega)) (grown_set _ ⟨q2q, k, none⟩ _) (.inr fun e => by have e : some pb = some q2q := e; injection e with e; omega))
                          have R4 := Lib.hid ((W.out.setCell (p := ⟨q1q, k, none⟩) (by show w.heap.size ≤ q1q; omega) (.bool false)).setCell (p := ⟨q2q, k, none⟩) (by show w.heap.size ≤ q2q; omega) (.bool true))
                          clear o1 o2 hq1 hq2 hq3
                          go_wp2_with fail
                          clear c1 c2 c3 f1 f2
                          go_roundw
                          case rel => exact ⟨k + 1, by omega, by first | rfl | go_num, R1.out, R2.out, R3.out, R4.out⟩
                          case measure => simp [intOf]; omega
                      · have fk : decide ((k : Int) < (n : Int)) = false := decide_eq_false (by omega)
                        have hkn : k = n := by omega
                        have hlo := HLO.out
                        have HS2 := P.solB_q (p := 0) (by first | exact .inl rfl | exact .inr rfl) HSq.out
                        have HPT := P.solq_part HR.out (p := 0) (by first | exact .inl rfl | exact .inr rfl) hgo.out HAI.out HSOL.out HBAT.out HS2
                        have R1 : OwnB wr w.heap.size (.slice (some ⟨q1q, 0, none⟩) n k1q) n (fun i => !b i && xq i) := O1.out.congr (fun y hy => by rw [decide_eq_true (show y < k by omega), if_pos rfl]; cases b y <;> rfl)
                        have R2 : OwnB wr w.heap.size (.slice (some ⟨q2q, 0, none⟩) n k2q) n (fun i => b i || yq i) := O2.out.congr (fun y hy => by rw [decide_eq_true (show y < k by omega), if_pos rfl]; cases b y <;> rfl)
                        have HOUT := Lib.hid (show WonT g n f lo (.tuple #[.slice (some ⟨q1q, 0, none⟩) n k1q, .slice (some ⟨q2q, 0, none⟩) n k2q]) wr from ⟨_, _, _, _, _, _, rfl, HQq.out, own_more R1 hlo, own_more R2 hlo, P.solq_b (p := 0) (by first | exact .inl rfl | exact .inr rfl) HPT⟩)
                        clear hkn hlo HS2 HPT R1 R2
                        go_wp2_with fail
                        exact bodyPost_ret (v := _) (by simp [results, Tryd.results30, go_sem]) rfl ⟨_, rfl, HOUT.out, W.out⟩
              · subst e1
                have HSOL := Lib.hid (P.solB_q (p := 1) (by first | exact .inl rfl | exact .inr rfl) HSp.out)
                go_wp2_with fail
                refine (some_any n hmany xp _ w4 (OwnB.bl OXp.out h0)).mono ?_
                rintro e w5 ⟨rfl, hb⟩
                replace OXp := Lib.hid (own_grown OXp.out (grown_of_below hb none))
                replace BQg := Lib.hid (BQg.out.keep (grown_of_below hb none))
                replace W := Lib.hid (W.out.trans (hb.mono W.out.size))
                have HSZ5 : Hid (w.heap.size ≤ w5.heap.size) := Lib.hid W.out.size
                clear hb
                obtain ⟨an2, han2⟩ : ∃ b, anyB n xp = b := ⟨_, rfl⟩
                rw [han2]
                cases an2
                · have HALL := Lib.hid (P.solq_all HR.out (p := 1) hgo.out HZM.out HPL.out (fun i _ => rfl) HAI.out HSOL.out (fun i hi => anyB_false.1 han2 i (by rw [← HN.out]; exact hi)))
                  clear han2
                  go_wp2_with (refine wpl_make elBoolB rfl (.tmp 103) (.tmp 103) rfl n rfl rfl (by omega) (by omega) ?_; intro w6 hown1 hg1 hs1)
                  have hm0 : OwnB w6 lo (.slice (some ⟨w5.heap.size, 0, none⟩) n n) n (fun _ => false) := own_more (OwnB.made hown1) (Nat.le_trans HLO.out W.out.size)
                  have hb := below_of_grown hg1
                  replace W := Lib.hid (W.out.trans (hb.mono W.out.size))
                  clear hown1 hg1 hs1 hb
                  have HOUT := Lib.hid (show WonT g n f lo (.tuple #[.slice (some ⟨w5.heap.size, 0, none⟩) n n, .slice (some ⟨pi, 0, none⟩) n ki]) w6 from ⟨_, _, _, _, _, f, rfl, fun e => by have h1 := LBI.out; have h2 := HSZp.out; have h3 := HSZ5.out; omega, hm0, own_grown HOI.out (grown_of_below W.out none), P.solq_b (p := 1) (.inr rfl) HALL.out⟩)
                  clear hm0
                  go_wp2_with fail
                  exact bodyPost_ret (v := _) (by simp [results, Tryd.results30, go_sem]) rfl ⟨_, rfl, HOUT.out, W.out⟩
                · have HSOME := Lib.hid (anyB_true.1 han2)
                  clear han2
                  have hbb := BQg.out
                  have gc0 : w5.cell? ⟨qg, 0, none⟩ = some (.slice (some ⟨ba, oa, none⟩) n ka) := hbb.cell 0 _ rfl
                  have gc1 : w5.cell? ⟨qg, 1, none⟩ = some (.slice (some ⟨bb, ob, none⟩) n kb) := hbb.cell 1 _ rfl
                  have gc2 : w5.cell? ⟨qg, 2, none⟩ = some (.slice (some ⟨bc_, oc, none⟩) n kc) := hbb.cell 2 _ rfl
                  clear hbb
                  go_wp2_with fail
                  clear gc0 gc1 gc2
                  have bl := (OwnB.bl OXp.out h0).congr (h := fun i => (P.setK xp g.owner.length).getLsbD i) (fun i hi => setK_at HN.out (Nat.le_trans hmany (by omega)) hi)
                  have bi := (HBI.out.on W.out).congr (h := fun i => (P.setK f g.owner.length).getLsbD i) (fun i hi => setK_at HN.out (Nat.le_trans hmany (by omega)) hi)
                  rw [← HN.out] at bl bi
                  refine (rattract_any g HR.out (P.setK f g.owner.length) (P.setK xp g.owner.length) 0 _ _ _ w5 (HV.out.on W.out) (by rw [HN.out] at bi ⊢; exact bi) (by rw [HN.out] at bl ⊢; exact bl)).mono ?_
                  rintro e w6 ⟨vb, b, rfl, hob, hbtt, hb⟩
                  rw [HN.out] at hob
                  obtain ⟨pb, kb2, rfl, -, -, -, -⟩ := own_form hob h0
                  obtain ⟨mvB, rkB, hat⟩ := P.att_attr HR.out f xp b hgo.out hbtt
                  have HBTT := Lib.hid hat
                  obtain ⟨li, hli1, hli2⟩ := HSOME.out
                  have HLF := Lib.hid (P.solq_sub HSOL.out li (by rw [HN.out]; exact hli1) hli2)
                  have HLI : Hid (P.inF g f li) := Lib.hid HLF.out
                  have HBI2 := Lib.hid (show b li = true from (hat.base li HLF.out ⟨HLF.out.1, hli2⟩).2)
                  have HBAT := Lib.hid hbtt
                  have OB := Lib.hid hob
                  have HPB : Hid (pb < w6.heap.size) := Lib.hid (own_lt hob pb rfl).2
                  have HSZb : Hid (w.heap.size ≤ w5.heap.size) := Lib.hid W.out.size
                  replace BQg := Lib.hid (BQg.out.keep (grown_of_below hb none))
                  replace W := Lib.hid (W.out.trans (hb.mono W.out.size))
                  clear hb hob hbtt bl bi hat hli1 hli2
                  go_upto_region 28 with (fail)
                  refine Rt.wp_region_tail 1 (fun idx => match idx with | 0 => (fun v _ _ => v = .agg #[.slice (some ⟨ba, oa, none⟩) n ka, .slice (some ⟨bb, ob, none⟩) n kb, .slice (some ⟨bc_, oc, none⟩) n kc]) | 1 => (fun v _ _ => v = (.slice (some ⟨pi, 0, none⟩) n ki)) | 2 => (fun v _ _ => v = (.slice (some ⟨pb, 0, none⟩) n kb2)) | 3 => (fun v _ w' => ∃ q k, v = .slice (some ⟨q, 0, none⟩) n k ∧ OwnB w' w6.heap.size v n (fun i => f i && !b i)) | 4 => (fun v _ w' => WonT g n (fun i => f i && !b i) w6.heap.size v w') | 5 => (fun v ds w' => v = ds.getD 0 undef ∧ WonT g n (fun i => f i && !b i) w6.heap.size v w') | 6 => (fun v ds _ => v = tupW (ds.getD 0 undef) 0) | 7 => (fun v ds _ => v = tupW (ds.getD 0 undef) 1) | 8 => (fun v ds _ => v = ds.getD 0 undef) | _ => fun _ _ _ => True) (fun _ _ _ _ => True) (Rk.allK) 99 (by kernel_rfl) (by rfl) (by kernel_rfl) (by rfl) ?_ ?_ ?_ ?_
                  · refine ⟨?_, ?_, ?_, ?_, ?_, ?_, ?_, ?_, ?_, trivial⟩
                    · intro A w' K vals h hn hT hgk hK0
                      have r0 : A.tmps[2]?.getD undef = .pointer (some ⟨qg, 0, none⟩) := Rg.slot h.1
                      have bs := BQg.out.keep (Rk.grown_of hgk)
                      have cc0 : w'.cell? ⟨qg, 0, none⟩ = some (.slice (some ⟨ba, oa, none⟩) n ka) := bs.cell 0 _ rfl
                      have cc1 : w'.cell? ⟨qg, 1, none⟩ = some (.slice (some ⟨bb, ob, none⟩) n kb) := bs.cell 1 _ rfl
                      have cc2 : w'.cell? ⟨qg, 2, none⟩ = some (.slice (some ⟨bc_, oc, none⟩) n kc) := bs.cell 2 _ rfl
                      clear h hn hT hgk bs
                      simp [Oper.wp, execOp, go_sem, r0, cc0, cc1, cc2]
                      exact hK0 _ _ (Rk.Keeps.refl _ _) rfl trivial
                    · intro A w' K vals h hn hT hgk hK0
                      have r0 : A.tmps[1]?.getD undef = .slice (some ⟨pi, 0, none⟩) n ki := Rg.slot h.1
                      clear h hn hT hgk
                      simp [Oper.wp, execOp, go_sem, r0]
                      exact hK0 _ _ (Rk.Keeps.refl _ _) rfl trivial
                    · intro A w' K vals h hn hT hgk hK0
                      have r0 : A.tmps[17]?.getD undef = .slice (some ⟨pb, 0, none⟩) n kb2 := Rg.slot h.1
                      clear h hn hT hgk
                      simp [Oper.wp, execOp, go_sem, r0]
                      exact hK0 _ _ (Rk.Keeps.refl _ _) rfl trivial
                    · intro A w' K vals h hn hT hgk hK0
                      have r0 : A.tmps[114]?.getD undef = vals 1 := Rg.slot h.2.1
                      have r1 : A.tmps[115]?.getD undef = vals 2 := Rg.slot h.2.2.1
                      have s0 : vals 1 = (.slice (some ⟨pi, 0, none⟩) n ki) := hn.1
                      have s1 : vals 2 = (.slice (some ⟨pb, 0, none⟩) n kb2) := hn.2.1
                      have hb := below_of_grown (Rk.grown_of hgk)
                      have hsz := hgk.size
                      have b1 := HBI.out.on (W.out.trans (hb.mono W.out.size))
                      have b2 := (OwnB.bl OB.out h0).on hb
                      clear h hn hT hgk
                      simp [Oper.wp, go_sem, r0, r1, s0, s1]
                      refine (less_any n hmany f b _ _ w' b1 b2).mono ?_
                      rintro e w'' ⟨u, rfl, ho, hb⟩
                      obtain ⟨q, k, rfl, -, -, -, -⟩ := own_form ho h0
                      exact hK0 _ _ (Rk.keep_of (grown_of_below hb _)) ⟨q, k, rfl, own_more ho hsz⟩ trivial
                    · intro A w' K vals h hn hT hgk hK0
                      have r0 : A.tmps[113]?.getD undef = vals 0 := Rg.slot h.2.1
                      have r1 : A.tmps[116]?.getD undef = vals 3 := Rg.slot h.2.2.1
                      have s0 : vals 0 = .agg #[.slice (some ⟨ba, oa, none⟩) n ka, .slice (some ⟨bb, ob, none⟩) n kb, .slice (some ⟨bc_, oc, none⟩) n kc] := hn.1
                      obtain ⟨q, k, s1, ho⟩ : ∃ q k, vals 3 = .slice (some ⟨q, 0, none⟩) n k ∧ OwnB w' w6.heap.size (vals 3) n (fun i => f i && !b i) := hn.2.1
                      have hb := below_of_grown (Rk.grown_of hgk)
                      have hsz := hgk.size
                      rw [s1] at ho
                      clear h hn hT hgk
                      simp [Oper.wp, go_sem, r0, r1, s0, s1]
                      refine (IH.out (fun i => f i && !b i) (by have := HCN.out; have := P.cntF_less HLI.out HBI2.out; omega) (P.Goes.less HBTT.out hgo.out) w6.heap.size _ _ w' (HV.out.on (W.out.trans (hb.mono W.out.size))) ho hsz).mono ?_
                      rintro e w'' ⟨u, rfl, ht, hb⟩
                      exact hK0 _ _ (Rk.keep_of (grown_of_below hb _)) ht trivial
                    · intro A w' K vals h hn hT hgk hK0
                      have r0 : A.tmps[117]?.getD undef = vals 4 := Rg.slot h.1
                      have n3 : WonT g n (fun i => f i && !b i) w6.heap.size (vals 4) w' := hn.1
                      clear h hn hT hgk
                      simp [Oper.wp, execOp, go_sem, r0]
                      exact hK0 _ _ (Rk.Keeps.refl _ _) ⟨rfl, n3⟩ trivial
                    · intro A w' K vals h hn hT hgk hK0
                      have r0 : A.tmps[112]?.getD undef = vals 5 := Rg.slot h.1
                      obtain ⟨q1, k1, q2, k2, x, y, hv, -⟩ : WonT g n (fun i => f i && !b i) w6.heap.size (vals 5) w' := hn.1.2
                      clear h hn hT hgk
                      simp [Oper.wp, execOp, go_sem, r0, hv]
                      refine hK0 _ _ (Rk.Keeps.refl _ _) ?_ trivial
                      show _ = tupW (vals 5) 0
                      rw [hv]
                      rfl
                    · intro A w' K vals h hn hT hgk hK0
                      have r0 : A.tmps[112]?.getD undef = vals 5 := Rg.slot h.1
                      obtain ⟨q1, k1, q2, k2, x, y, hv, -⟩ : WonT g n (fun i => f i && !b i) w6.heap.size (vals 5) w' := hn.1.2
                      clear h hn hT hgk
                      simp [Oper.wp, execOp, go_sem, r0, hv]
                      refine hK0 _ _ (Rk.Keeps.refl _ _) ?_ trivial
                      show _ = tupW (vals 5) 1
                      rw [hv]
                      rfl
                    · intro A w' K vals h hn hT hgk hK0
                      have r0 : A.tmps[118]?.getD undef = vals 6 := Rg.slot h.1
                      clear h hn hT hgk
                      simp [Oper.wp, execOp, go_sem, r0]
                      exact hK0 _ _ (Rk.Keeps.refl _ _) rfl trivial
                  · refine ⟨?_, ?_, ?_, ?_, ?_, ?_, ?_, ?_, ?_, trivial⟩
                    · exact fun _ _ _ _ _ _ h => h
                    · exact fun _ _ _ _ _ _ h => h
                    · exact fun _ _ _ _ _ _ h => h
                    · exact fun _ _ _ _ _ h ⟨q, k, h1, h2⟩ => ⟨q, k, h1, own_grown h2 (Rk.grown_of h)⟩
                    · exact fun _ _ _ _ _ h hu => hu.grown (Rk.grown_of h)
                    · exact fun _ _ _ _ _ h hu => ⟨hu.1, hu.2.grown (Rk.grown_of h)⟩
                    · exact fun _ _ _ _ _ _ h => h
                    · exact fun _ _ _ _ _ _ h => h
                    · exact fun _ _ _ _ _ _ h => h
                  · exact fun _ _ _ _ _ _ h => h
                  · intro vals w7 G hgk hS hG
                    obtain ⟨q1q, k1q, q2q, k2q, xq, yq, s5, hqq, hxq, hyq, hsolq⟩ : WonT g n (fun i => f i && !b i) w6.heap.size (vals 5) w7 := hS.2.2.2.2.2.1.2
                    have s6 : vals 6 = tupW (vals 5) 0 := hS.2.2.2.2.2.2.1
                    have s7 : vals 7 = tupW (vals 5) 1 := hS.2.2.2.2.2.2.2.1
                    have s8 : vals 8 = vals 6 := hS.2.2.2.2.2.2.2.2.1
                    clear hS
                    rw [s5] at s6 s7
                    replace s6 : vals 6 = .slice (some ⟨q1q, 0, none⟩) n k1q := s6
                    replace s7 : vals 7 = .slice (some ⟨q2q, 0, none⟩) n k2q := s7
                    rw [s6] at s8
                    have HQq := Lib.hid hqq
                    have OXq := Lib.hid hxq
                    have OYq := Lib.hid hyq
                    have HSq := Lib.hid hsolq
                    have hb := below_of_grown (Rk.grown_of hgk)
                    have HSZq : Hid (w.heap.size ≤ w6.heap.size) := Lib.hid W.out.size
                    have HLQq : Hid (w6.heap.size ≤ q1q ∧ w6.heap.size ≤ q2q) := Lib.hid ⟨(own_lt OXq.out q1q rfl).1, (own_lt OYq.out q2q rfl).1⟩
                    replace OB := Lib.hid (own_grown OB.out (grown_of_below hb none))
                    replace BQg := Lib.hid (BQg.out.keep (grown_of_below hb none))
                    replace W := Lib.hid (W.out.trans (hb.mono W.out.size))
                    clear hb hgk hqq hxq hyq hsolq
                    refine hG ?_
                    clear hG
                    simp only [List.take, List.drop, List.length, Nat.reduceSub, Nat.reduceAdd, Rg.putAll, Act.put, List.setIfInBounds_toArray, List.set_cons_succ, List.set_cons_zero, s7, s8]
                    clear s5 s6 s7 s8
                    go_wp2_with fail
                    go_loopw [18] (fun i wr => ∃ k : Nat, k ≤ n ∧ i = .int .i64 (k : Int) ∧ OwnB wr w.heap.size (.slice (some ⟨q1q, 0, none⟩) n k1q) n (fun y => if decide (y < k) = true then (if b y = true then true else xq y) else xq y) ∧ OwnB wr w.heap.size (.slice (some ⟨q2q, 0, none⟩) n k2q) n (fun y => if decide (y < k) = true then (if b y = true then false else yq y) else yq y) ∧ OwnB wr w.heap.size (.slice (some ⟨pb, 0, none⟩) n kb2) n b ∧ Below w.heap.size w wr) (fun i _ => n - (intOf i).toNat)
                    case atStart => exact ⟨0, Nat.zero_le _, rfl, (OwnB.congr (own_more OXq.out HSZq.out) (fun y _ => by simp)), (OwnB.congr (own_more OYq.out HSZq.out) (fun y _ => by simp)), own_more OB.out HSZb.out, W.out⟩
                    case round =>
                      obtain ⟨k, hk, rfl, ho1, ho2, ho3, hb⟩ := hrel
                      have O1 := Lib.hid ho1
                      have O2 := Lib.hid ho2
                      have O3 := Lib.hid ho3
                      replace W := Lib.hid hb
                      clear ho1 ho2 ho3 hb
                      have hk0 : (0 : Int) ≤ (k : Int) := Int.natCast_nonneg _
                      by_cases hlt : k < n
                      · have fk : decide ((k : Int) < (n : Int)) = true := decide_eq_true (by omega)
                        have hki : (k : Int) < (n : Int) := by omega
                        obtain ⟨c3, -⟩ := O3.out.cell hlt
                        obtain ⟨bk, hbk⟩ : ∃ x, b k = x := ⟨_, rfl⟩
                        rw [hbk] at c3
                        have HBK := Lib.hid hbk
                        clear hbk
                        cases bk
                        · have R1 := Lib.hid (OwnB.congr (h := fun y => if decide (y < k + 1) = true then (if b y = true then true else xq y) else xq y) O1.out (fun y _ => put_skip HBK.out y))
                          have R2 := Lib.hid (OwnB.congr (h := fun y => if decide (y < k + 1) = true then (if b y = true then false else yq y) else yq y) O2.out (fun y _ => put_skip HBK.out y))
                          go_wp2_with fail
                          clear c3
                          go_roundw
                          case rel => exact ⟨k + 1, by omega, by first | rfl | go_num, R1.out, R2.out, O3.out, W.out⟩
                          case measure => simp [intOf]; omega
                        · obtain ⟨c1, f1⟩ := O1.out.cell hlt
                          have o2 : OwnB (wr.setCell ⟨q1q, k, none⟩ (.bool true)) w.heap.size (.slice (some ⟨q2q, 0, none⟩) n k2q) n (fun y => if decide (y < k) = true then (if b y = true then false else yq y) else yq y) := own_kept O2.out (grown_set wr ⟨q1q, k, none⟩ _) (.inr fun e => HQq.out (by have e : some q2q = some q1q := e; injection e with e; exact e.symm))
                          obtain ⟨c2, f2⟩ := o2.cell hlt
                          have o1 : OwnB ((wr.setCell ⟨q1q, k, none⟩ (.bool true)).setCell ⟨q2q, k, none⟩ (.bool false)) w.heap.size (.slice (some ⟨q1q, 0, none⟩) n k1q) n (fun y => if y = k then true else if decide (y < k) = true then (if b y = true then true else xq y) else xq y) := own_kept (O1.out.put k true) (grown_set _ ⟨q2q, k, none⟩ _) (.inr fun e => HQq.out (by have e : some q1q = some q2q := e; injection e))
                          have R1 := Lib.hid (OwnB.congr (h := fun y => if decide (y < k + 1) = true then (if b y = true then true else xq y) else xq y) o1 (fun y _ => put_one HBK.out y))
                          have R2 := Lib.hid (OwnB.congr (h := fun y => if decide (y < k + 1) = true then (if b y = true then false else yq y) else yq y) (o2.put k false) (fun y _ => put_one HBK.out y))
                          have hq1 := HLQq.out
                          have hq2 := HPB.out
                          have hq3 := HSZq.out
                          have R3 : Hid (OwnB ((wr.setCell ⟨q1q, k, none⟩ (.bool true)).setCell ⟨q2q, k, none⟩ (.bool false)) w.heap.size (.slice (some ⟨pb, 0, none⟩) n kb2) n b) := Lib.hid (own_kept (own_kept O3.out (grown_set wr ⟨q1q, k, none⟩ _) (.inr fun e => by have e : some pb = some q1q := e; injection e with e; omega)) (grown_set _ ⟨q2q, k, none⟩ _) (.inr fun e => by have e : some pb = some q2q := e; injection e with e; omega))
                          have R4 := Lib.hid ((W.out.setCell (p := ⟨q1q, k, none⟩) (by show w.heap.size ≤ q1q; omega) (.bool true)).setCell (p := ⟨q2q, k, none⟩) (by show w.heap.size ≤ q2q; omega) (.bool false))
                          clear o1 o2 hq1 hq2 hq3
                          go_wp2_with fail
                          clear c1 c2 c3 f1 f2
                          go_roundw
                          case rel => exact ⟨k + 1, by omega, by first | rfl | go_num, R1.out, R2.out, R3.out, R4.out⟩
                          case measure => simp [intOf]; omega
                      · have fk : decide ((k : Int) < (n : Int)) = false := decide_eq_false (by omega)
                        have hkn : k = n := by omega
                        have hlo := HLO.out
                        have HS2 := P.solB_q (p := 1) (by first | exact .inl rfl | exact .inr rfl) HSq.out
                        have HPT := P.solq_part HR.out (p := 1) (by first | exact .inl rfl | exact .inr rfl) hgo.out HAI.out HSOL.out HBAT.out HS2
                        have R1 : OwnB wr w.heap.size (.slice (some ⟨q1q, 0, none⟩) n k1q) n (fun i => b i || xq i) := O1.out.congr (fun y hy => by rw [decide_eq_true (show y < k by omega), if_pos rfl]; cases b y <;> rfl)
                        have R2 : OwnB wr w.heap.size (.slice (some ⟨q2q, 0, none⟩) n k2q) n (fun i => !b i && yq i) := O2.out.congr (fun y hy => by rw [decide_eq_true (show y < k by omega), if_pos rfl]; cases b y <;> rfl)
                        have HOUT := Lib.hid (show WonT g n f lo (.tuple #[.slice (some ⟨q1q, 0, none⟩) n k1q, .slice (some ⟨q2q, 0, none⟩) n k2q]) wr from ⟨_, _, _, _, _, _, rfl, HQq.out, own_more R1 hlo, own_more R2 hlo, P.solq_b (p := 1) (by first | exact .inl rfl | exact .inr rfl) HPT⟩)
                        clear hkn hlo HS2 HPT R1 R2
                        go_wp2_with fail
                        exact bodyPost_ret (v := _) (by simp [results, Tryd.results30, go_sem]) rfl ⟨_, rfl, HOUT.out, W.out⟩
end W
end Go.Proofs.YtpjmboonaciplaaDoor
end
section
namespace Go.Proofs.YtpjmboonaciplaaDoor
open Go.RowKit
namespace W

structure OutS (w wr : World) (n q1 k1 q2 k2 qo : Nat) (x y : Nat → Bool) (v1 v2 : Value) (l1 l2 : List Int) : Prop where
  ox : OwnB wr w.heap.size (.slice (some ⟨q1, 0, none⟩) n k1) n x
  oy : OwnB wr w.heap.size (.slice (some ⟨q2, 0, none⟩) n k2) n y
  bo : Box wr qo 29 #[v1, v2]
  o1 : OwnI wr w.heap.size v1 l1
  o2 : OwnI wr w.heap.size v2 l2
  ap : v1.ownBlock = none ∨ v1.ownBlock ≠ v2.ownBlock
  ap2 : v2.ownBlock = none ∨ v2.ownBlock ≠ v1.ownBlock
  low : Below w.heap.size w wr
  lo : w.heap.size ≤ qo
section
variable {w wr : World} {n q1 k1 q2 k2 qo : Nat} {x y : Nat → Bool} {v1 v2 : Value} {l1 l2 : List Int}
theorem OutS.push1 (h : OutS w wr n q1 k1 q2 k2 qo x y v1 v2 l1 l2) {v' : Value} {u : Obj} {w7 : World} {z : Int} (hgr : (wr.alloc u).grownBy w7 v1.ownBlock) (hown : w7.ownsRow w.heap.size 3 1 v' (l1.length + 1) (l1.map (Value.int .i64) ++ [.int .i64 z])) (hat : v'.ownBlock = v1.ownBlock ∨ v'.ownBlock = some (wr.alloc u).heap.size) : Box w7 qo 29 #[v1, v2] ∧ OutS w (w7.setCell ⟨qo, 0, none⟩ v') n q1 k1 q2 k2 qo x y v' v2 (l1 ++ [z]) l2 := by
  have ga := World.grownBy_alloc wr u none
  have bo := (h.bo.alloc u).grown hgr (fun e => own_box h.o1 h.bo (by decide) e.symm)
  have ox := own_kept (own_grown h.ox ga) hgr (own_ne h.ox h.o1 (by decide))
  have oy := own_kept (own_grown h.oy ga) hgr (own_ne h.oy h.o1 (by decide))
  have ob := own_kept (own_grown h.o2 ga) hgr h.ap2
  have hn : w7.ownsRow w.heap.size 3 1 v' (l1 ++ [z]).length ((l1 ++ [z]).map (Value.int .i64)) := by
    rw [List.map_append, List.length_append]
    exact hown
  refine ⟨bo, ?_⟩
  have gs := grown_set w7 ⟨qo, 0, none⟩ v'
  refine ⟨own_kept ox gs (.inr (own_box ox bo (by decide))), own_kept oy gs (.inr (own_box oy bo (by decide))), bo.set 0 v', own_kept hn gs (.inr (own_box hn bo (by decide))), own_kept ob gs (.inr (own_box ob bo (by decide))), by
    have h1 := hat
    rcases h1 with h1 | h1
    · rw [h1]; exact h.ap
    · refine .inr fun e => ?_
      rw [h1] at e
      have h2 := (own_lt h.o2 _ e.symm).2
      have h3 : (wr.alloc u).heap.size = wr.heap.size + 1 := by simp
      omega, by
    have h1 := hat
    rcases h1 with h1 | h1
    · rw [h1]; exact h.ap2
    · refine .inr fun e => ?_
      rw [h1] at e
      have h2 := (own_lt h.o2 _ e).2
      have h3 : (wr.alloc u).heap.size = wr.heap.size + 1 := by simp
      omega, ?_, h.lo⟩
  exact (h.low.trans (((Below.refl w.heap.size wr).alloc h.low.size u).grown hgr (by have := h.low.size; simp; omega) (fun k e => (own_lt h.o1 k e).1))).setCell (p := ⟨qo, 0, none⟩) h.lo v'
theorem OutS.push2 (h : OutS w wr n q1 k1 q2 k2 qo x y v1 v2 l1 l2) {v' : Value} {u : Obj} {w7 : World} {z : Int} (hgr : (wr.alloc u).grownBy w7 v2.ownBlock) (hown : w7.ownsRow w.heap.size 3 1 v' (l2.length + 1) (l2.map (Value.int .i64) ++ [.int .i64 z])) (hat : v'.ownBlock = v2.ownBlock ∨ v'.ownBlock = some (wr.alloc u).heap.size) : Box w7 qo 29 #[v1, v2] ∧ OutS w (w7.setCell ⟨qo, 1, none⟩ v') n q1 k1 q2 k2 qo x y v1 v' l1 (l2 ++ [z]) := by
  have ga := World.grownBy_alloc wr u none
  have bo := (h.bo.alloc u).grown hgr (fun e => own_box h.o2 h.bo (by decide) e.symm)
  have ox := own_kept (own_grown h.ox ga) hgr (own_ne h.ox h.o2 (by decide))
  have oy := own_kept (own_grown h.oy ga) hgr (own_ne h.oy h.o2 (by decide))
  have ob := own_kept (own_grown h.o1 ga) hgr h.ap
  have hn : w7.ownsRow w.heap.size 3 1 v' (l2 ++ [z]).length ((l2 ++ [z]).map (Value.int .i64)) := by
    rw [List.map_append, List.length_append]
    exact hown
  refine ⟨bo, ?_⟩
  have gs := grown_set w7 ⟨qo, 1, none⟩ v'
  refine ⟨own_kept ox gs (.inr (own_box ox bo (by decide))), own_kept oy gs (.inr (own_box oy bo (by decide))), bo.set 1 v', own_kept ob gs (.inr (own_box ob bo (by decide))), own_kept hn gs (.inr (own_box hn bo (by decide))), by
    have h1 := hat
    rcases h1 with h1 | h1
    · rw [h1]; exact h.ap
    · refine .inr fun e => ?_
      rw [h1] at e
      have h2 := (own_lt h.o1 _ e).2
      have h3 : (wr.alloc u).heap.size = wr.heap.size + 1 := by simp
      omega, by
    have h1 := hat
    rcases h1 with h1 | h1
    · rw [h1]; exact h.ap2
    · refine .inr fun e => ?_
      rw [h1] at e
      have h2 := (own_lt h.o1 _ e.symm).2
      have h3 : (wr.alloc u).heap.size = wr.heap.size + 1 := by simp
      omega, ?_, h.lo⟩
  exact (h.low.trans (((Below.refl w.heap.size wr).alloc h.low.size u).grown hgr (by have := h.low.size; simp; omega) (fun k e => (own_lt h.o2 k e).1))).setCell (p := ⟨qo, 1, none⟩) h.lo v'
end
theorem row_at13 {w : World} {q : Nat} {x : Value} {e : TypeId} (h : w.heap.size = q) : Row (w.alloc (.cells #[x] e)) (.slice (some ⟨q, 0, none⟩) 1 1) [x] := by
  subst h
  exact row_one _ _ _
/-- The numbers below k that are so. -/
def lstB (x : Nat → Bool) (k : Nat) : List Int := ((List.range k).filter x).map fun (i : Nat) => (i : Int)
theorem lstB_succ (x : Nat → Bool) (k : Nat) : lstB x (k + 1) = lstB x k ++ (if x k = true then [(k : Int)] else []) := by
  unfold lstB
  rw [List.range_succ, List.filter_append, List.map_append]
  congr 1
  cases h : x k
  · rw [List.filter_cons_of_neg (by rw [h]; simp)]; rfl
  · rw [List.filter_cons_of_pos h]; rfl
theorem lstB_len (x : Nat → Bool) (k : Nat) : (lstB x k).length ≤ k := by
  unfold lstB
  rw [List.length_map]
  exact Nat.le_trans (List.length_filter_le _ _) (by simp)
theorem goes_all {g : P.G} (hr : g.Right) : P.Goes g (P.inF g (fun _ => true)) := by
  intro i hi
  have hne := (hr.at i hi.1).2.2.2.1
  obtain ⟨z, hz⟩ := List.exists_mem_of_ne_nil _ hne
  have := hr.moves_in hi.1 z hz
  obtain ⟨j, rfl⟩ := Int.eq_ofNat_of_zero_le this.1
  exact ⟨j, hz, by omega, rfl⟩
set_option maxRecDepth 100000 in
set_option maxHeartbeats 4000000 in
theorem solve13_any (g : P.G) (hr : g.Right) (n : Nat) (hn : g.owner.length = n) (v : Value) (w : World) (hv : GameV w v g) : Calls Tryd.prog 14 #[v] w fun e w' => ∃ v1 v2 x y, e = .returned (.agg #[v1, v2]) ∧ OwnI w' w.heap.size v1 (lstB x n) ∧ OwnI w' w.heap.size v2 (lstB y n) ∧ P.SolB g (fun _ => true) x y ∧ Below w.heap.size w w' := by
  have HV := Lib.hid hv
  have hop := hr.prio
  have hmp := hr.moves
  have hmany := hr.many
  have h0 := hr.pos
  rw [hn] at hop hmp hmany h0
  obtain ⟨ba, oa, ka, bb, ob, kb, bc_, oc, kc, rfl, -, -, -⟩ := hv.open_ hn hop hmp h0
  have HR := Lib.hid hr
  have HN := Lib.hid hn
  have HOK := Lib.hid ((P.G.ok_iff g).2 hr)
  clear hr hn hop hmp hv
  go_enter Tryd.func14, Tryd.ntmps14
  go_wp2_with fail
  have bx0 : Box (((w.alloc (.cells #[.slice (some ⟨ba, oa, none⟩) n ka, .slice (some ⟨bb, ob, none⟩) n kb, .slice (some ⟨bc_, oc, none⟩) n kc] 25)).alloc (.cells #[.slice none 0 0, .slice none 0 0] 29)).alloc (.cells #[.slice none 0 0, .slice none 0 0] 29)) (w.heap.size) 25 #[.slice (some ⟨ba, oa, none⟩) n ka, .slice (some ⟨bb, ob, none⟩) n kb, .slice (some ⟨bc_, oc, none⟩) n kc] := Box.alloc (Box.alloc (Box.new w 25 #[.slice (some ⟨ba, oa, none⟩) n ka, .slice (some ⟨bb, ob, none⟩) n kb, .slice (some ⟨bc_, oc, none⟩) n kc]) (.cells #[.slice none 0 0, .slice none 0 0] 29)) (.cells #[.slice none 0 0, .slice none 0 0] 29)
  have bx1 : Box (((w.alloc (.cells #[.slice (some ⟨ba, oa, none⟩) n ka, .slice (some ⟨bb, ob, none⟩) n kb, .slice (some ⟨bc_, oc, none⟩) n kc] 25)).alloc (.cells #[.slice none 0 0, .slice none 0 0] 29)).alloc (.cells #[.slice none 0 0, .slice none 0 0] 29)) (w.heap.size + 1) 29 #[.slice none 0 0, .slice none 0 0] := by
    have := Box.alloc (Box.new (w.alloc (.cells #[.slice (some ⟨ba, oa, none⟩) n ka, .slice (some ⟨bb, ob, none⟩) n kb, .slice (some ⟨bc_, oc, none⟩) n kc] 25)) 29 #[.slice none 0 0, .slice none 0 0]) (.cells #[.slice none 0 0, .slice none 0 0] 29)
    simpa using this
  have bx2 : Box (((w.alloc (.cells #[.slice (some ⟨ba, oa, none⟩) n ka, .slice (some ⟨bb, ob, none⟩) n kb, .slice (some ⟨bc_, oc, none⟩) n kc] 25)).alloc (.cells #[.slice none 0 0, .slice none 0 0] 29)).alloc (.cells #[.slice none 0 0, .slice none 0 0] 29)) (w.heap.size + 1 + 1) 29 #[.slice none 0 0, .slice none 0 0] := by
    have := Box.new ((w.alloc (.cells #[.slice (some ⟨ba, oa, none⟩) n ka, .slice (some ⟨bb, ob, none⟩) n kb, .slice (some ⟨bc_, oc, none⟩) n kc] 25)).alloc (.cells #[.slice none 0 0, .slice none 0 0] 29)) 29 #[.slice none 0 0, .slice none 0 0]
    simpa using this
  have hbq : Below w.heap.size w (((w.alloc (.cells #[.slice (some ⟨ba, oa, none⟩) n ka, .slice (some ⟨bb, ob, none⟩) n kb, .slice (some ⟨bc_, oc, none⟩) n kc] 25)).alloc (.cells #[.slice none 0 0, .slice none 0 0] 29)).alloc (.cells #[.slice none 0 0, .slice none 0 0] 29)) := (((Below.refl _ w).alloc (Nat.le_refl _) _).alloc (by simp) _).alloc (by simp; omega) _
  have lt0 : w.heap.size < w.heap.size + 1 := Nat.lt_succ_self _
  have lt1 : w.heap.size + 1 < w.heap.size + 1 + 1 := Nat.lt_succ_self _
  have hle0 : w.heap.size ≤ w.heap.size := Nat.le_refl _
  generalize (((w.alloc (.cells #[.slice (some ⟨ba, oa, none⟩) n ka, .slice (some ⟨bb, ob, none⟩) n kb, .slice (some ⟨bc_, oc, none⟩) n kc] 25)).alloc (.cells #[.slice none 0 0, .slice none 0 0] 29)).alloc (.cells #[.slice none 0 0, .slice none 0 0] 29)) = w0 at bx0 bx1 bx2 hbq  ⊢
  have BQg := Lib.hid bx0
  have BQr := Lib.hid bx1
  have BQo := Lib.hid bx2
  have W := Lib.hid hbq
  have LTgr := Lib.hid lt0
  have LTro := Lib.hid lt1
  have LEg := Lib.hid hle0
  clear hbq hle0 bx0 bx1 bx2 lt0 lt1
  generalize w.heap.size + 1 + 1 = qo at BQo LTro ⊢
  generalize w.heap.size + 1 = qr at BQr LTro LTgr ⊢
  obtain ⟨qg, hqg⟩ : ∃ qg, w.heap.size = qg := ⟨_, rfl⟩
  rw [hqg] at BQg LTgr ⊢
  have LEg : Hid (w.heap.size ≤ qg) := Lib.hid (by omega)
  clear hqg
  refine (is_any g _ w0 (HV.out.on W.out)).mono ?_
  rintro e w1 ⟨rfl, hb⟩
  rw [HOK.out]
  replace BQg := Lib.hid (BQg.out.keep (grown_of_below hb none))
  replace BQr := Lib.hid (BQr.out.keep (grown_of_below hb none))
  replace BQo := Lib.hid (BQo.out.keep (grown_of_below hb none))
  replace W := Lib.hid (W.out.trans (hb.mono W.out.size))
  clear hb
  have hbb := BQg.out
  have gc0 : w1.cell? ⟨qg, 0, none⟩ = some (.slice (some ⟨ba, oa, none⟩) n ka) := hbb.cell 0 _ rfl
  have gc1 : w1.cell? ⟨qg, 1, none⟩ = some (.slice (some ⟨bb, ob, none⟩) n kb) := hbb.cell 1 _ rfl
  have gc2 : w1.cell? ⟨qg, 2, none⟩ = some (.slice (some ⟨bc_, oc, none⟩) n kc) := hbb.cell 2 _ rfl
  clear hbb
  go_wp2_with (refine wpl_make elBoolB rfl (.tmp 17) (.tmp 17) rfl n rfl rfl (by omega) (by omega) ?_; intro w2 hown1 hg1 hs1)
  have oi0 : OwnB w2 w.heap.size (.slice (some ⟨w1.heap.size, 0, none⟩) n n) n (fun _ => false) := own_more (OwnB.made hown1) W.out.size
  obtain ⟨pi, hpi⟩ : ∃ pi, w1.heap.size = pi := ⟨_, rfl⟩
  rw [hpi] at oi0 ⊢
  have OI := Lib.hid oi0
  have hb := below_of_grown hg1
  replace BQg := Lib.hid (BQg.out.keep (grown_of_below hb none))
  replace BQr := Lib.hid (BQr.out.keep (grown_of_below hb none))
  replace BQo := Lib.hid (BQo.out.keep (grown_of_below hb none))
  replace W := Lib.hid (W.out.trans (hb.mono W.out.size))
  clear gc0 gc1 gc2 hown1 hg1 hs1 oi0 hb hpi
  go_wp2_with fail
  go_loopw [6] (fun i wr => ∃ k : Nat, k ≤ n ∧ i = .int .i64 (k : Int) ∧ OwnB wr w.heap.size (.slice (some ⟨pi, 0, none⟩) n n) n (fun y => decide (y < k)) ∧ Box wr qg 25 #[.slice (some ⟨ba, oa, none⟩) n ka, .slice (some ⟨bb, ob, none⟩) n kb, .slice (some ⟨bc_, oc, none⟩) n kc] ∧ Box wr qr 29 #[.slice none 0 0, .slice none 0 0] ∧ Box wr qo 29 #[.slice none 0 0, .slice none 0 0] ∧ Below w.heap.size w wr) (fun i _ => n - (intOf i).toNat)
  case atStart => exact ⟨0, Nat.zero_le _, rfl, OI.out.congr (fun y _ => by simp), BQg.out, BQr.out, BQo.out, W.out⟩
  case round =>
    obtain ⟨k, hk, rfl, ho, b1, b2, b3, hb⟩ := hrel
    replace OI := Lib.hid ho
    replace BQg := Lib.hid b1
    replace BQr := Lib.hid b2
    replace BQo := Lib.hid b3
    replace W := Lib.hid hb
    clear ho b1 b2 b3 hb
    have hk0 : (0 : Int) ≤ (k : Int) := Int.natCast_nonneg _
    by_cases hlt : k < n
    · have fk : decide ((k : Int) < (n : Int)) = true := decide_eq_true (by omega)
      have hki : (k : Int) < (n : Int) := by omega
      obtain ⟨co, fo⟩ := OI.out.cell hlt
      have O2 := Lib.hid ((OI.out.put k true).congr (h := fun y => decide (y < k + 1)) (fun y _ => by
        by_cases e : y = k
        · rw [if_pos e, decide_eq_true (by omega)]
        · rw [if_neg e, Bool.eq_iff_iff, decide_eq_true_eq, decide_eq_true_eq]; omega))
      have W2 := Lib.hid (W.out.setCell (p := ⟨pi, k, none⟩) (own_lt OI.out pi rfl).1 (.bool true))
      have B1 := Lib.hid (BQg.out.far (p := ⟨pi, k, none⟩) (fun e => own_box OI.out BQg.out (by decide) (by rw [e]; rfl)) (.bool true))
      have B2 := Lib.hid (BQr.out.far (p := ⟨pi, k, none⟩) (fun e => own_box OI.out BQr.out (by decide) (by rw [e]; rfl)) (.bool true))
      have B3 := Lib.hid (BQo.out.far (p := ⟨pi, k, none⟩) (fun e => own_box OI.out BQo.out (by decide) (by rw [e]; rfl)) (.bool true))
      go_wp2_with fail
      clear co fo
      go_roundw
      case rel => exact ⟨k + 1, by omega, by first | rfl | go_num, O2.out, B1.out, B2.out, B3.out, W2.out⟩
      case measure => simp [intOf]; omega
    · have fk : decide ((k : Int) < (n : Int)) = false := decide_eq_false (by omega)
      replace OI := Lib.hid (OI.out.congr (h := fun _ => true) (fun y hy => decide_eq_true (by omega)))
      obtain ⟨w3, rfl⟩ : ∃ w3 : World, w3 = wr := ⟨_, rfl⟩
      have hbb := BQg.out
      have gc0 : w3.cell? ⟨qg, 0, none⟩ = some (.slice (some ⟨ba, oa, none⟩) n ka) := hbb.cell 0 _ rfl
      have gc1 : w3.cell? ⟨qg, 1, none⟩ = some (.slice (some ⟨bb, ob, none⟩) n kb) := hbb.cell 1 _ rfl
      have gc2 : w3.cell? ⟨qg, 2, none⟩ = some (.slice (some ⟨bc_, oc, none⟩) n kc) := hbb.cell 2 _ rfl
      clear hbb
      go_wp2_with fail
      clear gc0 gc1 gc2 fk
      refine (won_any g HR.out n HN.out (P.cntF g (fun _ => true) + 1) (fun _ => true) (Nat.lt_succ_self _) (goes_all HR.out) w.heap.size _ _ w3 (HV.out.on W.out) OI.out W.out.size).mono ?_
      rintro e w4 ⟨u, rfl, ⟨q1, k1, q2, k2, x, y, rfl, hq, hx, hy, hsol⟩, hb⟩
      replace BQg := Lib.hid (BQg.out.keep (grown_of_below hb none))
      replace BQr := Lib.hid (BQr.out.keep (grown_of_below hb none))
      replace BQo := Lib.hid (BQo.out.keep (grown_of_below hb none))
      replace W := Lib.hid (W.out.trans (hb.mono W.out.size))
      have HSOL := Lib.hid hsol
      have HS0 : Hid (OutS w w4 n q1 k1 q2 k2 qo x y (.slice none 0 0) (.slice none 0 0) [] []) := Lib.hid ⟨hx, hy, BQo.out, OwnI.nil _ _, OwnI.nil _ _, .inl rfl, .inl rfl, W.out, (by have h1 := LEg.out; have h2 := LTgr.out; have h3 := LTro.out; omega)⟩
      clear hb hq hx hy hsol
      have BQr4 := Lib.hid BQr.out
      have NRO := Lib.hid (show qr ≠ qo by have h3 := LTro.out; omega)
      go_wp2_with fail
      go_loopw [9] (fun i wr => ∃ (k : Nat) (v1 v2 : Value), k ≤ n ∧ i = .int .i64 (k : Int) ∧ OutS w wr n q1 k1 q2 k2 qo x y v1 v2 (lstB x k) (lstB y k) ∧ Box wr qr 29 #[.slice none 0 0, .slice none 0 0]) (fun i _ => n - (intOf i).toNat)
      case atStart => exact ⟨0, _, _, Nat.zero_le _, rfl, HS0.out, BQr4.out⟩
      case round =>
        obtain ⟨k, v1, v2, hk, rfl, hs, hbr⟩ := hrel
        have HS := Lib.hid hs
        have BR := Lib.hid hbr
        clear hs hbr
        have hk0 : (0 : Int) ≤ (k : Int) := Int.natCast_nonneg _
        by_cases hlt : k < n
        · have fk : decide ((k : Int) < (n : Int)) = true := decide_eq_true (by omega)
          have hki : (k : Int) < (n : Int) := by omega
          have HL1 := Lib.hid (Nat.le_trans (lstB_len x k) hk)
          have HL2 := Lib.hid (Nat.le_trans (lstB_len y k) hk)
          have c1 := (HS.out.ox.cell hlt).1
          have hx1 := lstB_succ x k
          have hy1 := lstB_succ y k
          obtain ⟨b1, hb1⟩ : ∃ b, x k = b := ⟨_, rfl⟩
          obtain ⟨b2, hb2⟩ : ∃ b, y k = b := ⟨_, rfl⟩
          rw [hb1] at c1 hx1
          rw [hb2] at hy1
          have HB2 := Lib.hid hb2
          have HX1 := Lib.hid hx1
          have HY1 := Lib.hid hy1
          clear hb1 hb2 hx1 hy1
          have hc0 := HS.out.bo.cell 0 _ rfl
          have hc1 := HS.out.bo.cell 1 _ rfl
          cases b1
          · replace HX1 : Hid (lstB x (k + 1) = lstB x k) := Lib.hid (by rw [HX1.out]; exact List.append_nil _)
            cases b2
            · replace HY1 : Hid (lstB y (k + 1) = lstB y k) := Lib.hid (by rw [HY1.out]; exact List.append_nil _)
              have c2 := (HS.out.oy.cell hlt).1
              rw [HB2.out] at c2
              go_wp2_with fail
              clear c1 c2 hc0 hc1
              go_roundw
              case rel => exact ⟨k + 1, _, _, by omega, by first | rfl | go_num, by rw [HX1.out, HY1.out]; exact HS.out, BR.out⟩
              case measure => simp [intOf]; omega
            · have c2 := (HS.out.oy.cell hlt).1
              rw [HB2.out] at c2
              go_wp2_with (at_builtin; refine wpl_append elInt rfl (.tmp 55) (.tmp 57) rfl rfl (own_grown HS.out.o2 (World.grownBy_alloc _ _ none)) rfl (row_one _ _ _) ?_ ?_ ?_ ?_ ?_)
              · first | rfl | (intro u hu; simp at hu; subst hu; rfl)
              · have := HL2.out; first | omega | (simp; omega)
              · have := HL2.out; first | omega | (simp; omega)
              · have := HS.out.low.size; first | omega | (simp at this ⊢; omega)
              intro va w8 hown hgr hat
              obtain ⟨vao, vak, rfl, -⟩ := own_at hown
              obtain ⟨bo7, hs7⟩ := HS.out.push2 hgr (by simpa using hown) (by first | exact hat | (rw [show ∀ (o : Obj) (w0 : World), (w0.alloc o).heap.size = w0.heap.size + 1 from fun o w0 => by simp]; first | exact hat | (rw [show ∀ (w0 : World) (p : Addr) (v : Value), (w0.setCell p v).heap.size = w0.heap.size from fun _ _ _ => by simp [World.setCell]]; exact hat)))
              replace BR := Lib.hid (((BR.out.alloc _).grown hgr (fun e => own_box HS.out.o2 BR.out (by decide) e.symm)).far (p := ⟨qo, 1, none⟩) NRO.out (.slice vao ((lstB y k).length + 1) vak))
              clear hc0 hc1 hat c1
              have hc0 := bo7.cell 0 _ rfl
              have hc1 := bo7.cell 1 _ rfl
              have hf0 := bo7.frozen 0
              have hf1 := bo7.frozen 1
              replace HS := Lib.hid hs7
              clear hown hgr bo7 hs7
              go_wp2_with fail
              clear c2 hc0 hc1 hf0 hf1
              go_roundw
              case rel => exact ⟨k + 1, _, _, by omega, by first | rfl | go_num, by rw [HX1.out, HY1.out]; exact HS.out, BR.out⟩
              case measure => simp [intOf]; omega
          · go_wp2_with (at_builtin; refine wpl_append elInt rfl (.tmp 45) (.tmp 47) rfl rfl (own_grown HS.out.o1 (World.grownBy_alloc _ _ none)) rfl (row_one _ _ _) ?_ ?_ ?_ ?_ ?_)
            · first | rfl | (intro u hu; simp at hu; subst hu; rfl)
            · have := HL1.out; first | omega | (simp; omega)
            · have := HL1.out; first | omega | (simp; omega)
            · have := HS.out.low.size; first | omega | (simp at this ⊢; omega)
            intro vb w7 hown hgr hat
            obtain ⟨vbo, vbk, rfl, -⟩ := own_at hown
            obtain ⟨bo7, hs7⟩ := HS.out.push1 hgr (by simpa using hown) (by first | exact hat | (rw [show ∀ (o : Obj) (w0 : World), (w0.alloc o).heap.size = w0.heap.size + 1 from fun o w0 => by simp]; first | exact hat | (rw [show ∀ (w0 : World) (p : Addr) (v : Value), (w0.setCell p v).heap.size = w0.heap.size from fun _ _ _ => by simp [World.setCell]]; exact hat)))
            replace BR := Lib.hid (((BR.out.alloc _).grown hgr (fun e => own_box HS.out.o1 BR.out (by decide) e.symm)).far (p := ⟨qo, 0, none⟩) NRO.out (.slice vbo ((lstB x k).length + 1) vbk))
            clear hc0 hc1 hat c1
            have hc0 := bo7.cell 0 _ rfl
            have hc1 := bo7.cell 1 _ rfl
            have hf0 := bo7.frozen 0
            have hf1 := bo7.frozen 1
            replace HS := Lib.hid hs7
            clear hown hgr bo7 hs7
            cases b2
            · replace HY1 : Hid (lstB y (k + 1) = lstB y k) := Lib.hid (by rw [HY1.out]; exact List.append_nil _)
              have c2 := (HS.out.oy.cell hlt).1
              rw [HB2.out] at c2
              go_wp2_with fail
              clear c2 hc0 hc1 hf0 hf1
              go_roundw
              case rel => exact ⟨k + 1, _, _, by omega, by first | rfl | go_num, by rw [HX1.out, HY1.out]; exact HS.out, BR.out⟩
              case measure => simp [intOf]; omega
            · have c2 := (HS.out.oy.cell hlt).1
              rw [HB2.out] at c2
              have hd0 := HS.out.bo.cell 0 _ rfl
              have hd1 := HS.out.bo.cell 1 _ rfl
              go_wp2_with (at_builtin; refine wpl_append elInt rfl (.tmp 55) (.tmp 57) rfl rfl (own_grown HS.out.o2 (World.grownBy_alloc _ _ none)) rfl (row_at13 (by simp [World.setCell])) ?_ ?_ ?_ ?_ ?_)
              · first | rfl | (intro u hu; simp at hu; subst hu; rfl)
              · have := HL2.out; first | omega | (simp; omega)
              · have := HL2.out; first | omega | (simp; omega)
              · have := HS.out.low.size; first | omega | (simp at this ⊢; omega)
              intro va w8 hown hgr hat
              obtain ⟨vao, vak, rfl, -⟩ := own_at hown
              obtain ⟨bo7, hs7⟩ := HS.out.push2 hgr (by simpa using hown) (by first | exact hat | (rw [show ∀ (o : Obj) (w0 : World), (w0.alloc o).heap.size = w0.heap.size + 1 from fun o w0 => by simp]; first | exact hat | (rw [show ∀ (w0 : World) (p : Addr) (v : Value), (w0.setCell p v).heap.size = w0.heap.size from fun _ _ _ => by simp [World.setCell]]; exact hat)))
              replace BR := Lib.hid (((BR.out.alloc _).grown hgr (fun e => own_box HS.out.o2 BR.out (by decide) e.symm)).far (p := ⟨qo, 1, none⟩) NRO.out (.slice vao ((lstB y k).length + 1) vak))
              clear hc0 hc1 hf0 hf1 hd0 hd1 hat
              have hc0 := bo7.cell 0 _ rfl
              have hc1 := bo7.cell 1 _ rfl
              have hf0 := bo7.frozen 0
              have hf1 := bo7.frozen 1
              replace HS := Lib.hid hs7
              clear hown hgr bo7 hs7
              go_wp2_with fail
              clear c2 hc0 hc1 hf0 hf1
              go_roundw
              case rel => exact ⟨k + 1, _, _, by omega, by first | rfl | go_num, by rw [HX1.out, HY1.out]; exact HS.out, BR.out⟩
              case measure => simp [intOf]; omega
        · have fk : decide ((k : Int) < (n : Int)) = false := decide_eq_false (by omega)
          have hkn : k = n := by omega
          subst hkn
          have hc0 := HS.out.bo.cell 0 _ rfl
          have hc1 := HS.out.bo.cell 1 _ rfl
          have hr0 := BR.out.cell 0 _ rfl
          have hr1 := BR.out.cell 1 _ rfl
          have hf0 := BR.out.frozen 0
          have hf1 := BR.out.frozen 1
          have o1 := HS.out.o1
          have o2 := HS.out.o2
          obtain ⟨ao, ak, rfl, -⟩ := own_at o1
          obtain ⟨bo, bk, rfl, -⟩ := own_at o2
          have nrq : w.heap.size ≤ qr := by have h1 := LEg.out; have h2 := LTgr.out; omega
          have g1 := grown_set wr ⟨qr, 0, none⟩ (.slice ao (lstB x k).length ak)
          have g2 := grown_set (wr.setCell ⟨qr, 0, none⟩ (.slice ao (lstB x k).length ak)) ⟨qr, 1, none⟩ (.slice bo (lstB y k).length bk)
          have b1 := BR.out.set 0 (.slice ao (lstB x k).length ak)
          have b2 := b1.set 1 (.slice bo (lstB y k).length bk)
          have P1 := own_kept (own_kept o1 g1 (.inr (own_box o1 BR.out (by decide)))) g2 (.inr (own_box (own_kept o1 g1 (.inr (own_box o1 BR.out (by decide)))) b1 (by decide)))
          have P2 := own_kept (own_kept o2 g1 (.inr (own_box o2 BR.out (by decide)))) g2 (.inr (own_box (own_kept o2 g1 (.inr (own_box o2 BR.out (by decide)))) b1 (by decide)))
          have wz := (HS.out.low.setCell (p := ⟨qr, 0, none⟩) nrq (.slice ao (lstB x k).length ak)).setCell (p := ⟨qr, 1, none⟩) nrq (.slice bo (lstB y k).length bk)
          have HP1 := Lib.hid P1
          have HP2 := Lib.hid P2
          have HWZ := Lib.hid wz
          have HBZ := Lib.hid b2
          clear o1 o2 nrq g1 g2 b1 b2 P1 P2 wz
          go_wp2_with fail
          generalize ((wr.setCell ⟨qr, 0, none⟩ (.slice ao (lstB x k).length ak)).setCell ⟨qr, 1, none⟩ (.slice bo (lstB y k).length bk)) = wz at HP1 HP2 HWZ HBZ ⊢
          clear hc0 hc1 hr0 hr1 hf0 hf1
          have hbz := HBZ.out
          have zc0 : wz.cell? ⟨qr, 0, none⟩ = some (.slice ao (lstB x k).length ak) := hbz.cell 0 _ rfl
          have zc1 : wz.cell? ⟨qr, 1, none⟩ = some (.slice bo (lstB y k).length bk) := hbz.cell 1 _ rfl
          refine bodyPost_ret (v := .agg #[.slice ao (lstB x k).length ak, .slice bo (lstB y k).length bk]) (by simp [results, Tryd.results14, go_sem, zc0, zc1]) rfl ⟨_, _, x, y, rfl, HP1.out, HP2.out, HSOL.out, HWZ.out⟩
end W
end Go.Proofs.YtpjmboonaciplaaDoor
end
