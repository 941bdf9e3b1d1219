/- Lists of tuples: the call's own; turned from the document's to the program's; compared. -/
import Derived.Test.YteeaojciobmcaaaGrowR
import Derived.Test.YteeaojciobmcaaaUpA
import Derived.Test.YteeaojciobmcaaaEvenP
import Derived.Test.YteeaojciobmcaaaLifA
import Derived.Deep.Cut
import Derived.Lib.Hide
import Derived.Deep.QuietTactic
import Derived.BigQuiet
namespace Go.Proofs.Yteeaojciobmcaaa
open Go.RowKit
namespace W

/-- The call's own list of tuples. -/
def OwnT (w : World) (lo : Nat) (v : Value) (l : List P.Tup) : Prop := w.ownsRow lo 26 5 v l.length (flatL l)
theorem OwnT.nil (w : World) (lo : Nat) : OwnT w lo (.slice none 0 0) [] := World.ownsRow_nil w lo _ 5
theorem OwnT.grown {w w' : World} {lo : Nat} {v : Value} {l : List P.Tup} (h : OwnT w lo v l) (hg : w.grownBy w' none) : OwnT w' lo v l := World.ownsRow.kept (w := w) h hg (by cases v.ownBlock <;> simp)
theorem OwnT.slice {w : World} {lo : Nat} {v : Value} {l : List P.Tup} (h : OwnT w lo v l) : ∃ ao k, v = .slice ao l.length k := by
  rcases h.2 with ⟨rfl, h0⟩ | ⟨g, cap, cur, rfl, _⟩
  · exact ⟨none, 0, by rw [h0]⟩
  · exact ⟨_, _, rfl⟩
theorem OwnT.tups {w : World} {lo : Nat} {v : Value} {l : List P.Tup} (h : OwnT w lo v l) (hl : l.length ≤ 17592186043904) : TupsV w v l := by
  by_cases h0 : l.length = 0
  · obtain ⟨ao, k, rfl⟩ := h.slice
    exact ⟨ao, k, rfl, hl, .inl (List.eq_nil_of_length_eq_zero h0)⟩
  · obtain ⟨g, cap, rfl, h1, h2⟩ := World.ownsRow.form (w := w) h (by omega)
    refine ⟨_, cap, rfl, hl, .inr ⟨g, 0, rfl, h2, fun j hj i u hu => ?_⟩⟩
    have hi : i < 5 := (List.getElem?_eq_some_iff.1 hu).1
    have hw : w.ownsRow lo 26 5 (.slice (some ⟨g, 0, none⟩) l.length cap) l.length (flatL l) := h
    rw [Nat.zero_add, hw.cellAt (j * 5 + i) (by omega), flatL_at l j i hj hi]
    exact hu
theorem OwnT.more {w : World} {lo lo' : Nat} {v : Value} {l : List P.Tup} (h : OwnT w lo v l) (hl : lo' ≤ lo) : OwnT w lo' v l := by
  refine ⟨h.1, ?_⟩
  rcases h.2 with h2 | ⟨g, cap, cur, hv, hg, r⟩
  · exact .inl h2
  · exact .inr ⟨g, cap, cur, hv, Nat.le_trans hl hg, r⟩
theorem tl_one (t : P.Tup) : ∀ u ∈ tl t, u.oneCell' = true := by
  intro u hu
  unfold tl at hu
  simp only [List.mem_cons, List.not_mem_nil, or_false] at hu
  rcases hu with rfl | rfl | rfl | rfl | rfl <;> rfl
theorem run_append5 {w : World} {lo : Nat} {v : Value} {l : List P.Tup} (hown : OwnT w lo v l) {q : Nat} {t : P.Tup} (hb : Box w q 26 (tc t)) (ty : TypeId) (hby : (l.length + 1) * 40 ≤ 140737488355328) (hlo : lo ≤ w.heap.size) :
    ∃ v' w', (Builtin.append_ #[40, 40] ty #[v, .slice (some ⟨q, 0, none⟩) 1 1]).run Try.prog w = .ok v' w' ∧ OwnT w' lo v' (l ++ [t]) ∧ w.grownBy w' v.ownBlock ∧ (v'.ownBlock = v.ownBlock ∨ v'.ownBlock = some w.heap.size) := by
  obtain ⟨i, hi, hz, hsz, hbt⟩ := info_parts info_tup
  obtain ⟨v', w', h1, h2, h3, -, h5⟩ := run_append_own_at (P := Try.prog) w lo 40 ty 26 i _ 5 40 und_tups hi hz hsz hbt rfl (by decide) v l.length (flatL l) hown ⟨q, 0, none⟩ 1 1 (tl t) rfl (fun j u hu => by
    rw [addr_add, Nat.zero_add]
    refine hb.cell j u ?_
    show (tl t).toArray[j]? = some u
    rw [List.getElem?_toArray]
    exact hu) (tl_one t) (by unfold maxLen; omega) (by omega) hlo
  refine ⟨v', w', h1, ?_, h3, h5⟩
  unfold OwnT
  have e : flatL (l ++ [t]) = flatL l ++ tl t := by unfold flatL; rw [List.flatMap_append]; simp
  rw [e, List.length_append]
  exact h2
theorem wpl_append5 {w : World} {ops : Array Oper} {rest : List Oper} {o : Oper} {a : Act} {Q : Exit → Act → World → Prop} (hgd : o.guard = none) (s x : Operand)
    (ho : o.op = .call { callee := .builtin .append, args := #[s, x], argTypes := #[40, 40] }) {lo : Nat} {v : Value} {l : List P.Tup} (hs : a.eval s = v) (hown : OwnT w lo v l) {q : Nat} {t : P.Tup} (hx : a.eval x = .slice (some ⟨q, 0, none⟩) 1 1) (hb : Box w q 26 (tc t)) (hby : (l.length + 1) * 40 ≤ 140737488355328) (hlo : lo ≤ w.heap.size)
    (h : ∀ v' w', OwnT w' lo v' (l ++ [t]) → w.grownBy w' v.ownBlock → (v'.ownBlock = v.ownBlock ∨ v'.ownBlock = some w.heap.size) → wpList Try.prog ops Q rest (a.put o.dst v') w') : wpList Try.prog ops Q (o :: rest) a w := by
  obtain ⟨v', w', hrun, h2, h3, h4⟩ := run_append5 hown hb o.type hby hlo
  exact wpList_plain hgd fun _ hK => op_append ho hs hx hrun (hK _ _ (h v' w' h2 h3 h4))

set_option maxRecDepth 100000 in
set_option maxHeartbeats 2000000 in
theorem tuples_any (l : List P.Tup) (hl : l.length * 40 ≤ 140737488351232) (v : Value) (w : World) (hV : TupsV w v l) : Calls Try.prog 20 #[v] w fun e w' => ∃ v', e = .returned v' ∧ OwnT w' w.heap.size v' l ∧ Below w.heap.size w w' := by
  obtain ⟨n, hn⟩ : ∃ n, l.length = n := ⟨_, rfl⟩
  have HVL := Lib.hid hV
  have HN := Lib.hid hn
  obtain ⟨vo, vk, rfl, -, -⟩ := hV
  rw [hn] at hl ⊢
  clear hn
  go_enter Try.func20, Try.ntmps20
  go_wp2_with fail
  go_loopw [3, 4] (fun ov iv wr => ∃ (j : Nat) (xo : Option Addr) (xk : Nat), j ≤ n ∧ ov = .slice xo j xk ∧ iv = .int .i64 (j : Int) ∧ OwnT wr w.heap.size (.slice xo j xk) (l.take j) ∧ Below w.heap.size w wr) (fun _ iv _ => n - (intOf iv).toNat)
  case atStart => exact ⟨0, none, 0, Nat.zero_le _, rfl, rfl, OwnT.nil _ _, Below.refl _ _⟩
  case round =>
    obtain ⟨j, xo, xk, hj, rfl, rfl, ho, hb⟩ := hrel
    have HO := Lib.hid ho
    have W := Lib.hid hb
    clear ho hb
    have hj0 : (0 : Int) ≤ (j : Int) := Int.natCast_nonneg _
    by_cases hlt : j < n
    · have fj : decide ((j : Int) < (n : Int)) = true := decide_eq_true (by omega)
      have hji : (j : Int) < (n : Int) := by omega
      obtain ⟨bl, ol, kl, e9, hbl, hcl⟩ := HVL.out.open_ HN.out (by omega)
      rw [HN.out] at e9
      obtain ⟨rfl, rfl⟩ : vo = some ⟨bl, ol, none⟩ ∧ vk = kl := by injection e9 with h1 h2 h3; exact ⟨h1, h3⟩
      obtain ⟨t, ht⟩ : ∃ t, l.getD j .zero = t := ⟨_, rfl⟩
      have HCL := Lib.hid (fun w' hw' => hcl w' hw' j hlt)
      rw [ht] at HCL
      have HTL : Hid ((l.take j).length = j) := Lib.hid (by rw [List.length_take]; have := HN.out; omega)
      have HTK : Hid (l.take (j + 1) = l.take j ++ [t]) := Lib.hid (by
        have hjl : j < l.length := by have := HN.out; omega
        rw [List.take_succ_eq_append_getElem hjl, ← ht, List.getD_eq_getElem?_getD, List.getElem?_eq_getElem hjl]
        rfl)
      have hnl := HN.out
      clear e9 hcl ht hbl
      go_wp2_with fail
      refine Rt.wp_region_tail 2 (fun idx => match idx with | 0 => (fun v _ _ => v = (.slice xo j xk)) | 1 => (fun v _ _ => v = (.slice (some ⟨bl, ol, none⟩) n vk)) | 2 => (fun v _ _ => v = (.int .i64 (j : Int))) | 3 => (fun v _ _ => v = (.pointer (some ⟨bl, ol + j * 5, none⟩))) | 4 => (fun v _ _ => v = (.pointer (some ⟨bl, ol + j * 5, none⟩))) | 5 => (fun v _ _ => v = (.bool t.top)) | 6 => (fun v _ _ => v = (.slice (some ⟨bl, ol, none⟩) n vk)) | 7 => (fun v _ _ => v = (.int .i64 (j : Int))) | 8 => (fun v _ _ => v = (.pointer (some ⟨bl, ol + j * 5, none⟩))) | 9 => (fun v _ _ => v = (.pointer (some ⟨bl, ol + j * 5 + 1, none⟩))) | 10 => (fun v _ _ => v = .agg #[.int .i64 t.a, .int .i64 t.b, .int .i64 t.c, .int .i64 t.d]) | 11 => (fun v _ _ => v = .agg #[.bool t.top, .int .i64 t.a, .int .i64 t.b, .int .i64 t.c, .int .i64 t.d]) | 12 => (fun v _ w' => ∃ q, v = .slice (some ⟨q, 0, none⟩) 1 1 ∧ Box w' q 26 (tc t)) | _ => fun _ _ _ => True) (fun _ _ _ _ => True) (Rk.allK) 99 (by kernel_rfl) (by rfl) (by kernel_rfl) (by rfl) ?_ ?_ ?_ ?_
      · refine ⟨?_, ?_, ?_, ?_, ?_, ?_, ?_, ?_, ?_, ?_, ?_, ?_, ?_, trivial⟩
        · intro A w' K vals h hn hT hgk hK0
          have r0 : A.tmps[3]?.getD undef = .slice xo j xk := Rg.slot h.1
          clear h hn hT hgk
          simp [Oper.wp, execOp, go_sem, r0]
          exact hK0 _ _ (Rk.Keeps.refl _ _) rfl trivial
        · intro A w' K vals h hn hT hgk hK0
          have r0 : A.tmps[0]?.getD undef = .slice (some ⟨bl, ol, none⟩) n vk := Rg.slot h.1
          clear h hn hT hgk
          simp [Oper.wp, execOp, go_sem, r0]
          exact hK0 _ _ (Rk.Keeps.refl _ _) rfl trivial
        · intro A w' K vals h hn hT hgk hK0
          have r0 : A.tmps[4]?.getD undef = .int .i64 (j : Int) := Rg.slot h.1
          clear h hn hT hgk
          simp [Oper.wp, execOp, go_sem, r0]
          exact hK0 _ _ (Rk.Keeps.refl _ _) rfl trivial
        · intro A w' K vals h hn hT hgk hK0
          have r0 : A.tmps[12]?.getD undef = vals 1 := Rg.slot h.1
          have s0 : vals 1 = (.slice (some ⟨bl, ol, none⟩) n vk) := hn.1
          have r1 : A.tmps[13]?.getD undef = vals 2 := Rg.slot h.2.1
          have s1 : vals 2 = (.int .i64 (j : Int)) := hn.2.1
          clear h hn hT hgk
          simp [Oper.wp, execOp, go_sem, r0, r1, s0, s1, hj0, hji]
          exact hK0 _ _ (Rk.Keeps.refl _ _) rfl trivial
        · intro A w' K vals h hn hT hgk hK0
          have r0 : A.tmps[14]?.getD undef = vals 3 := Rg.slot h.1
          have s0 : vals 3 = (.pointer (some ⟨bl, ol + j * 5, none⟩)) := hn.1
          clear h hn hT hgk
          simp [Oper.wp, execOp, go_sem, r0, s0]
          exact hK0 _ _ (Rk.Keeps.refl _ _) rfl trivial
        · intro A w' K vals h hn hT hgk hK0
          have r0 : A.tmps[15]?.getD undef = vals 4 := Rg.slot h.1
          have s0 : vals 4 = (.pointer (some ⟨bl, ol + j * 5, none⟩)) := hn.1
          have c0 : w'.cell? ⟨bl, ol + j * 5, none⟩ = some (.bool t.top) := HCL.out w' (W.out.trans ((below_of_grown (Rk.grown_of hgk)).mono W.out.size)) 0 _ rfl
          clear h hn hT hgk
          simp [Oper.wp, execOp, go_sem, r0, s0, c0]
          exact hK0 _ _ (Rk.Keeps.refl _ _) rfl trivial
        · intro A w' K vals h hn hT hgk hK0
          have r0 : A.tmps[0]?.getD undef = .slice (some ⟨bl, ol, none⟩) n vk := Rg.slot h.1
          clear h hn hT hgk
          simp [Oper.wp, execOp, go_sem, r0]
          exact hK0 _ _ (Rk.Keeps.refl _ _) rfl trivial
        · intro A w' K vals h hn hT hgk hK0
          have r0 : A.tmps[4]?.getD undef = .int .i64 (j : Int) := Rg.slot h.1
          clear h hn hT hgk
          simp [Oper.wp, execOp, go_sem, r0]
          exact hK0 _ _ (Rk.Keeps.refl _ _) rfl trivial
        · intro A w' K vals h hn hT hgk hK0
          have r0 : A.tmps[17]?.getD undef = vals 6 := Rg.slot h.1
          have s0 : vals 6 = (.slice (some ⟨bl, ol, none⟩) n vk) := hn.1
          have r1 : A.tmps[18]?.getD undef = vals 7 := Rg.slot h.2.1
          have s1 : vals 7 = (.int .i64 (j : Int)) := hn.2.1
          clear h hn hT hgk
          simp [Oper.wp, execOp, go_sem, r0, r1, s0, s1, hj0, hji]
          exact hK0 _ _ (Rk.Keeps.refl _ _) rfl trivial
        · intro A w' K vals h hn hT hgk hK0
          have r0 : A.tmps[19]?.getD undef = vals 8 := Rg.slot h.1
          have s0 : vals 8 = (.pointer (some ⟨bl, ol + j * 5, none⟩)) := hn.1
          clear h hn hT hgk
          simp [Oper.wp, execOp, go_sem, r0, s0]
          exact hK0 _ _ (Rk.Keeps.refl _ _) rfl trivial
        · intro A w' K vals h hn hT hgk hK0
          have r0 : A.tmps[20]?.getD undef = vals 9 := Rg.slot h.1
          have s0 : vals 9 = (.pointer (some ⟨bl, ol + j * 5 + 1, none⟩)) := hn.1
          have c0 : w'.cell? ⟨bl, ol + j * 5 + 1, none⟩ = some (.int .i64 t.a) := HCL.out w' (W.out.trans ((below_of_grown (Rk.grown_of hgk)).mono W.out.size)) 1 _ rfl
          have c1 : w'.cell? ⟨bl, ol + j * 5 + 2, none⟩ = some (.int .i64 t.b) := HCL.out w' (W.out.trans ((below_of_grown (Rk.grown_of hgk)).mono W.out.size)) 2 _ rfl
          have c2 : w'.cell? ⟨bl, ol + j * 5 + 3, none⟩ = some (.int .i64 t.c) := HCL.out w' (W.out.trans ((below_of_grown (Rk.grown_of hgk)).mono W.out.size)) 3 _ rfl
          have c3 : w'.cell? ⟨bl, ol + j * 5 + 4, none⟩ = some (.int .i64 t.d) := HCL.out w' (W.out.trans ((below_of_grown (Rk.grown_of hgk)).mono W.out.size)) 4 _ rfl
          clear h hn hT hgk
          simp [Oper.wp, execOp, go_sem, r0, s0, c0, c1, c2, c3]
          exact hK0 _ _ (Rk.Keeps.refl _ _) rfl trivial
        · intro A w' K vals h hn hT hgk hK0
          have r0 : A.tmps[16]?.getD undef = vals 5 := Rg.slot h.1
          have s0 : vals 5 = (.bool t.top) := hn.1
          have r1 : A.tmps[21]?.getD undef = vals 10 := Rg.slot h.2.1
          have s1 : vals 10 = .agg #[.int .i64 t.a, .int .i64 t.b, .int .i64 t.c, .int .i64 t.d] := hn.2.1
          clear h hn hT hgk
          simp [Oper.wp, execOp, go_sem, r0, r1, s0, s1]
          exact hK0 _ _ (Rk.Keeps.refl _ _) rfl trivial
        · intro A w' K vals h hn hT hgk hK0
          have r0 : A.tmps[22]?.getD undef = vals 11 := Rg.slot h.1
          have s0 : vals 11 = .agg #[.bool t.top, .int .i64 t.a, .int .i64 t.b, .int .i64 t.c, .int .i64 t.d] := hn.1
          clear h hn hT
          simp [Oper.wp, execOp, go_sem, r0, s0]
          exact hK0 _ _ (Rk.keep_of (World.grownBy_alloc _ _ _)) ⟨_, rfl, Box.new _ _ _⟩ trivial
      · refine ⟨?_, ?_, ?_, ?_, ?_, ?_, ?_, ?_, ?_, ?_, ?_, ?_, ?_, trivial⟩
        · exact fun _ _ _ _ _ _ h => h
        · exact fun _ _ _ _ _ _ h => h
        · exact fun _ _ _ _ _ _ h => h
        · exact fun _ _ _ _ _ _ h => h
        · exact fun _ _ _ _ _ _ h => h
        · exact fun _ _ _ _ _ _ h => h
        · exact fun _ _ _ _ _ _ h => h
        · exact fun _ _ _ _ _ _ h => h
        · exact fun _ _ _ _ _ _ h => h
        · exact fun _ _ _ _ _ _ h => h
        · exact fun _ _ _ _ _ _ h => h
        · exact fun _ _ _ _ _ _ h => h
        · exact fun _ _ _ _ _ h ⟨q, h1, hb⟩ => ⟨q, h1, hb.keep (Rk.grown_of h)⟩
      · exact fun _ _ _ _ _ _ h => h
      · intro vals w3 G hgk hS hG
        have s0 : vals 0 = (.slice xo j xk) := hS.1
        obtain ⟨q, s12, hbq⟩ : ∃ q, vals 12 = .slice (some ⟨q, 0, none⟩) 1 1 ∧ Box w3 q 26 (tc t) := hS.2.2.2.2.2.2.2.2.2.2.2.2.1
        clear hS
        have hg := Rk.grown_of hgk
        have hO3 := HO.out.grown hg
        have hb3 := W.out.trans ((below_of_grown hg).mono W.out.size)
        clear hgk hg
        refine hG ?_
        clear hG
        simp only [List.take, List.drop, List.length, Nat.reduceSub, Nat.reduceAdd, Rg.putAll, Act.put, List.setIfInBounds_toArray, List.set_cons_succ, List.set_cons_zero, s0, s12]
        clear s0 s12
        have HO3 := Lib.hid hO3
        have HB3 := Lib.hid hb3
        have HBQ := Lib.hid hbq
        clear hO3 hb3 hbq
        go_wp2_with (at_builtin; refine wpl_append5 (v := .slice xo j xk) (q := q) (t := t) (l := l.take j) rfl (.tmp 11) (.tmp 23) rfl rfl HO3.out rfl HBQ.out ?_ ?_ ?_)
        · rw [HTL.out]; omega
        · exact HB3.out.size
        have hO3 := HO3.out
        have hb3 := HB3.out
        intro v' w4 hown hgr hat
        have hrow : ∀ k, (Value.slice xo j xk).ownBlock = some k → w.heap.size ≤ k := fun k hk => (World.ownsRow.lt (w := w3) hO3 k hk).1
        have HW4 := Lib.hid (hb3.grown hgr hb3.size hrow)
        rw [← HTK.out] at hown
        have HO4 := Lib.hid hown
        obtain ⟨x1, k1, e1⟩ := hown.slice
        have e2 : (l.take (j + 1)).length = j + 1 := by rw [List.length_take]; omega
        rw [e2] at e1
        subst e1
        clear hown hgr hat hO3 hb3 hrow e2
        go_wp2_with fail
        go_roundw
        case rel => exact ⟨j + 1, x1, k1, by omega, rfl, by first | rfl | go_num, HO4.out, HW4.out⟩
        case measure => simp [intOf]; omega
    · have fj : decide ((j : Int) < (n : Int)) = false := decide_eq_false (by omega)
      have HR := Lib.hid (show OwnT wr w.heap.size (.slice xo j xk) l from by
        have h := HO.out
        rw [List.take_of_length_le (by have := HN.out; omega)] at h
        exact h)
      go_wp2_with fail
      go_ret
      exact ⟨_, rfl, HR.out, W.out⟩

set_option maxRecDepth 100000 in
set_option maxHeartbeats 2000000 in
theorem sametups_any (va vb : Value) (xs ys : List P.Tup) (w : World) (ha : TupsV w va xs) (hb : TupsV w vb ys) :
    Calls Try.prog 23 #[va, vb] w fun e w' => e = .returned (.bool (decide (xs = ys))) ∧ Below w.heap.size w w' := by
  have HA := Lib.hid ha
  have HB := Lib.hid hb
  obtain ⟨ao, ca, rfl, hza, -⟩ := ha
  obtain ⟨bo, cb, rfl, hzb, -⟩ := hb
  by_cases hl : xs.length = ys.length
  · have f0 : (((xs.length : Nat) : Int) != ((ys.length : Nat) : Int)) = false := by rw [bne_eq_false_iff_eq]; omega
    obtain ⟨n, hn⟩ : ∃ n, xs.length = n := ⟨_, rfl⟩
    have hm : ys.length = n := by omega
    have HN := Lib.hid hn
    have HM := Lib.hid hm
    rw [hn] at hza f0 ⊢
    rw [hm] at hzb f0 ⊢
    clear hl hn hm
    go_enter Try.func23, Try.ntmps23
    go_wp2_with fail
    go_loopw [5] (fun i wr => ∃ j : Nat, j ≤ n ∧ i = .int .i64 j ∧ xs.take j = ys.take j ∧ Below w.heap.size w wr) (fun i _ => n - (intOf i).toNat)
    case atStart => exact ⟨0, Nat.zero_le _, rfl, rfl, Below.refl _ _⟩
    case round =>
      obtain ⟨j, hj, rfl, ht, hbw⟩ := hrel
      have HTK := Lib.hid ht
      have W := Lib.hid hbw
      clear ht hbw
      have hj0 : (0 : Int) ≤ (j : Int) := Int.natCast_nonneg _
      by_cases hlt : j < n
      · have fj : decide ((j : Int) < (n : Int)) = true := decide_eq_true (by omega)
        have hji : (j : Int) < (n : Int) := by omega
        obtain ⟨ba, oa, ka, e1, hba, hca⟩ := HA.out.open_ HN.out (by omega)
        obtain ⟨bb, ob, kb, e2, hbb, hcb⟩ := HB.out.open_ HM.out (by omega)
        obtain ⟨rfl, rfl⟩ : ao = some ⟨ba, oa, none⟩ ∧ ca = ka := by injection e1 with h1 h2 h3; exact ⟨h1, h3⟩
        obtain ⟨rfl, rfl⟩ : bo = some ⟨bb, ob, none⟩ ∧ cb = kb := by injection e2 with h1 h2 h3; exact ⟨h1, h3⟩
        obtain ⟨s, hs⟩ : ∃ s, xs.getD j .zero = s := ⟨_, rfl⟩
        obtain ⟨t, ht⟩ : ∃ t, ys.getD j .zero = t := ⟨_, rfl⟩
        have HCA := Lib.hid (fun w' hw' => hca w' hw' j hlt)
        have HCB := Lib.hid (fun w' hw' => hcb w' hw' j hlt)
        rw [hs] at HCA
        rw [ht] at HCB
        have HS := Lib.hid hs
        have HT := Lib.hid ht
        have key : ∀ (zs : List P.Tup) (z : P.Tup), zs.length = n → zs.getD j .zero = z → zs.take (j + 1) = zs.take j ++ [z] := fun zs z h1 h2 => by
          have hjl : j < zs.length := by omega
          rw [List.take_succ_eq_append_getElem hjl, ← h2, List.getD_eq_getElem?_getD, List.getElem?_eq_getElem hjl]
          rfl
        have HXS := Lib.hid (key xs s HN.out hs)
        have HYS := Lib.hid (key ys t HM.out ht)
        clear e1 e2 hba hbb hca hcb hs ht key
        go_wp2_with fail
        refine Rt.wp_region_tail 1 (fun idx => match idx with | 0 => (fun v _ _ => v = (.slice (some ⟨ba, oa, none⟩) n ca)) | 1 => (fun v _ _ => v = (.int .i64 (j : Int))) | 2 => (fun v _ _ => v = (.pointer (some ⟨ba, oa + j * 5, none⟩))) | 3 => (fun v _ _ => v = .agg #[.bool s.top, .int .i64 s.a, .int .i64 s.b, .int .i64 s.c, .int .i64 s.d]) | 4 => (fun v _ _ => v = (.slice (some ⟨bb, ob, none⟩) n cb)) | 5 => (fun v _ _ => v = (.int .i64 (j : Int))) | 6 => (fun v _ _ => v = (.pointer (some ⟨bb, ob + j * 5, none⟩))) | 7 => (fun v _ _ => v = .agg #[.bool t.top, .int .i64 t.a, .int .i64 t.b, .int .i64 t.c, .int .i64 t.d]) | _ => fun _ _ _ => True) (fun _ _ _ _ => True) (Rk.allK) 99 (by kernel_rfl) (by rfl) (by kernel_rfl) (by rfl) ?_ ?_ ?_ ?_
        · refine ⟨?_, ?_, ?_, ?_, ?_, ?_, ?_, ?_, trivial⟩
          · intro A w' K vals h hn hT hgk hK0
            have r0 : A.tmps[0]?.getD undef = .slice (some ⟨ba, oa, none⟩) n ca := Rg.slot h.1
            clear h hn hT hgk
            simp [Oper.wp, execOp, go_sem, r0]
            exact hK0 _ _ (Rk.Keeps.refl _ _) rfl trivial
          · intro A w' K vals h hn hT hgk hK0
            have r0 : A.tmps[5]?.getD undef = .int .i64 (j : Int) := Rg.slot h.1
            clear h hn hT hgk
            simp [Oper.wp, execOp, go_sem, r0]
            exact hK0 _ _ (Rk.Keeps.refl _ _) rfl trivial
          · intro A w' K vals h hn hT hgk hK0
            have r0 : A.tmps[17]?.getD undef = vals 0 := Rg.slot h.1
            have s0 : vals 0 = (.slice (some ⟨ba, oa, none⟩) n ca) := hn.1
            have r1 : A.tmps[18]?.getD undef = vals 1 := Rg.slot h.2.1
            have s1 : vals 1 = (.int .i64 (j : Int)) := hn.2.1
            clear h hn hT hgk
            simp [Oper.wp, execOp, go_sem, r0, r1, s0, s1, hj0, hji]
            exact hK0 _ _ (Rk.Keeps.refl _ _) rfl trivial
          · intro A w' K vals h hn hT hgk hK0
            have r0 : A.tmps[19]?.getD undef = vals 2 := Rg.slot h.1
            have s0 : vals 2 = (.pointer (some ⟨ba, oa + j * 5, none⟩)) := hn.1
            have c0 : w'.cell? ⟨ba, oa + j * 5, none⟩ = some (.bool s.top) := HCA.out w' (W.out.trans ((below_of_grown (Rk.grown_of hgk)).mono W.out.size)) 0 _ rfl
            have c1 : w'.cell? ⟨ba, oa + j * 5 + 1, none⟩ = some (.int .i64 s.a) := HCA.out w' (W.out.trans ((below_of_grown (Rk.grown_of hgk)).mono W.out.size)) 1 _ rfl
            have c2 : w'.cell? ⟨ba, oa + j * 5 + 2, none⟩ = some (.int .i64 s.b) := HCA.out w' (W.out.trans ((below_of_grown (Rk.grown_of hgk)).mono W.out.size)) 2 _ rfl
            have c3 : w'.cell? ⟨ba, oa + j * 5 + 3, none⟩ = some (.int .i64 s.c) := HCA.out w' (W.out.trans ((below_of_grown (Rk.grown_of hgk)).mono W.out.size)) 3 _ rfl
            have c4 : w'.cell? ⟨ba, oa + j * 5 + 4, none⟩ = some (.int .i64 s.d) := HCA.out w' (W.out.trans ((below_of_grown (Rk.grown_of hgk)).mono W.out.size)) 4 _ rfl
            clear h hn hT hgk
            simp [Oper.wp, execOp, go_sem, r0, s0, c0, c1, c2, c3, c4]
            exact hK0 _ _ (Rk.Keeps.refl _ _) rfl trivial
          · intro A w' K vals h hn hT hgk hK0
            have r0 : A.tmps[1]?.getD undef = .slice (some ⟨bb, ob, none⟩) n cb := Rg.slot h.1
            clear h hn hT hgk
            simp [Oper.wp, execOp, go_sem, r0]
            exact hK0 _ _ (Rk.Keeps.refl _ _) rfl trivial
          · intro A w' K vals h hn hT hgk hK0
            have r0 : A.tmps[5]?.getD undef = .int .i64 (j : Int) := Rg.slot h.1
            clear h hn hT hgk
            simp [Oper.wp, execOp, go_sem, r0]
            exact hK0 _ _ (Rk.Keeps.refl _ _) rfl trivial
          · intro A w' K vals h hn hT hgk hK0
            have r0 : A.tmps[21]?.getD undef = vals 4 := Rg.slot h.1
            have s0 : vals 4 = (.slice (some ⟨bb, ob, none⟩) n cb) := hn.1
            have r1 : A.tmps[22]?.getD undef = vals 5 := Rg.slot h.2.1
            have s1 : vals 5 = (.int .i64 (j : Int)) := hn.2.1
            clear h hn hT hgk
            simp [Oper.wp, execOp, go_sem, r0, r1, s0, s1, hj0, hji]
            exact hK0 _ _ (Rk.Keeps.refl _ _) rfl trivial
          · intro A w' K vals h hn hT hgk hK0
            have r0 : A.tmps[23]?.getD undef = vals 6 := Rg.slot h.1
            have s0 : vals 6 = (.pointer (some ⟨bb, ob + j * 5, none⟩)) := hn.1
            have c0 : w'.cell? ⟨bb, ob + j * 5, none⟩ = some (.bool t.top) := HCB.out w' (W.out.trans ((below_of_grown (Rk.grown_of hgk)).mono W.out.size)) 0 _ rfl
            have c1 : w'.cell? ⟨bb, ob + j * 5 + 1, none⟩ = some (.int .i64 t.a) := HCB.out w' (W.out.trans ((below_of_grown (Rk.grown_of hgk)).mono W.out.size)) 1 _ rfl
            have c2 : w'.cell? ⟨bb, ob + j * 5 + 2, none⟩ = some (.int .i64 t.b) := HCB.out w' (W.out.trans ((below_of_grown (Rk.grown_of hgk)).mono W.out.size)) 2 _ rfl
            have c3 : w'.cell? ⟨bb, ob + j * 5 + 3, none⟩ = some (.int .i64 t.c) := HCB.out w' (W.out.trans ((below_of_grown (Rk.grown_of hgk)).mono W.out.size)) 3 _ rfl
            have c4 : w'.cell? ⟨bb, ob + j * 5 + 4, none⟩ = some (.int .i64 t.d) := HCB.out w' (W.out.trans ((below_of_grown (Rk.grown_of hgk)).mono W.out.size)) 4 _ rfl
            clear h hn hT hgk
            simp [Oper.wp, execOp, go_sem, r0, s0, c0, c1, c2, c3, c4]
            exact hK0 _ _ (Rk.Keeps.refl _ _) rfl trivial
        · refine ⟨?_, ?_, ?_, ?_, ?_, ?_, ?_, ?_, trivial⟩
          · exact fun _ _ _ _ _ _ h => h
          · exact fun _ _ _ _ _ _ h => h
          · exact fun _ _ _ _ _ _ h => h
          · exact fun _ _ _ _ _ _ h => h
          · exact fun _ _ _ _ _ _ h => h
          · exact fun _ _ _ _ _ _ h => h
          · exact fun _ _ _ _ _ _ h => h
          · exact fun _ _ _ _ _ _ h => h
        · exact fun _ _ _ _ _ _ h => h
        · intro vals w3 G hgk hS hG
          have s3 : vals 3 = .agg #[.bool s.top, .int .i64 s.a, .int .i64 s.b, .int .i64 s.c, .int .i64 s.d] := hS.2.2.2.1
          have s7 : vals 7 = .agg #[.bool t.top, .int .i64 t.a, .int .i64 t.b, .int .i64 t.c, .int .i64 t.d] := hS.2.2.2.2.2.2.2.1
          clear hS
          have hb := below_of_grown (Rk.grown_of hgk)
          replace W := Lib.hid (W.out.trans (hb.mono W.out.size))
          have he := fun w => tup_neq s t w
          unfold tc at he
          clear hgk hb
          refine hG ?_
          clear hG
          simp only [List.take, List.drop, List.length, Nat.reduceSub, Nat.reduceAdd, Rg.putAll, Act.put, List.setIfInBounds_toArray, List.set_cons_succ, List.set_cons_zero, s3, s7]
          clear s3 s7
          by_cases hst : s = t
          · have fe : (!decide (s = t)) = false := by rw [decide_eq_true hst]; rfl
            have HF := Lib.hid (show xs.take (j + 1) = ys.take (j + 1) by rw [HXS.out, HYS.out, HTK.out, hst])
            clear hst
            go_wp2_with fail
            go_roundw
            case rel => exact ⟨j + 1, by omega, by first | rfl | go_num, HF.out, W.out⟩
            case measure => simp [intOf]; omega
          · have fe : (!decide (s = t)) = true := by rw [decide_eq_false hst]; rfl
            have HF := Lib.hid (show decide (xs = ys) = false from decide_eq_false (fun h => hst (by rw [← HS.out, ← HT.out, h])))
            clear hst
            go_wp2_with fail
            go_ret
            exact ⟨by rw [HF.out]; rfl, W.out⟩
      · have fj : decide ((j : Int) < (n : Int)) = false := decide_eq_false (by omega)
        have HF := Lib.hid (show decide (xs = ys) = true from decide_eq_true (by
          have h := HTK.out
          rw [List.take_of_length_le (by have := HN.out; omega), List.take_of_length_le (by have := HM.out; omega)] at h
          exact h))
        go_wp2_with fail
        go_ret
        exact ⟨by rw [HF.out]; rfl, W.out⟩
  · have f0 : (((xs.length : Nat) : Int) != ((ys.length : Nat) : Int)) = true := by rw [bne_iff_ne]; omega
    have HF := Lib.hid (show decide (xs = ys) = false from decide_eq_false (fun h => hl (by rw [h])))
    clear hl
    go_enter Try.func23, Try.ntmps23
    go_wp2_with fail
    go_ret
    exact ⟨by rw [HF.out]; rfl, Below.refl _ _⟩
end W
end Go.Proofs.Yteeaojciobmcaaa
