/- A lifter as it is begun. -/
import Derived.Test.YteeaojciobmcaaaLifM
import Derived.Deep.Cut
import Derived.Lib.Hide
import Derived.Deep.QuietTactic
import Derived.BigQuiet
namespace Go.Proofs.Yteeaojciobmcaaa
open Go.RowKit
namespace W

theorem info_tup : (Try.prog.info? 26).map (fun i => (i.zero, i.size, i.bytes)) = some (some (.agg (tc .zero)), 5, 40) := by kernel_rfl
theorem und_tups : Try.prog.underlying 40 = some (.slice 26) := by kernel_rfl
theorem made_tups (n : Nat) : madeCells (Value.agg (tc .zero)).cells (n * 5) = flatT (List.replicate n .zero) := by
  apply Array.ext_getElem?
  intro i
  unfold flatT
  show (madeCells (Value.agg (tc .zero)).cells (n * 5))[i]? = _
  simp only [List.getElem?_toArray]
  by_cases hi : i < n * 5
  · have hd : i / 5 < n := by omega
    have hm : i % 5 < 5 := Nat.mod_lt _ (by omega)
    have h := flatL_at (List.replicate n .zero) (i / 5) (i % 5) (by rw [List.length_replicate]; exact hd) hm
    rw [show i / 5 * 5 + i % 5 = i by omega] at h
    rw [h, List.getD_eq_getElem?_getD, List.getElem?_replicate, if_pos hd]
    unfold madeCells
    rw [Array.getElem?_map, Array.getElem?_range, if_pos hi]
    show some ((tc .zero)[i % 5]!) = (tl .zero)[i % 5]?
    generalize i % 5 = r at hm
    match r, hm with
    | 0, _ | 1, _ | 2, _ | 3, _ | 4, _ => rfl
  · rw [Array.getElem?_eq_none (by rw [size_madeCells]; omega), List.getElem?_eq_none (by rw [flatL_len, List.length_replicate]; omega)]
theorem op_make5 {o : Oper} {A : Act} {w : World} {K : Act → World → Prop} {Q : Exit → Act → World → Prop} {s x : Operand}
    (ho : o.op = .makeSlice 40 s x) (n : Nat) (hs : A.eval s = .int .i64 n) (hx : A.eval x = .int .i64 n) (hb : 40 * n ≤ 281474976710656) (_ : n ≤ 9223372036854775807)
    (hK : K (A.put o.dst (.slice (some ⟨w.heap.size, 0, none⟩) n n)) (w.alloc (.cells (flatT (List.replicate n .zero)) 26))) : o.wp Try.prog A w K Q := by
  obtain ⟨i, hi, hz, hsz, hby⟩ := info_parts info_tup
  have hb' : (i.bytes : Int) * (n : Int) ≤ 281474976710656 := by
    have h : ((i.bytes * n : Nat) : Int) ≤ 281474976710656 := by rw [hby]; omega
    rwa [Int.natCast_mul] at h
  have hr := run_make (P := Try.prog) w 40 26 i _ und_tups hi hz .i64 .i64 n n (by omega) (Int.le_refl _) hb' (by omega)
  rw [hsz] at hr
  simp only [Int.toNat_natCast, made_tups] at hr
  unfold Oper.wp execOp
  simp only [ho, hs, hx, Sem.run_bind, Sem.run_pure, hr, Result.andThen_ok]
  exact hK

/-- What newLifter hands back. -/
def Begun (w : World) (g : P.G) (n : Nat) (s0 s1 s2 : Value) (e : Ending) (w' : World) : Prop := ∃ N qL pt pB pp pw qo ko O L m Wt, e = .returned (.pointer (some ⟨qL, 0, none⟩)) ∧ P.Order n O ∧ Lm w N n qL pt pB pp pw qo ko s0 s1 s2 g.tups O (P.prv n (P.pairs g O)) L (List.replicate n .zero) m Wt w' ∧ (∀ (i x : Nat), O[i]? = some x → m x = i) ∧ (∀ i, i < n → Wt i = true)
set_option maxRecDepth 100000 in
set_option maxHeartbeats 4000000 in
theorem begun_any (g : P.G) (hr : g.Right) (n : Nat) (hn : g.owner.length = n) (ba oa ka bb ob kb bc_ oc kc : Nat) (w : World) (hv : GameV w (.agg #[.slice (some ⟨ba, oa, none⟩) n ka, .slice (some ⟨bb, ob, none⟩) n kb, .slice (some ⟨bc_, oc, none⟩) n kc]) g) (hrows : Rows g w n bc_ oc) :
    Calls Try.prog 44 #[.agg #[.slice (some ⟨ba, oa, none⟩) n ka, .slice (some ⟨bb, ob, none⟩) n kb, .slice (some ⟨bc_, oc, none⟩) n kc]] w (Begun w g n (.slice (some ⟨ba, oa, none⟩) n ka) (.slice (some ⟨bb, ob, none⟩) n kb) (.slice (some ⟨bc_, oc, none⟩) n kc)) := by
  have hmany := hr.many
  have h0 := hr.pos
  rw [hn] at hmany h0
  have HV := Lib.hid hv
  have HROW := Lib.hid hrows
  have HR := Lib.hid hr
  have HN := Lib.hid hn
  clear hr hn hv hrows
  go_enter Try.func44, Try.ntmps44
  go_wp2_with fail
  have bx0 : Box (w.alloc (.cells #[.slice (some ⟨ba, oa, none⟩) n ka, .slice (some ⟨bb, ob, none⟩) n kb, .slice (some ⟨bc_, oc, none⟩) n kc] 33)) (w.heap.size) 33 #[.slice (some ⟨ba, oa, none⟩) n ka, .slice (some ⟨bb, ob, none⟩) n kb, .slice (some ⟨bc_, oc, none⟩) n kc] := Box.new w 33 #[.slice (some ⟨ba, oa, none⟩) n ka, .slice (some ⟨bb, ob, none⟩) n kb, .slice (some ⟨bc_, oc, none⟩) n kc]
  have hbq : Below w.heap.size w (w.alloc (.cells #[.slice (some ⟨ba, oa, none⟩) n ka, .slice (some ⟨bb, ob, none⟩) n kb, .slice (some ⟨bc_, oc, none⟩) n kc] 33)) := (Below.refl _ w).alloc (Nat.le_refl _) _
  have hle0 : w.heap.size ≤ w.heap.size := Nat.le_refl _
  generalize (w.alloc (.cells #[.slice (some ⟨ba, oa, none⟩) n ka, .slice (some ⟨bb, ob, none⟩) n kb, .slice (some ⟨bc_, oc, none⟩) n kc] 33)) = w0 at bx0 hbq  ⊢
  have BQg := Lib.hid bx0
  have W := Lib.hid hbq
  have LEg := Lib.hid hle0
  clear hbq hle0 bx0 
  obtain ⟨qg, hqg⟩ : ∃ qg, w.heap.size = qg := ⟨_, rfl⟩
  rw [hqg] at BQg ⊢
  have LEg : Hid (w.heap.size ≤ qg) := Lib.hid (by omega)
  clear hqg
  have W0S := Lib.hid W.out.size
  have hbb := BQg.out
  have gc0 : w0.cell? ⟨qg, 0, none⟩ = some (.slice (some ⟨ba, oa, none⟩) n ka) := hbb.cell 0 _ rfl
  have gc1 : w0.cell? ⟨qg, 1, none⟩ = some (.slice (some ⟨bb, ob, none⟩) n kb) := hbb.cell 1 _ rfl
  have gc2 : w0.cell? ⟨qg, 2, none⟩ = some (.slice (some ⟨bc_, oc, none⟩) n kc) := hbb.cell 2 _ rfl
  clear hbb
  go_wp2_with fail
  clear gc0 gc1 gc2
  refine Rt.wp_region_tail 1 (fun idx => match idx with | 0 => (fun v _ _ => v = .agg #[.slice (some ⟨ba, oa, none⟩) n ka, .slice (some ⟨bb, ob, none⟩) n kb, .slice (some ⟨bc_, oc, none⟩) n kc]) | 1 => (fun v _ _ => v = .agg #[.slice (some ⟨ba, oa, none⟩) n ka, .slice (some ⟨bb, ob, none⟩) n kb, .slice (some ⟨bc_, oc, none⟩) n kc]) | 2 => (fun v _ _ => v = .agg #[.int .i64 g.tups.a, .int .i64 g.tups.b, .int .i64 g.tups.c, .int .i64 g.tups.d]) | 3 => (fun v _ _ => v = (.int .i64 (n : Int))) | 4 => (fun v _ w' => ∃ p, v = .slice (some ⟨p, 0, none⟩) n n ∧ w0.heap.size ≤ p ∧ Box w' p 26 (flatT (List.replicate n .zero))) | 5 => (fun v _ _ => v = (.int .i64 (n : Int))) | 6 => (fun v _ w' => ∃ p, v = .slice (some ⟨p, 0, none⟩) n n ∧ w0.heap.size ≤ p ∧ Box w' p 30 (madeCells #[Value.slice none 0 0] n)) | 7 => (fun v _ _ => v = .agg #[.slice (some ⟨ba, oa, none⟩) n ka, .slice (some ⟨bb, ob, none⟩) n kb, .slice (some ⟨bc_, oc, none⟩) n kc]) | 8 => (fun v _ w' => ∃ q k O, v = .slice (some ⟨q, 0, none⟩) n k ∧ P.Order n O ∧ w'.ownsRow w0.heap.size 3 1 (.slice (some ⟨q, 0, none⟩) n k) n (nv O)) | 9 => (fun v _ _ => v = (.int .i64 (n : Int))) | 10 => (fun v _ w' => ∃ p, v = .slice (some ⟨p, 0, none⟩) n n ∧ w0.heap.size ≤ p ∧ Box w' p 3 (madeCells #[Value.int .i64 0] n)) | 11 => (fun v _ _ => v = (.int .i64 (n : Int))) | 12 => (fun v _ w' => ∃ p, v = .slice (some ⟨p, 0, none⟩) n n ∧ w0.heap.size ≤ p ∧ Box w' p 4 (madeCells #[Value.bool false] n)) | 13 => (fun v ds _ => v = .agg (lcs (.slice (some ⟨ba, oa, none⟩) n ka) (.slice (some ⟨bb, ob, none⟩) n kb) (.slice (some ⟨bc_, oc, none⟩) n kc) g.tups (ds.getD 2 undef) (ds.getD 3 undef) (ds.getD 4 undef) (ds.getD 5 undef) (ds.getD 6 undef))) | 14 => (fun v ds w' => ∃ q vv, v = .pointer (some ⟨q, 0, none⟩) ∧ w0.heap.size ≤ q ∧ ds.getD 0 undef = .agg vv ∧ Box w' q 73 vv) | _ => fun _ _ _ => True) (fun _ _ _ _ => True) (Rk.allK) 99 (by kernel_rfl) (by rfl) (by kernel_rfl) (by rfl) ?_ ?_ ?_ ?_
  · refine ⟨?_, ?_, ?_, ?_, ?_, ?_, ?_, ?_, ?_, ?_, ?_, ?_, ?_, ?_, ?_, trivial⟩
    · intro A w' K vals h hn hT hgk hK0
      have r0 : A.tmps[1]?.getD undef = .pointer (some ⟨qg, 0, none⟩) := Rg.slot h.1
      have hg := Rk.grown_of hgk
      have b := BQg.out.keep hg
      have cc0 : w'.cell? ⟨qg, 0, none⟩ = some (.slice (some ⟨ba, oa, none⟩) n ka) := b.cell 0 _ rfl
      have cc1 : w'.cell? ⟨qg, 1, none⟩ = some (.slice (some ⟨bb, ob, none⟩) n kb) := b.cell 1 _ rfl
      have cc2 : w'.cell? ⟨qg, 2, none⟩ = some (.slice (some ⟨bc_, oc, none⟩) n kc) := b.cell 2 _ rfl
      clear h hn hg b hT hgk
      simp [Oper.wp, execOp, go_sem, r0, cc0, cc1, cc2]
      exact hK0 _ _ (Rk.Keeps.refl _ _) rfl trivial
    · intro A w' K vals h hn hT hgk hK0
      have r0 : A.tmps[1]?.getD undef = .pointer (some ⟨qg, 0, none⟩) := Rg.slot h.1
      have hg := Rk.grown_of hgk
      have b := BQg.out.keep hg
      have cc0 : w'.cell? ⟨qg, 0, none⟩ = some (.slice (some ⟨ba, oa, none⟩) n ka) := b.cell 0 _ rfl
      have cc1 : w'.cell? ⟨qg, 1, none⟩ = some (.slice (some ⟨bb, ob, none⟩) n kb) := b.cell 1 _ rfl
      have cc2 : w'.cell? ⟨qg, 2, none⟩ = some (.slice (some ⟨bc_, oc, none⟩) n kc) := b.cell 2 _ rfl
      clear h hn hg b hT hgk
      simp [Oper.wp, execOp, go_sem, r0, cc0, cc1, cc2]
      exact hK0 _ _ (Rk.Keeps.refl _ _) rfl trivial
    · intro A w' K vals h hn hT hgk hK0
      have r0 : A.tmps[13]?.getD undef = vals 1 := Rg.slot h.2.1
      have s0 : vals 1 = .agg #[.slice (some ⟨ba, oa, none⟩) n ka, .slice (some ⟨bb, ob, none⟩) n kb, .slice (some ⟨bc_, oc, none⟩) n kc] := hn.1
      have hg := Rk.grown_of hgk
      clear h hn hT hgk
      simp [Oper.wp, go_sem, r0, s0]
      refine (bounds_any g _ w' (HV.out.on (W.out.trans ((below_of_grown hg).mono W.out.size)))).mono ?_
      rintro e w'' ⟨rfl, hb⟩
      exact hK0 _ _ (Rk.keep_of (grown_of_below hb _)) rfl trivial
    · intro A w' K vals h hn hT hgk hK0
      have r0 : A.tmps[3]?.getD undef = .int .i64 (n : Int) := Rg.slot h.1
      clear h hn hT hgk
      simp [Oper.wp, execOp, go_sem, r0]
      exact hK0 _ _ (Rk.Keeps.refl _ _) rfl trivial
    · intro A w' K vals h hn hT hgk hK0
      have r0 : A.tmps[15]?.getD undef = vals 3 := Rg.slot h.1
      have s0 : vals 3 = (.int .i64 (n : Int)) := hn.1
      have hsz := hgk.size
      clear h hn hT hgk
      refine op_make5 rfl n (by simp [Act.eval, r0, s0]) (by simp [Act.eval, r0, s0]) (by omega) (by omega) (hK0 _ _ (Rk.keep_of (World.grownBy_alloc _ _ _)) ⟨_, rfl, hsz, Box.new _ _ _⟩ trivial)
    · intro A w' K vals h hn hT hgk hK0
      have r0 : A.tmps[3]?.getD undef = .int .i64 (n : Int) := Rg.slot h.1
      clear h hn hT hgk
      simp [Oper.wp, execOp, go_sem, r0]
      exact hK0 _ _ (Rk.Keeps.refl _ _) rfl trivial
    · intro A w' K vals h hn hT hgk hK0
      have r0 : A.tmps[17]?.getD undef = vals 5 := Rg.slot h.1
      have s0 : vals 5 = (.int .i64 (n : Int)) := hn.1
      have hsz := hgk.size
      clear h hn hT hgk
      refine op_make elInts rfl n (by simp [Act.eval, r0, s0]) (by simp [Act.eval, r0, s0]) (by omega) (by omega) (hK0 _ _ (Rk.keep_of (World.grownBy_alloc _ _ _)) ⟨_, rfl, hsz, Box.new _ _ _⟩ trivial)
    · intro A w' K vals h hn hT hgk hK0
      have r0 : A.tmps[1]?.getD undef = .pointer (some ⟨qg, 0, none⟩) := Rg.slot h.1
      have hg := Rk.grown_of hgk
      have b := BQg.out.keep hg
      have cc0 : w'.cell? ⟨qg, 0, none⟩ = some (.slice (some ⟨ba, oa, none⟩) n ka) := b.cell 0 _ rfl
      have cc1 : w'.cell? ⟨qg, 1, none⟩ = some (.slice (some ⟨bb, ob, none⟩) n kb) := b.cell 1 _ rfl
      have cc2 : w'.cell? ⟨qg, 2, none⟩ = some (.slice (some ⟨bc_, oc, none⟩) n kc) := b.cell 2 _ rfl
      clear h hn hg b hT hgk
      simp [Oper.wp, execOp, go_sem, r0, cc0, cc1, cc2]
      exact hK0 _ _ (Rk.Keeps.refl _ _) rfl trivial
    · intro A w' K vals h hn hT hgk hK0
      have r0 : A.tmps[19]?.getD undef = vals 7 := Rg.slot h.2.1
      have s0 : vals 7 = .agg #[.slice (some ⟨ba, oa, none⟩) n ka, .slice (some ⟨bb, ob, none⟩) n kb, .slice (some ⟨bc_, oc, none⟩) n kc] := hn.1
      have hg := Rk.grown_of hgk
      have hsz := hgk.size
      clear h hn hT hgk
      simp [Oper.wp, go_sem, r0, s0]
      refine (inward_any g HR.out _ w' (HV.out.on (W.out.trans ((below_of_grown hg).mono W.out.size)))).mono ?_
      rintro e w'' ⟨v', O, rfl, hO, how, hb⟩
      rw [HN.out] at hO
      have hO : P.Order n O := hO
      rw [hO.len] at how
      obtain ⟨q, k, rfl, -⟩ := own_form how h0
      exact hK0 _ _ (Rk.keep_of (grown_of_below hb _)) ⟨q, k, O, rfl, hO, own_more how hsz⟩ trivial
    · intro A w' K vals h hn hT hgk hK0
      have r0 : A.tmps[3]?.getD undef = .int .i64 (n : Int) := Rg.slot h.1
      clear h hn hT hgk
      simp [Oper.wp, execOp, go_sem, r0]
      exact hK0 _ _ (Rk.Keeps.refl _ _) rfl trivial
    · intro A w' K vals h hn hT hgk hK0
      have r0 : A.tmps[21]?.getD undef = vals 9 := Rg.slot h.1
      have s0 : vals 9 = (.int .i64 (n : Int)) := hn.1
      have hsz := hgk.size
      clear h hn hT hgk
      refine op_make elInt rfl n (by simp [Act.eval, r0, s0]) (by simp [Act.eval, r0, s0]) (by omega) (by omega) (hK0 _ _ (Rk.keep_of (World.grownBy_alloc _ _ _)) ⟨_, rfl, hsz, Box.new _ _ _⟩ trivial)
    · intro A w' K vals h hn hT hgk hK0
      have r0 : A.tmps[3]?.getD undef = .int .i64 (n : Int) := Rg.slot h.1
      clear h hn hT hgk
      simp [Oper.wp, execOp, go_sem, r0]
      exact hK0 _ _ (Rk.Keeps.refl _ _) rfl trivial
    · intro A w' K vals h hn hT hgk hK0
      have r0 : A.tmps[23]?.getD undef = vals 11 := Rg.slot h.1
      have s0 : vals 11 = (.int .i64 (n : Int)) := hn.1
      have hsz := hgk.size
      clear h hn hT hgk
      refine op_make elBool rfl n (by simp [Act.eval, r0, s0]) (by simp [Act.eval, r0, s0]) (by omega) (by omega) (hK0 _ _ (Rk.keep_of (World.grownBy_alloc _ _ _)) ⟨_, rfl, hsz, Box.new _ _ _⟩ trivial)
    · intro A w' K vals h hn hT hgk hK0
      have r0 : A.tmps[12]?.getD undef = vals 0 := Rg.slot h.1
      have r1 : A.tmps[14]?.getD undef = vals 2 := Rg.slot h.2.1
      have r2 : A.tmps[16]?.getD undef = vals 4 := Rg.slot h.2.2.1
      have r3 : A.tmps[18]?.getD undef = vals 6 := Rg.slot h.2.2.2.1
      have r4 : A.tmps[20]?.getD undef = vals 8 := Rg.slot h.2.2.2.2.1
      have r5 : A.tmps[22]?.getD undef = vals 10 := Rg.slot h.2.2.2.2.2.1
      have r6 : A.tmps[24]?.getD undef = vals 12 := Rg.slot h.2.2.2.2.2.2.1
      have s0 : vals 0 = .agg #[.slice (some ⟨ba, oa, none⟩) n ka, .slice (some ⟨bb, ob, none⟩) n kb, .slice (some ⟨bc_, oc, none⟩) n kc] := hn.1
      have s1 : vals 2 = .agg #[.int .i64 g.tups.a, .int .i64 g.tups.b, .int .i64 g.tups.c, .int .i64 g.tups.d] := hn.2.1
      obtain ⟨p4, s2, -⟩ : ∃ p, vals 4 = .slice (some ⟨p, 0, none⟩) n n ∧ w0.heap.size ≤ p ∧ Box w' p 26 (flatT (List.replicate n .zero)) := hn.2.2.1
      obtain ⟨p6, s3, -⟩ : ∃ p, vals 6 = .slice (some ⟨p, 0, none⟩) n n ∧ w0.heap.size ≤ p ∧ Box w' p 30 (madeCells #[Value.slice none 0 0] n) := hn.2.2.2.1
      obtain ⟨p8, k8, O8, s4, -⟩ : ∃ q k O, vals 8 = .slice (some ⟨q, 0, none⟩) n k ∧ P.Order n O ∧ w'.ownsRow w0.heap.size 3 1 (.slice (some ⟨q, 0, none⟩) n k) n (nv O) := hn.2.2.2.2.1
      obtain ⟨p10, s5, -⟩ : ∃ p, vals 10 = .slice (some ⟨p, 0, none⟩) n n ∧ w0.heap.size ≤ p ∧ Box w' p 3 (madeCells #[Value.int .i64 0] n) := hn.2.2.2.2.2.1
      obtain ⟨p12, s6, -⟩ : ∃ p, vals 12 = .slice (some ⟨p, 0, none⟩) n n ∧ w0.heap.size ≤ p ∧ Box w' p 4 (madeCells #[Value.bool false] n) := hn.2.2.2.2.2.2.1
      clear h hn hT hgk
      have hK1 := fun v (hv : v = .agg (lcs (.slice (some ⟨ba, oa, none⟩) n ka) (.slice (some ⟨bb, ob, none⟩) n kb) (.slice (some ⟨bc_, oc, none⟩) n kc) g.tups (vals 4) (vals 6) (vals 8) (vals 10) (vals 12))) => hK0 v w' (Rk.Keeps.refl _ _) hv trivial
      rw [s2, s3, s4, s5, s6] at hK1
      clear hK0
      simp [Oper.wp, execOp, go_sem, r0, r1, r2, r3, r4, r5, r6, s0, s1, s2, s3, s4, s5, s6]
      exact hK1 _ rfl
    · intro A w' K vals h hn hT hgk hK0
      have r0 : A.tmps[25]?.getD undef = vals 13 := Rg.slot h.1
      have s0 : vals 13 = .agg (lcs (.slice (some ⟨ba, oa, none⟩) n ka) (.slice (some ⟨bb, ob, none⟩) n kb) (.slice (some ⟨bc_, oc, none⟩) n kc) g.tups (vals 4) (vals 6) (vals 8) (vals 10) (vals 12)) := hn.1
      have hsz := hgk.size
      clear h hn hT hgk
      have hK1 := fun q vv w2 (h1 : Rk.Keeps Rk.allK w' w2) (h2 : w0.heap.size ≤ q) (h3 : vals 13 = .agg vv) (h4 : Box w2 q 73 vv) => hK0 (.pointer (some ⟨q, 0, none⟩)) w2 h1 ⟨q, vv, rfl, h2, h3, h4⟩ trivial
      clear hK0
      unfold lcs at s0
      simp [Oper.wp, execOp, go_sem, r0, s0]
      exact hK1 _ _ _ (Rk.keep_of (World.grownBy_alloc _ _ _)) hsz s0 (Box.new _ _ _)
  · refine ⟨?_, ?_, ?_, ?_, ?_, ?_, ?_, ?_, ?_, ?_, ?_, ?_, ?_, ?_, ?_, trivial⟩
    · exact fun _ _ _ _ _ _ h => h
    · exact fun _ _ _ _ _ _ h => h
    · exact fun _ _ _ _ _ _ h => h
    · exact fun _ _ _ _ _ _ h => h
    · exact fun _ _ _ _ _ h ⟨p, hv, hp, hb⟩ => ⟨p, hv, hp, hb.keep (Rk.grown_of h)⟩
    · exact fun _ _ _ _ _ _ h => h
    · exact fun _ _ _ _ _ h ⟨p, hv, hp, hb⟩ => ⟨p, hv, hp, hb.keep (Rk.grown_of h)⟩
    · exact fun _ _ _ _ _ _ h => h
    · exact fun _ _ _ _ _ h ⟨q, k, O, hv, hO, ho⟩ => ⟨q, k, O, hv, hO, own_grown ho (Rk.grown_of h)⟩
    · exact fun _ _ _ _ _ _ h => h
    · exact fun _ _ _ _ _ h ⟨p, hv, hp, hb⟩ => ⟨p, hv, hp, hb.keep (Rk.grown_of h)⟩
    · exact fun _ _ _ _ _ _ h => h
    · exact fun _ _ _ _ _ h ⟨p, hv, hp, hb⟩ => ⟨p, hv, hp, hb.keep (Rk.grown_of h)⟩
    · exact fun _ _ _ _ _ _ h => h
    · exact fun _ _ _ _ _ h ⟨q, vv, h1, h2, h3, hb⟩ => ⟨q, vv, h1, h2, h3, hb.keep (Rk.grown_of h)⟩
  · exact fun _ _ _ _ _ _ h => h
  · intro vals w1 G hg hS hG
    obtain ⟨pt, s4, hpt, hbt⟩ : ∃ p, vals 4 = .slice (some ⟨p, 0, none⟩) n n ∧ w0.heap.size ≤ p ∧ Box w1 p 26 (flatT (List.replicate n .zero)) := hS.2.2.2.2.1
    obtain ⟨pB, s6, hpB, hbB⟩ : ∃ p, vals 6 = .slice (some ⟨p, 0, none⟩) n n ∧ w0.heap.size ≤ p ∧ Box w1 p 30 (madeCells #[Value.slice none 0 0] n) := hS.2.2.2.2.2.2.1
    obtain ⟨qo, ko, O, s8, hO, how⟩ : ∃ q k O, vals 8 = .slice (some ⟨q, 0, none⟩) n k ∧ P.Order n O ∧ w1.ownsRow w0.heap.size 3 1 (.slice (some ⟨q, 0, none⟩) n k) n (nv O) := hS.2.2.2.2.2.2.2.2.1
    obtain ⟨pp, s10, hpp, hbp⟩ : ∃ p, vals 10 = .slice (some ⟨p, 0, none⟩) n n ∧ w0.heap.size ≤ p ∧ Box w1 p 3 (madeCells #[Value.int .i64 0] n) := hS.2.2.2.2.2.2.2.2.2.2.1
    obtain ⟨pw, s12, hpw, hbw⟩ : ∃ p, vals 12 = .slice (some ⟨p, 0, none⟩) n n ∧ w0.heap.size ≤ p ∧ Box w1 p 4 (madeCells #[Value.bool false] n) := hS.2.2.2.2.2.2.2.2.2.2.2.2.1
    have s13 : vals 13 = .agg (lcs (.slice (some ⟨ba, oa, none⟩) n ka) (.slice (some ⟨bb, ob, none⟩) n kb) (.slice (some ⟨bc_, oc, none⟩) n kc) g.tups (vals 4) (vals 6) (vals 8) (vals 10) (vals 12)) := hS.2.2.2.2.2.2.2.2.2.2.2.2.2.1
    obtain ⟨qL, vv, s14, hqL, e14, hbL⟩ : ∃ q vv, vals 14 = .pointer (some ⟨q, 0, none⟩) ∧ w0.heap.size ≤ q ∧ vals 13 = .agg vv ∧ Box w1 q 73 vv := hS.2.2.2.2.2.2.2.2.2.2.2.2.2.2.1
    clear hS
    rw [s13, s4, s6, s8, s10, s12] at e14
    injection e14 with e14
    subst e14
    have hb := below_of_grown (Rk.grown_of hg)
    replace BQg := Lib.hid (BQg.out.keep (grown_of_below hb none))
    replace W := Lib.hid (W.out.trans (hb.mono W.out.size))
    have hw0 := LEg.out
    have hqg := BQg.out.lt
    have hws := W0S.out
    have HG1 := Lib.hid hb.size
    clear hb s13 hg s4 s6 s8 s10 s12
    have hap : qo = pp → n = 1 := by
      rintro rfl
      rcases Nat.lt_or_ge 1 n with h1 | h1
      · exfalso
        obtain ⟨i, hi⟩ := List.getElem?_of_mem ((hO.2 1).2 h1)
        have hin : i < n := by rw [← hO.len]; exact (List.getElem?_eq_some_iff.1 hi).1
        have c1 := how.cellAt i (by omega)
        have c2 := hbp.cell i (.int .i64 0) (by
          rw [made_im]
          exact im_at hin)
        have e := c1.symm.trans c2
        unfold nv at e
        rw [List.getElem?_map, hi] at e
        simp at e
      · omega
    have hqo := own_lt how qo rfl
    obtain ⟨N, hN⟩ : ∃ N, w1.heap.size = N := ⟨_, rfl⟩
    have HL0 := Lib.hid (show Lm w N n qL pt pB pp pw qo ko (.slice (some ⟨ba, oa, none⟩) n ka) (.slice (some ⟨bb, ob, none⟩) n kb) (.slice (some ⟨bc_, oc, none⟩) n kc) g.tups O (P.prv n (P.pairs g (O.take 0))) (List.replicate n (Value.slice none 0 0)) (List.replicate n .zero) (fun _ => 0) (fun _ => false) w1 from by
      refine ⟨hbL, hbt, ?_, ?_, own_more how (by omega), by rw [← made_im]; exact hbp, by rw [← made_bl]; exact hbw, W.out, by omega, ⟨by omega, by omega, by omega, by omega, by omega⟩, ⟨by have := hbL.lt; omega, by have := hbt.lt; omega, by have := hbB.lt; omega, by have := hbp.lt; omega, by have := hbw.lt; omega, by omega⟩, hap, by simp, by simp⟩
      · have e : madeCells #[Value.slice none 0 0] n = (List.replicate n (Value.slice none 0 0)).toArray := by
          apply Array.ext'
          rw [toList_madeCells_one]
        rw [← e]
        exact hbB
      · have := GrowR.start w1 N n
        rw [List.take_zero, P.pairs_nil, P.prv_start]
        exact this)
    have HO := Lib.hid hO
    have HQG := Lib.hid (show qg < N by omega)
    have HWQ := Lib.hid (show w.heap.size ≤ qg by omega)
    clear hap hqo hbL hbt hbB hbp hbw how hO hpt hpB hpp hpw hqL hqg hw0 hws hN
    refine hG ?_
    clear hG
    simp [Rg.putAll, s14]
    clear s14
    have hL := HL0.out.lbox
    have lc9 : w1.cell? ⟨qL, 9, none⟩ = some (.slice (some ⟨qo, 0, none⟩) n ko) := hL.cell 9 _ rfl
    clear hL
    go_wp2_with fail
    clear lc9
    go_loopw [32] (fun iv wr => ∃ (k : Nat) (L : List Value) (m : Nat → Int) (Wt : Nat → Bool), k ≤ n ∧ iv = .int .i64 (k : Int) ∧ Lm w N n qL pt pB pp pw qo ko (.slice (some ⟨ba, oa, none⟩) n ka) (.slice (some ⟨bb, ob, none⟩) n kb) (.slice (some ⟨bc_, oc, none⟩) n kc) g.tups O (P.prv n (P.pairs g (O.take k))) L (List.replicate n .zero) m Wt wr ∧ (∀ (i x : Nat), i < k → O[i]? = some x → m x = i) ∧ (∀ i, i < k → Wt i = true) ∧ Box wr qg 33 #[.slice (some ⟨ba, oa, none⟩) n ka, .slice (some ⟨bb, ob, none⟩) n kb, .slice (some ⟨bc_, oc, none⟩) n kc]) (fun iv _ => n - (intOf iv).toNat)
    case atStart => exact ⟨0, _, _, _, Nat.zero_le _, rfl, HL0.out, fun i x h => absurd h (Nat.not_lt_zero i), fun i h => absurd h (Nat.not_lt_zero i), BQg.out⟩
    case round =>
      obtain ⟨k, L, m, Wt, hk, rfl, hL, hm, hW, hbg⟩ := hrel
      have HL := Lib.hid hL
      have HM := Lib.hid hm
      have HWT := Lib.hid hW
      have HBG := Lib.hid hbg
      clear hL hm hW hbg
      have hk0 : (0 : Int) ≤ (k : Int) := Int.natCast_nonneg _
      by_cases hlt : k < n
      · have fk : decide ((k : Int) < (n : Int)) = true := decide_eq_true (by omega)
        have hki : (k : Int) < (n : Int) := by omega
        obtain ⟨x, hx⟩ : ∃ x, O[k]? = some x := ⟨_, List.getElem?_eq_getElem (by rw [HO.out.len]; exact hlt)⟩
        have hxn : x < n := (HO.out.2 x).1 (List.mem_of_getElem? hx)
        have HX := Lib.hid hx
        have co : wr.cell? ⟨qo, k, none⟩ = some (.int .i64 (x : Int)) := by
          rw [HL.out.ord.cellAt k (by omega)]
          unfold nv
          rw [List.getElem?_map, hx]
          rfl
        have HXN := Lib.hid hxn
        clear hx
        go_wp2_with fail
        clear co
        refine Rt.wp_region_tail 1 (fun idx => match idx with | 0 => (fun v _ _ => v = (.pointer (some ⟨qL, 0, none⟩))) | 1 => (fun v _ _ => v = (.pointer (some ⟨qL, 0, none⟩))) | 2 => (fun v _ _ => v = (.pointer (some ⟨qL, 10, none⟩))) | 3 => (fun v _ _ => v = (.slice (some ⟨pp, 0, none⟩) n n)) | 4 => (fun v _ _ => v = (.int .i64 (x : Int))) | 5 => (fun v _ _ => v = (.pointer (some ⟨qL, 0, none⟩))) | 6 => (fun v _ _ => v = (.pointer (some ⟨qL, 0, none⟩))) | 7 => (fun v _ _ => v = (.pointer (some ⟨qL, 11, none⟩))) | 8 => (fun v _ _ => v = (.slice (some ⟨pw, 0, none⟩) n n)) | 9 => (fun v _ _ => v = (.int .i64 (k : Int))) | 10 => (fun v _ _ => v = (.int .i64 (k : Int))) | 11 => (fun v _ _ => v = (.pointer (some ⟨pp, x, none⟩))) | 12 => (fun _ _ w' => Box w' pp 3 (im n (fun y => if y = x then (k : Int) else m y))) | 13 => (fun v _ _ => v = (.pointer (some ⟨pw, k, none⟩))) | _ => fun _ _ _ => True) (fun _ _ _ _ => True) (KX wr.heap.size [pp]) 12 (by kernel_rfl) (by rfl) (by kernel_rfl) (by rfl) ?_ ?_ ?_ ?_
        · refine ⟨?_, ?_, ?_, ?_, ?_, ?_, ?_, ?_, ?_, ?_, ?_, ?_, ?_, ?_, trivial⟩
          · intro A w' K vals h hn hT hgk hK0
            have r0 : A.tmps[4]?.getD undef = .pointer (some ⟨qL, 0, none⟩) := Rg.slot h.1
            clear h hn hT hgk
            simp [Oper.wp, execOp, go_sem, r0]
            exact hK0 _ _ (Rk.Keeps.refl _ _) rfl trivial
          · intro A w' K vals h hn hT hgk hK0
            have r0 : A.tmps[37]?.getD undef = vals 0 := Rg.slot h.1
            have s0 : vals 0 = .pointer (some ⟨qL, 0, none⟩) := hn.1
            clear h hn hT hgk
            simp [Oper.wp, execOp, go_sem, r0, s0]
            exact hK0 _ _ (Rk.Keeps.refl _ _) rfl trivial
          · intro A w' K vals h hn hT hgk hK0
            have r0 : A.tmps[38]?.getD undef = vals 1 := Rg.slot h.1
            have s0 : vals 1 = .pointer (some ⟨qL, 0, none⟩) := hn.1
            clear h hn hT hgk
            simp [Oper.wp, execOp, go_sem, r0, s0]
            exact hK0 _ _ (Rk.Keeps.refl _ _) rfl trivial
          · intro A w' K vals h hn hT hgk hK0
            have r0 : A.tmps[39]?.getD undef = vals 2 := Rg.slot (h.1)
            have r1 : vals 2 = (.pointer (some ⟨qL, 10, none⟩)) := hn.1
            have c : w'.cell? ⟨qL, 10, none⟩ = some (.slice (some ⟨pp, 0, none⟩) n n) := (kx_box hgk HL.out.lbox HL.out.lbox.lt (fun e => HL.out.lbox.ne HL.out.plc (by decide) (by simpa using e))).cell 10 _ rfl
            clear h hn hT hgk
            simp [Oper.wp, execOp, go_sem, r0, r1, c]
            exact hK0 _ _ (Rk.Keeps.refl _ _) rfl trivial
          · intro A w' K vals h hn hT hgk hK0
            have r0 : A.tmps[6]?.getD undef = .int .i64 (x : Int) := Rg.slot h.1
            clear h hn hT hgk
            simp [Oper.wp, execOp, go_sem, r0]
            exact hK0 _ _ (Rk.Keeps.refl _ _) rfl trivial
          · intro A w' K vals h hn hT hgk hK0
            have r0 : A.tmps[4]?.getD undef = .pointer (some ⟨qL, 0, none⟩) := Rg.slot h.1
            clear h hn hT hgk
            simp [Oper.wp, execOp, go_sem, r0]
            exact hK0 _ _ (Rk.Keeps.refl _ _) rfl trivial
          · intro A w' K vals h hn hT hgk hK0
            have r0 : A.tmps[42]?.getD undef = vals 5 := Rg.slot h.1
            have s0 : vals 5 = .pointer (some ⟨qL, 0, none⟩) := hn.1
            clear h hn hT hgk
            simp [Oper.wp, execOp, go_sem, r0, s0]
            exact hK0 _ _ (Rk.Keeps.refl _ _) rfl trivial
          · intro A w' K vals h hn hT hgk hK0
            have r0 : A.tmps[43]?.getD undef = vals 6 := Rg.slot h.1
            have s0 : vals 6 = .pointer (some ⟨qL, 0, none⟩) := hn.1
            clear h hn hT hgk
            simp [Oper.wp, execOp, go_sem, r0, s0]
            exact hK0 _ _ (Rk.Keeps.refl _ _) rfl trivial
          · intro A w' K vals h hn hT hgk hK0
            have r0 : A.tmps[44]?.getD undef = vals 7 := Rg.slot (h.1)
            have r1 : vals 7 = (.pointer (some ⟨qL, 11, none⟩)) := hn.1
            have c : w'.cell? ⟨qL, 11, none⟩ = some (.slice (some ⟨pw, 0, none⟩) n n) := (kx_box hgk HL.out.lbox HL.out.lbox.lt (fun e => HL.out.lbox.ne HL.out.plc (by decide) (by simpa using e))).cell 11 _ rfl
            clear h hn hT hgk
            simp [Oper.wp, execOp, go_sem, r0, r1, c]
            exact hK0 _ _ (Rk.Keeps.refl _ _) rfl trivial
          · intro A w' K vals h hn hT hgk hK0
            have r0 : A.tmps[5]?.getD undef = .int .i64 (k : Int) := Rg.slot h.1
            clear h hn hT hgk
            simp [Oper.wp, execOp, go_sem, r0]
            exact hK0 _ _ (Rk.Keeps.refl _ _) rfl trivial
          · intro A w' K vals h hn hT hgk hK0
            have r0 : A.tmps[5]?.getD undef = .int .i64 (k : Int) := Rg.slot h.1
            clear h hn hT hgk
            simp [Oper.wp, execOp, go_sem, r0]
            exact hK0 _ _ (Rk.Keeps.refl _ _) rfl trivial
          · intro A w' K vals h hn hT hgk hK0
            have r0 : A.tmps[40]?.getD undef = vals 3 := Rg.slot h.1
            have s0 : vals 3 = .slice (some ⟨pp, 0, none⟩) n n := hn.1
            have r1 : A.tmps[41]?.getD undef = vals 4 := Rg.slot h.2.1
            have s1 : vals 4 = .int .i64 (x : Int) := hn.2.1
            clear h hn hT hgk
            simp [Oper.wp, execOp, go_sem, r0, r1, s0, s1, HXN.out]
            exact hK0 _ _ (Rk.Keeps.refl _ _) rfl trivial
          · intro A w' K vals h hn hT hgk hK0
            have r0 : A.tmps[48]?.getD undef = vals 11 := Rg.slot h.1
            have r1 : A.tmps[47]?.getD undef = vals 10 := Rg.slot h.2.1
            have s0 : vals 11 = .pointer (some ⟨pp, x, none⟩) := hn.1
            have s1 : vals 10 = (.int .i64 (k : Int)) := hn.2.1
            have hbp : Box w' pp 3 (im n m) := HL.out.plc.keep (Rk.grown_of hgk)
            have c0 := hbp.cell x _ (im_at HXN.out)
            have f0 := hbp.frozen x
            clear h hn hT hgk
            have hK1 := hK0 undef (w'.setCell ⟨pp, x, none⟩ (.int .i64 (k : Int))) (kx_set w' (.inl (by simp)) x _) (by
              have := hbp.set x (.int .i64 (k : Int))
              rw [im_set] at this
              exact this) trivial
            clear hK0 hbp
            simp [Oper.wp, execOp, go_sem, r0, r1, s0, s1, c0, f0]
            exact hK1
          · intro A w' K vals h hn hT hgk hK0
            have r0 : A.tmps[45]?.getD undef = vals 8 := Rg.slot h.1
            have s0 : vals 8 = .slice (some ⟨pw, 0, none⟩) n n := hn.1
            have r1 : A.tmps[46]?.getD undef = vals 9 := Rg.slot h.2.1
            have s1 : vals 9 = .int .i64 (k : Int) := hn.2.1
            clear h hn hT hgk
            simp [Oper.wp, execOp, go_sem, r0, r1, s0, s1, hlt]
            exact hK0 _ _ (Rk.Keeps.refl _ _) rfl trivial
        · refine ⟨?_, ?_, ?_, ?_, ?_, ?_, ?_, ?_, ?_, ?_, ?_, ?_, ?_, ?_, trivial⟩
          · exact fun _ _ _ _ _ _ h => h
          · exact fun _ _ _ _ _ _ h => h
          · exact fun _ _ _ _ _ _ h => h
          · exact fun _ _ _ _ _ _ h => h
          · exact fun _ _ _ _ _ _ h => h
          · exact fun _ _ _ _ _ _ h => h
          · exact fun _ _ _ _ _ _ h => h
          · exact fun _ _ _ _ _ _ h => h
          · exact fun _ _ _ _ _ _ h => h
          · exact fun _ _ _ _ _ _ h => h
          · exact fun _ _ _ _ _ _ h => h
          · exact fun _ _ _ _ _ _ h => h
          · exact fun _ _ _ _ _ h hb => hb.keep (Rk.grown_of h)
          · exact fun _ _ _ _ _ _ h => h
        · exact fun _ _ _ _ _ _ h => h
        · intro vals w2 G hg hS hG
          have hbp : Box w2 pp 3 (im n (fun y => if y = x then (k : Int) else m y)) := hS.2.2.2.2.2.2.2.2.2.2.2.2.1
          have s13 : vals 13 = .pointer (some ⟨pw, k, none⟩) := hS.2.2.2.2.2.2.2.2.2.2.2.2.2.1
          clear hS
          have HL2 := Lib.hid (HL.out.viaP hg hbp (fun e => by
            have hx0 : x = 0 := by have := HXN.out; omega
            have hk0 : k = 0 := by omega
            refine ⟨by rw [if_pos hx0.symm, hk0]; rfl, ?_⟩
            have h1 := HO.out.len
            have h2 := HX.out
            rw [hk0, hx0] at h2
            rw [e] at h1
            match O, h1, h2 with
            | [y], _, h2 => simp at h2; rw [h2]))
          have HBG2 := Lib.hid (kx_box hg HBG.out HBG.out.lt (fun e => HBG.out.ne HL.out.plc (by decide) (by simpa using e)))
          clear hbp hg
          have c0 := HL2.out.wts.cell k _ (bl_at hlt)
          have f0 := HL2.out.wts.frozen k
          refine hG ?_
          clear hG
          simp [Rg.putAll, s13]
          clear s13
          have HL3 := Lib.hid (HL2.out.setW k true)
          have HBH := Lib.hid (HBG2.out.far (p := ⟨pw, k, none⟩) (HBG2.out.ne HL2.out.wts (by decide)) (.bool true))
          clear HL2 HBG2 HBG HL
          have HBG := HBH
          clear HBH
          obtain ⟨m3, hm3⟩ : ∃ f : Nat → Int, (fun y => if y = x then (k : Int) else m y) = f := ⟨_, rfl⟩
          obtain ⟨W3, hW3⟩ : ∃ f : Nat → Bool, (fun y => if y = k then true else Wt y) = f := ⟨_, rfl⟩
          rw [hm3, hW3] at HL3
          have HM3 := Lib.hid (show ∀ (i y : Nat), i < k + 1 → O[i]? = some y → m3 y = i from fun i y hi hy => by
            rw [← hm3]
            show (if y = x then (k : Int) else m y) = i
            by_cases e : y = x
            · rw [if_pos e]
              have := HO.out.inj hy (e ▸ HX.out)
              omega
            · rw [if_neg e]
              refine HM.out i y ?_ hy
              have : i ≠ k := fun e2 => e (by have := HX.out; rw [← e2, hy] at this; injection this)
              omega)
          have HW3 := Lib.hid (show ∀ i, i < k + 1 → W3 i = true from fun i hi => by
            rw [← hW3]
            show (if i = k then true else Wt i) = true
            by_cases e : i = k
            · rw [if_pos e]
            · rw [if_neg e]; exact HWT.out i (by omega))
          clear hm3 hW3 HM HWT
          obtain ⟨bm, om, km, hrow⟩ := HROW.out x HXN.out
          have hcr := (hrow _ HL3.out.low).1
          have hat := HR.out.at x (by rw [HN.out]; exact HXN.out)
          have hrise := hat.2.2.2.2
          rw [HN.out] at hrise
          obtain ⟨ms, hms⟩ : ∃ ms, g.moves.getD x [] = ms := ⟨_, rfl⟩
          rw [hms] at hrow hcr hrise
          have hmsl : ms.length ≤ 200 := P.rise_len hrise hmany
          have HRW := Lib.hid hrow
          have HMS := Lib.hid hms
          have HRISE := Lib.hid hrise
          have g2 := HBG.out.cell 2 _ rfl
          clear hrow hms hat hrise
          go_wp2_with fail
          clear g2 hcr c0 f0
          generalize (w2.setCell ⟨pw, k, none⟩ (.bool true)) = w3 at HL3 HBG ⊢
          obtain ⟨wo, rfl⟩ : ∃ wo : World, wo = wr := ⟨_, rfl⟩
          obtain ⟨ps, hps⟩ : ∃ ps, P.pairs g (O.take k) = ps := ⟨_, rfl⟩
          have hpl : ps.length ≤ 40000 := by
            rw [← hps]
            have h1 := P.pairs_len (g := g) (O := O.take k) fun y hy => by
              have hyn := (HO.out.2 y).1 (List.mem_of_mem_take hy)
              have h2 := (HR.out.at y (by rw [HN.out]; exact hyn)).2.2.2.2
              rw [HN.out] at h2
              exact P.rise_len h2 hmany
            rw [List.length_take] at h1
            omega
          have HPS := Lib.hid hps
          rw [hps] at HL3
          clear hps
          go_loopw [56] (fun iv wr => ∃ (j : Nat) (L : List Value), j ≤ ms.length ∧ iv = .int .i64 (j : Int) ∧ Lm w N n qL pt pB pp pw qo ko (.slice (some ⟨ba, oa, none⟩) n ka) (.slice (some ⟨bb, ob, none⟩) n kb) (.slice (some ⟨bc_, oc, none⟩) n kc) g.tups O (P.prv n (ps ++ (ms.take j).map fun m => (m.toNat, x))) L (List.replicate n .zero) m3 W3 wr ∧ Box wr qg 33 #[.slice (some ⟨ba, oa, none⟩) n ka, .slice (some ⟨bb, ob, none⟩) n kb, .slice (some ⟨bc_, oc, none⟩) n kc]) (fun iv _ => ms.length - (intOf iv).toNat)
          case atStart => exact ⟨0, L, Nat.zero_le _, rfl, by rw [List.take_zero, List.map_nil, List.append_nil]; exact HL3.out, HBG.out⟩
          case round =>
            obtain ⟨j, L, hj, rfl, hL, hbg⟩ := hrel
            have HL := Lib.hid hL
            have HBG := Lib.hid hbg
            clear hL hbg
            have hj0 : (0 : Int) ≤ (j : Int) := Int.natCast_nonneg _
            by_cases hlj : j < ms.length
            · have fj : decide ((j : Int) < (ms.length : Int)) = true := decide_eq_true (by omega)
              have hji : (j : Int) < (ms.length : Int) := by omega
              have hmb := P.rise_bounds HRISE.out (ms.getD j 0) (by rw [List.getD_eq_getElem?_getD, List.getElem?_eq_getElem hlj]; exact List.getElem_mem hlj)
              have htake : ms.take (j + 1) = ms.take j ++ [ms.getD j 0] := by
                rw [List.take_succ_eq_append_getElem hlj, List.getD_eq_getElem?_getD, List.getElem?_eq_getElem hlj]
                rfl
              have cj := (HRW.out wr HL.out.low).2 j hlj
              obtain ⟨mz, hmz⟩ : ∃ mz, ms.getD j 0 = mz := ⟨_, rfl⟩
              rw [hmz] at hmb htake cj
              obtain ⟨mn, rfl⟩ := Int.eq_ofNat_of_zero_le (show 0 ≤ mz by omega)
              have hmn : mn < n := by omega
              have HMN := Lib.hid hmn
              have hpl2 : (ps ++ (ms.take j).map fun m => (m.toNat, x)).length ≤ 40200 := by
                rw [List.length_append, List.length_map, List.length_take]
                omega
              have hnext : P.prv n (ps ++ (ms.take (j + 1)).map fun m => (m.toNat, x)) = (P.prv n (ps ++ (ms.take j).map fun m => (m.toNat, x))).set mn ((P.prv n (ps ++ (ms.take j).map fun m => (m.toNat, x))).getD mn [] ++ [(x : Int)]) := by
                rw [htake, List.map_append, ← List.append_assoc]
                exact P.prv_push n _ mn x hmn
              have hrl := P.prv_at (ps := ps ++ (ms.take j).map fun m => (m.toNat, x)) hmn
              have hrle := P.prv_row_len (ps := ps ++ (ms.take j).map fun m => (m.toNat, x)) hmn
              rw [← P.prv_getD hmn] at hrl
              obtain ⟨row, hrow⟩ : ∃ row, (P.prv n (ps ++ (ms.take j).map fun m => (m.toNat, x))).getD mn [] = row := ⟨_, rfl⟩
              rw [hrow] at hnext hrl hrle
              obtain ⟨u, hu, hou⟩ := HL.out.rows.rows mn row hrl
              obtain ⟨uo, uk, rfl, -⟩ := own_at hou
              have hrl4 : row.length ≤ 40200 := by omega
              have HRL := Lib.hid hrl
              have HPU := Lib.hid hnext
              have HU := Lib.hid hu
              have HOU := Lib.hid hou
              have HUX := Lib.hid (show ∀ q, q < N → q ∉ (Value.slice uo row.length uk).ownBlock.toList from fun q hq e => by
                cases hb : (Value.slice uo row.length uk).ownBlock with
                | none => rw [hb] at e; simp at e
                | some b =>
                  rw [hb] at e
                  simp at e
                  have := HL.out.rowb HU.out b hb
                  omega)
              clear hmb htake hmz hmn hpl2 hnext hrl hrle hrow hu hou
              go_wp2_with fail
              clear cj
              refine Rt.wp_region_tail 2 (fun idx => match idx with | 0 => (fun v _ _ => v = (.pointer (some ⟨qL, 0, none⟩))) | 1 => (fun v _ _ => v = (.pointer (some ⟨qL, 0, none⟩))) | 2 => (fun v _ _ => v = (.pointer (some ⟨qL, 8, none⟩))) | 3 => (fun v _ _ => v = (.slice (some ⟨pB, 0, none⟩) n n)) | 4 => (fun v _ _ => v = (.int .i64 (mn : Int))) | 5 => (fun v _ _ => v = (.pointer (some ⟨qL, 0, none⟩))) | 6 => (fun v _ _ => v = (.pointer (some ⟨qL, 0, none⟩))) | 7 => (fun v _ _ => v = (.pointer (some ⟨qL, 8, none⟩))) | 8 => (fun v _ _ => v = (.slice (some ⟨pB, 0, none⟩) n n)) | 9 => (fun v _ _ => v = (.int .i64 (mn : Int))) | 10 => (fun v _ _ => v = (.pointer (some ⟨pB, mn, none⟩))) | 11 => (fun v _ _ => v = (.slice uo row.length uk)) | 12 => (fun v _ _ => v = (.int .i64 (x : Int))) | 13 => (fun _ _ _ => True) | 14 => (fun v _ w' => OwnI w' N v (row ++ [(x : Int)]) ∧ (v.ownBlock = (Value.slice uo row.length uk).ownBlock ∨ ∃ b, v.ownBlock = some b ∧ wr.heap.size ≤ b)) | _ => fun _ _ _ => True) (fun idx => match idx with | 13 => (fun v _ w' => Row w' v [(.int .i64 (x : Int))]) | _ => fun _ _ _ => True) (KX wr.heap.size (Value.slice uo row.length uk).ownBlock.toList) 14 (by kernel_rfl) (by rfl) (by kernel_rfl) (by rfl) ?_ ?_ ?_ ?_
              · refine ⟨?_, ?_, ?_, ?_, ?_, ?_, ?_, ?_, ?_, ?_, ?_, ?_, ?_, ?_, ?_, trivial⟩
                · intro A w' K vals h hn hT hgk hK0
                  have r0 : A.tmps[4]?.getD undef = .pointer (some ⟨qL, 0, none⟩) := Rg.slot h.1
                  clear h hn hT hgk
                  simp [Oper.wp, execOp, go_sem, r0]
                  exact hK0 _ _ (Rk.Keeps.refl _ _) rfl trivial
                · intro A w' K vals h hn hT hgk hK0
                  have r0 : A.tmps[60]?.getD undef = vals 0 := Rg.slot h.1
                  have s0 : vals 0 = .pointer (some ⟨qL, 0, none⟩) := hn.1
                  clear h hn hT hgk
                  simp [Oper.wp, execOp, go_sem, r0, s0]
                  exact hK0 _ _ (Rk.Keeps.refl _ _) rfl trivial
                · intro A w' K vals h hn hT hgk hK0
                  have r0 : A.tmps[61]?.getD undef = vals 1 := Rg.slot h.1
                  have s0 : vals 1 = .pointer (some ⟨qL, 0, none⟩) := hn.1
                  clear h hn hT hgk
                  simp [Oper.wp, execOp, go_sem, r0, s0]
                  exact hK0 _ _ (Rk.Keeps.refl _ _) rfl trivial
                · intro A w' K vals h hn hT hgk hK0
                  have r0 : A.tmps[62]?.getD undef = vals 2 := Rg.slot (h.1)
                  have r1 : vals 2 = (.pointer (some ⟨qL, 8, none⟩)) := hn.1
                  have c : w'.cell? ⟨qL, 8, none⟩ = some (.slice (some ⟨pB, 0, none⟩) n n) := (kx_box hgk HL.out.lbox HL.out.lbox.lt (HUX.out qL HL.out.his.1)).cell 8 _ rfl
                  clear h hn hT hgk
                  simp [Oper.wp, execOp, go_sem, r0, r1, c]
                  exact hK0 _ _ (Rk.Keeps.refl _ _) rfl trivial
                · intro A w' K vals h hn hT hgk hK0
                  have r0 : A.tmps[8]?.getD undef = .int .i64 (mn : Int) := Rg.slot h.1
                  clear h hn hT hgk
                  simp [Oper.wp, execOp, go_sem, r0]
                  exact hK0 _ _ (Rk.Keeps.refl _ _) rfl trivial
                · intro A w' K vals h hn hT hgk hK0
                  have r0 : A.tmps[4]?.getD undef = .pointer (some ⟨qL, 0, none⟩) := Rg.slot h.1
                  clear h hn hT hgk
                  simp [Oper.wp, execOp, go_sem, r0]
                  exact hK0 _ _ (Rk.Keeps.refl _ _) rfl trivial
                · intro A w' K vals h hn hT hgk hK0
                  have r0 : A.tmps[65]?.getD undef = vals 5 := Rg.slot h.1
                  have s0 : vals 5 = .pointer (some ⟨qL, 0, none⟩) := hn.1
                  clear h hn hT hgk
                  simp [Oper.wp, execOp, go_sem, r0, s0]
                  exact hK0 _ _ (Rk.Keeps.refl _ _) rfl trivial
                · intro A w' K vals h hn hT hgk hK0
                  have r0 : A.tmps[66]?.getD undef = vals 6 := Rg.slot h.1
                  have s0 : vals 6 = .pointer (some ⟨qL, 0, none⟩) := hn.1
                  clear h hn hT hgk
                  simp [Oper.wp, execOp, go_sem, r0, s0]
                  exact hK0 _ _ (Rk.Keeps.refl _ _) rfl trivial
                · intro A w' K vals h hn hT hgk hK0
                  have r0 : A.tmps[67]?.getD undef = vals 7 := Rg.slot (h.1)
                  have r1 : vals 7 = (.pointer (some ⟨qL, 8, none⟩)) := hn.1
                  have c : w'.cell? ⟨qL, 8, none⟩ = some (.slice (some ⟨pB, 0, none⟩) n n) := (kx_box hgk HL.out.lbox HL.out.lbox.lt (HUX.out qL HL.out.his.1)).cell 8 _ rfl
                  clear h hn hT hgk
                  simp [Oper.wp, execOp, go_sem, r0, r1, c]
                  exact hK0 _ _ (Rk.Keeps.refl _ _) rfl trivial
                · intro A w' K vals h hn hT hgk hK0
                  have r0 : A.tmps[8]?.getD undef = .int .i64 (mn : Int) := Rg.slot h.1
                  clear h hn hT hgk
                  simp [Oper.wp, execOp, go_sem, r0]
                  exact hK0 _ _ (Rk.Keeps.refl _ _) rfl trivial
                · intro A w' K vals h hn hT hgk hK0
                  have r0 : A.tmps[68]?.getD undef = vals 8 := Rg.slot h.1
                  have s0 : vals 8 = .slice (some ⟨pB, 0, none⟩) n n := hn.1
                  have r1 : A.tmps[69]?.getD undef = vals 9 := Rg.slot h.2.1
                  have s1 : vals 9 = .int .i64 (mn : Int) := hn.2.1
                  clear h hn hT hgk
                  simp [Oper.wp, execOp, go_sem, r0, r1, s0, s1, HMN.out]
                  exact hK0 _ _ (Rk.Keeps.refl _ _) rfl trivial
                · intro A w' K vals h hn hT hgk hK0
                  have r0 : A.tmps[70]?.getD undef = vals 10 := Rg.slot (h.1)
                  have r1 : vals 10 = (.pointer (some ⟨pB, mn, none⟩)) := hn.1
                  have c : w'.cell? ⟨pB, mn, none⟩ = some (.slice uo row.length uk) := (kx_box hgk HL.out.head HL.out.head.lt (HUX.out pB HL.out.his.2.2.1)).cell mn _ (by rw [List.getElem?_toArray]; exact HU.out)
                  clear h hn hT hgk
                  simp [Oper.wp, execOp, go_sem, r0, r1, c]
                  exact hK0 _ _ (Rk.Keeps.refl _ _) rfl trivial
                · intro A w' K vals h hn hT hgk hK0
                  have r0 : A.tmps[6]?.getD undef = .int .i64 (x : Int) := Rg.slot h.1
                  clear h hn hT hgk
                  simp [Oper.wp, execOp, go_sem, r0]
                  exact hK0 _ _ (Rk.Keeps.refl _ _) rfl trivial
                · intro A w' K vals h hn hT hgk hK0
                  have r0 : A.tmps[72]?.getD undef = vals 12 := Rg.slot h.1
                  have s0 : vals 12 = (.int .i64 (x : Int)) := hn.1
                  clear h hn hT hgk
                  simp [Oper.wp, execOp, go_sem, r0, s0]
                  exact hK0 _ _ (Rk.keep_of (World.grownBy_alloc _ _ _)) trivial (row_one _ _ _)
                · intro A w' K vals h hn hT hgk hK0
                  have r0 : A.tmps[71]?.getD undef = vals 11 := Rg.slot h.1
                  have r1 : A.tmps[73]?.getD undef = vals 13 := Rg.slot h.2.1
                  have s0 : vals 11 = (.slice uo row.length uk) := hn.1
                  have hrow : Row w' (vals 13) [(.int .i64 (x : Int))] := (hT rfl).2.1
                  have hg := Rk.grown_of hgk
                  have hsz := hgk.size
                  have hbig := HL.out.big
                  have own : w'.ownsRow N 3 1 (.slice uo row.length uk) row.length (row.map (Value.int .i64)) := own_grown HOU.out hg
                  obtain ⟨v', w'', hrun, hown, hgr, hat⟩ := run_append elInt 30 own hrow (by intro u hu; simp at hu; subst hu; rfl) (by simp; omega) (by simp; omega) (by omega)
                  clear h hn hT hgk
                  refine op_append rfl (by simp [Act.eval, r0, s0]) (by simp [Act.eval, r1]) hrun (hK0 _ _ (kx_grown hgr (fun k e => .inl (by rw [e]; simp))) ⟨?_, ?_⟩ trivial)
                  · unfold OwnI
                    simpa using hown
                  · rcases hat with h | h
                    · exact .inl h
                    · exact .inr ⟨_, h, hsz⟩
              · refine ⟨?_, ?_, ?_, ?_, ?_, ?_, ?_, ?_, ?_, ?_, ?_, ?_, ?_, ?_, ?_, trivial⟩
                · exact fun _ _ _ _ _ _ h => h
                · exact fun _ _ _ _ _ _ h => h
                · exact fun _ _ _ _ _ _ h => h
                · exact fun _ _ _ _ _ _ h => h
                · exact fun _ _ _ _ _ _ h => h
                · exact fun _ _ _ _ _ _ h => h
                · exact fun _ _ _ _ _ _ h => h
                · exact fun _ _ _ _ _ _ h => h
                · exact fun _ _ _ _ _ _ h => h
                · exact fun _ _ _ _ _ _ h => h
                · exact fun _ _ _ _ _ _ h => h
                · exact fun _ _ _ _ _ _ h => h
                · exact fun _ _ _ _ _ _ h => h
                · exact fun _ _ _ _ _ _ h => h
                · exact fun _ _ _ _ _ h ⟨ho, hb⟩ => ⟨own_grown ho (Rk.grown_of h), hb⟩
              · intro k v ds w w' hk h
                match k, h with
                | 13, h => exact Row.grown h (Rk.grown_of hk)
                | 0, _ | 1, _ | 2, _ | 3, _ | 4, _ | 5, _ | 6, _ | 7, _ | 8, _ | 9, _ | 10, _ | 11, _ | 12, _ | _ + 14, _ => trivial
              · intro vals w2 G hg hS hG
                obtain ⟨hown, hat⟩ : OwnI w2 N (vals 14) (row ++ [(x : Int)]) ∧ ((vals 14).ownBlock = (Value.slice uo row.length uk).ownBlock ∨ ∃ b, (vals 14).ownBlock = some b ∧ wr.heap.size ≤ b) := hS.2.2.2.2.2.2.2.2.2.2.2.2.2.2.1
                have s3 : vals 3 = (.slice (some ⟨pB, 0, none⟩) n n) := hS.2.2.2.1
                have s4 : vals 4 = (.int .i64 (mn : Int)) := hS.2.2.2.2.1
                clear hS
                obtain ⟨vo, vk, s14, -⟩ := own_at hown
                rw [s14] at hown hat
                have hgr : wr.grownBy w2 (Value.slice uo row.length uk).ownBlock := ⟨hg.os, hg.tape, hg.output, hg.size, fun k hk hne => by
                  have := hg.block k _ (Array.getElem?_eq_getElem hk) ⟨hk, fun e => hne (by
                    cases hb : (Value.slice uo row.length uk).ownBlock with
                    | none => rw [hb] at e; simp at e
                    | some b => rw [hb] at e; simp at e; rw [e])⟩
                  rw [this]
                  exact (Array.getElem?_eq_getElem hk).symm⟩
                have HL4 := HL.out.push HU.out HRL.out hgr hown hat (by simp)
                have hB := kx_box hg HL.out.head HL.out.head.lt (HUX.out pB HL.out.his.2.2.1)
                have c0 : w2.cell? ⟨pB, mn, none⟩ = some (.slice uo row.length uk) := hB.cell mn _ (by rw [List.getElem?_toArray]; exact HU.out)
                have f0 := hB.frozen mn
                rw [← HPU.out] at HL4
                have HL4 := Lib.hid HL4
                have hbg := kx_box hg HBG.out HBG.out.lt (HUX.out qg HQG.out)
                have HBG := Lib.hid (hbg.far (p := ⟨pB, mn, none⟩) (hbg.ne hB (by decide)) (.slice vo (row ++ [(x : Int)]).length vk))
                clear hB hbg hg hgr hown hat
                refine hG ?_
                clear hG
                simp [Rg.putAll, s14, s3, s4]
                clear s14 s3 s4
                simp only [List.length_append, List.length_cons, List.length_nil, Nat.zero_add] at HL4 HBG
                have hmi : (mn : Int) < (n : Int) := by have := HMN.out; omega
                have hm0 : (0 : Int) ≤ (mn : Int) := Int.natCast_nonneg _
                go_wp2_with fail
                clear c0 f0
                go_roundw
                case rel => exact ⟨j + 1, _, by omega, by first | rfl | go_num, HL4.out, HBG.out⟩
                case measure => simp [intOf]; omega
            · have fj : decide ((j : Int) < (ms.length : Int)) = false := decide_eq_false (by omega)
              have htj : ms.take j = ms := List.take_of_length_le (by omega)
              have HREL := Lib.hid (show Lm w N n qL pt pB pp pw qo ko (.slice (some ⟨ba, oa, none⟩) n ka) (.slice (some ⟨bb, ob, none⟩) n kb) (.slice (some ⟨bc_, oc, none⟩) n kc) g.tups O (P.prv n (P.pairs g (O.take (k + 1)))) L (List.replicate n .zero) m3 W3 wr from by
                have ht : O.take (k + 1) = O.take k ++ [x] := by
                  have hkl : k < O.length := by rw [HO.out.len]; exact hlt
                  rw [List.take_succ_eq_append_getElem hkl]
                  have h1 := HX.out
                  rw [List.getElem?_eq_getElem hkl] at h1
                  injection h1 with h1
                  rw [h1]
                have h := HL.out
                rw [htj] at h
                rw [ht, P.pairs_snoc, HMS.out, HPS.out]
                exact h)
              clear htj
              go_wp2_with fail
              go_roundw
              case rel => exact ⟨k + 1, L, m3, W3, by omega, by first | rfl | go_num, HREL.out, HM3.out, HW3.out, HBG.out⟩
              case measure => simp [intOf]; omega
      · have fk : decide ((k : Int) < (n : Int)) = false := decide_eq_false (by omega)
        have hkn : k = n := by omega
        have HREL := Lib.hid (show Begun w g n (.slice (some ⟨ba, oa, none⟩) n ka) (.slice (some ⟨bb, ob, none⟩) n kb) (.slice (some ⟨bc_, oc, none⟩) n kc) (.returned (.pointer (some ⟨qL, 0, none⟩))) wr from by
          have h := HL.out
          have ho := HO.out.len
          rw [List.take_of_length_le (by omega)] at h
          exact ⟨N, qL, pt, pB, pp, pw, qo, ko, O, L, m, Wt, rfl, HO.out, h, fun i x hx => HM.out i x (by have := (List.getElem?_eq_some_iff.1 hx).1; omega) hx, fun i hi => HWT.out i (by omega)⟩)
        go_wp2_with fail
        go_ret
        exact HREL.out
end W
end Go.Proofs.Yteeaojciobmcaaa
