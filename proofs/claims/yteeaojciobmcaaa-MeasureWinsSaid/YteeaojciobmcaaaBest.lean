/- Of the moves of a position the best: the document's. -/
import Derived.Test.YteeaojciobmcaaaRUpA
import Derived.Test.YteeaojciobmcaaaRCmp
import Derived.Test.YteeaojciobmcaaaChoose
import Derived.Test.YteeaojciobmcaaaInwd
import Derived.Deep.Cut
import Derived.Lib.Hide
import Derived.Deep.QuietTactic
import Derived.BigQuiet
namespace Go.Proofs.Yteeaojciobmcaaa
open Go.RowKit
namespace W

theorem pick_snoc (n : P.Tup) (o p : Int) (l : List P.Tup) (x : Int) : ∀ (xs : List Int) (m : Int × P.Tup), P.pick n o p l (xs ++ [x]) m = if (P.pick n o p l xs m).1 = -1 ∨ P.better o (P.Tup.up n p (P.tget l x)) (P.pick n o p l xs m).2 = true then (x, P.Tup.up n p (P.tget l x)) else P.pick n o p l xs m
  | [], m => by
    rw [List.nil_append, P.pick, P.pick, P.pick]
  | y :: xs, m => by
    rw [List.cons_append, P.pick, P.pick]
    exact pick_snoc n o p l x xs _
theorem grown_st (t : P.Tup) {w : World} {q : Nat} : w.grownBy (((((w.setCell ⟨q, 0, none⟩ (.bool t.top)).setCell ⟨q, 1, none⟩ (.int .i64 t.a)).setCell ⟨q, 2, none⟩ (.int .i64 t.b)).setCell ⟨q, 3, none⟩ (.int .i64 t.c)).setCell ⟨q, 4, none⟩ (.int .i64 t.d)) (some q) := ((((grown_set w ⟨q, 0, none⟩ (.bool t.top)).trans (grown_set _ ⟨q, 1, none⟩ (.int .i64 t.a))).trans (grown_set _ ⟨q, 2, none⟩ (.int .i64 t.b))).trans (grown_set _ ⟨q, 3, none⟩ (.int .i64 t.c))).trans (grown_set _ ⟨q, 4, none⟩ (.int .i64 t.d))
set_option maxRecDepth 100000 in
set_option maxHeartbeats 4000000 in
theorem best_any (g : P.G) (hr : g.Right) (l : List P.Tup) (hll : l.length = g.owner.length) (hlow : ∀ j k, k < 4 → -9223372036854775808 ≤ ct (l.getD j .zero) k) (i : Nat) (hi : i < g.owner.length) (v vl : Value) (w : World) (hv : GameV w v g) (hV : TupsV w vl l) :
    Calls Try.prog 43 #[v, vl, .int .i64 (i : Int)] w fun e w' => e = .returned (.agg (tc (g.choose l i).2)) ∧ Below w.heap.size w w' := by
  have hop := hr.prio
  have hmp := hr.moves
  have hmany := hr.many
  have h0 := hr.pos
  have hat := hr.at i hi
  have hmv := hr.moves_in hi
  obtain ⟨n, hn⟩ : ∃ n, g.owner.length = n := ⟨_, rfl⟩
  rw [hn] at hop hmp hmany h0 hll hi hat hmv
  have HV := Lib.hid hv
  obtain ⟨ba, oa, ka, bb, ob, kb, bc_, oc, kc, rfl, hca, hcb, hcc⟩ := hv.open_ hn hop hmp h0
  obtain ⟨bm, om, km, hrow⟩ := rows_of hr hn hcc i hi
  obtain ⟨bl, ol, kl, rfl, -, hcl⟩ := hV.open_ hll h0
  obtain ⟨ms, hms⟩ : ∃ ms, g.moves.getD i [] = ms := ⟨_, rfl⟩
  obtain ⟨pz, hpz⟩ : ∃ pz, g.prio.getD i 0 = pz := ⟨_, rfl⟩
  obtain ⟨oz, hoz⟩ : ∃ oz, g.owner.getD i 0 = oz := ⟨_, rfl⟩
  rw [hms] at hrow hat hmv
  rw [hpz, hoz] at hat
  have HCA := Lib.hid (fun w' hw' => hca w' hw' i hi)
  have HCB := Lib.hid (fun w' hw' => hcb w' hw' i hi)
  rw [hoz] at HCA
  rw [hpz] at HCB
  have HRW := Lib.hid hrow
  have HCLL := Lib.hid hcl
  have HR := Lib.hid hr
  have HN := Lib.hid hn
  have HMS := Lib.hid hms
  have HMI := Lib.hid hmv
  have HLOW := Lib.hid hlow
  have HPZ : Hid (-9223372036854775808 ≤ pz ∧ pz ≤ 9223372036854775807) := Lib.hid (by omega)
  have HPZE := Lib.hid hpz
  have HOZ := Lib.hid hoz
  have HOW := Lib.hid hat.1
  have HKL := Lib.hid (show 0 < ms.length from List.length_pos_iff.2 hat.2.2.2.1)
  have hmsl : ms.length ≤ 200 := P.rise_len hat.2.2.2.2 hmany
  have ha0 : (0 : Int) ≤ (i : Int) := Int.natCast_nonneg _
  have hai : (i : Int) < (n : Int) := by omega
  have hki : 0 < ms.length := HKL.out
  clear hca hcb hcc hr hn hop hmp hv hV hll hi hat hmv hrow hcl hms hpz hoz hlow
  obtain ⟨mz, hmz⟩ : ∃ mz, ms.getD 0 0 = mz := ⟨_, rfl⟩
  have hmb2 := HMI.out (ms.getD 0 0) (by rw [List.getD_eq_getElem?_getD, List.getElem?_eq_getElem HKL.out]; exact List.getElem_mem HKL.out)
  have htk : ms.take (0 + 1) = ms.take 0 ++ [ms.getD 0 0] := by
    rw [List.take_succ_eq_append_getElem HKL.out, List.getD_eq_getElem?_getD, List.getElem?_eq_getElem HKL.out]
    rfl
  rw [hmz] at hmb2 htk
  obtain ⟨mn, rfl⟩ := Int.eq_ofNat_of_zero_le (show 0 ≤ mz by omega)
  have hmi : (mn : Int) < (n : Int) := hmb2.2
  have hm0 : (0 : Int) ≤ (mn : Int) := hmb2.1
  have HTK := Lib.hid htk
  have HPM := Lib.hid hmz
  obtain ⟨t, ht⟩ : ∃ t, l.getD mn .zero = t := ⟨_, rfl⟩
  have HT0 := Lib.hid ht
  have HTB := Lib.hid (show ∀ k, k < 4 → -9223372036854775808 ≤ ct t k from fun k hk => by rw [← ht]; exact HLOW.out mn k hk)
  have HCL := Lib.hid (fun w' hw' => HCLL.out w' hw' mn (by omega))
  rw [ht] at HCL
  obtain ⟨u, hu⟩ : ∃ u, P.Tup.up g.tups pz t = u := ⟨_, rfl⟩
  have HU0 := Lib.hid hu
  have HU := HU0
  clear hmz hmb2 htk ht hu
  go_enter Try.func43, Try.ntmps43
  go_wp2_with fail
  rw [show #[.bool false, .int .i64 0, .int .i64 0, .int .i64 0, .int .i64 0] = tc .zero from rfl]
  have bx0 : Box ((w.alloc (.cells #[.slice (some ⟨ba, oa, none⟩) n ka, .slice (some ⟨bb, ob, none⟩) n kb, .slice (some ⟨bc_, oc, none⟩) n kc] 33)).alloc (.cells (tc .zero) 24)) (w.heap.size) 33 #[.slice (some ⟨ba, oa, none⟩) n ka, .slice (some ⟨bb, ob, none⟩) n kb, .slice (some ⟨bc_, oc, none⟩) n kc] := Box.alloc (Box.new w 33 #[.slice (some ⟨ba, oa, none⟩) n ka, .slice (some ⟨bb, ob, none⟩) n kb, .slice (some ⟨bc_, oc, none⟩) n kc]) (.cells (tc .zero) 24)
  have bx1 : Box ((w.alloc (.cells #[.slice (some ⟨ba, oa, none⟩) n ka, .slice (some ⟨bb, ob, none⟩) n kb, .slice (some ⟨bc_, oc, none⟩) n kc] 33)).alloc (.cells (tc .zero) 24)) (w.heap.size + 1) 24 (tc .zero) := by
    have := Box.new (w.alloc (.cells #[.slice (some ⟨ba, oa, none⟩) n ka, .slice (some ⟨bb, ob, none⟩) n kb, .slice (some ⟨bc_, oc, none⟩) n kc] 33)) 24 (tc .zero)
    simpa using this
  have hbq : Below w.heap.size w ((w.alloc (.cells #[.slice (some ⟨ba, oa, none⟩) n ka, .slice (some ⟨bb, ob, none⟩) n kb, .slice (some ⟨bc_, oc, none⟩) n kc] 33)).alloc (.cells (tc .zero) 24)) := ((Below.refl _ w).alloc (Nat.le_refl _) _).alloc (by simp) _
  have lt0 : w.heap.size < w.heap.size + 1 := Nat.lt_succ_self _
  have hle0 : w.heap.size ≤ w.heap.size := Nat.le_refl _
  generalize ((w.alloc (.cells #[.slice (some ⟨ba, oa, none⟩) n ka, .slice (some ⟨bb, ob, none⟩) n kb, .slice (some ⟨bc_, oc, none⟩) n kc] 33)).alloc (.cells (tc .zero) 24)) = w0 at bx0 bx1 hbq  ⊢
  have BQg := Lib.hid bx0
  have BQr := Lib.hid bx1
  have W := Lib.hid hbq
  have LTgr := Lib.hid lt0
  have LEg := Lib.hid hle0
  clear hbq hle0 bx0 bx1 lt0
  generalize w.heap.size + 1 = qr at BQr LTgr ⊢
  obtain ⟨qg, hqg⟩ : ∃ qg, w.heap.size = qg := ⟨_, rfl⟩
  rw [hqg] at BQg LTgr ⊢
  have LEg : Hid (w.heap.size ≤ qg) := Lib.hid (by omega)
  clear hqg
  have LTQ := Lib.hid (show qg < qr ∧ w.heap.size ≤ qr by have h1 := LTgr.out; have h2 := LEg.out; omega)
  refine Rt.wp_region_tail 1 (fun idx => match idx with | 0 => (fun v _ _ => v = .agg #[.slice (some ⟨ba, oa, none⟩) n ka, .slice (some ⟨bb, ob, none⟩) n kb, .slice (some ⟨bc_, oc, none⟩) n kc]) | 1 => (fun v _ _ => v = (.pointer (some ⟨qg, 1, none⟩))) | 2 => (fun v _ _ => v = (.slice (some ⟨bb, ob, none⟩) n kb)) | 3 => (fun v _ _ => v = (.int .i64 (i : Int))) | 4 => (fun v _ _ => v = (.pointer (some ⟨bb, ob + i, none⟩))) | 5 => (fun v _ _ => v = (.int .i64 pz)) | 6 => (fun v _ _ => v = (.slice (some ⟨bl, ol, none⟩) n kl)) | 7 => (fun v _ _ => v = (.pointer (some ⟨qg, 2, none⟩))) | 8 => (fun v _ _ => v = (.slice (some ⟨bc_, oc, none⟩) n kc)) | 9 => (fun v _ _ => v = (.int .i64 (i : Int))) | 10 => (fun v _ _ => v = (.pointer (some ⟨bc_, oc + i, none⟩))) | 11 => (fun v _ _ => v = (.slice (some ⟨bm, om, none⟩) ms.length km)) | 12 => (fun v _ _ => v = (.pointer (some ⟨bm, om, none⟩))) | 13 => (fun v _ _ => v = (.int .i64 (mn : Int))) | 14 => (fun v _ _ => v = (.pointer (some ⟨bl, ol + mn * 5, none⟩))) | 15 => (fun v _ _ => v = .agg #[.bool t.top, .int .i64 t.a, .int .i64 t.b, .int .i64 t.c, .int .i64 t.d]) | 16 => (fun v _ _ => v = .agg (tc u)) | 17 => (fun v _ w' => ∃ q, v = .pointer (some ⟨q, 0, none⟩) ∧ w0.heap.size ≤ q ∧ Box w' q 24 (tc .zero)) | _ => fun _ _ _ => True) (fun _ _ _ _ => True) (Rk.allK) 99 (by kernel_rfl) (by rfl) (by kernel_rfl) (by rfl) ?_ ?_ ?_ ?_
  · refine ⟨?_, ?_, ?_, ?_, ?_, ?_, ?_, ?_, ?_, ?_, ?_, ?_, ?_, ?_, ?_, ?_, ?_, ?_, trivial⟩
    · intro A w' K vals h hn hT hgk hK0
      have r0 : A.tmps[3]?.getD undef = .pointer (some ⟨qg, 0, none⟩) := Rg.slot h.1
      have hbx := BQg.out.keep (Rk.grown_of hgk)
      have c0 : w'.cell? ⟨qg, 0, none⟩ = some (.slice (some ⟨ba, oa, none⟩) n ka) := hbx.cell 0 _ rfl
      have c1 : w'.cell? ⟨qg, 1, none⟩ = some (.slice (some ⟨bb, ob, none⟩) n kb) := hbx.cell 1 _ rfl
      have c2 : w'.cell? ⟨qg, 2, none⟩ = some (.slice (some ⟨bc_, oc, none⟩) n kc) := hbx.cell 2 _ rfl
      clear h hn hT hgk hbx
      simp [Oper.wp, execOp, go_sem, r0, c0, c1, c2]
      exact hK0 _ _ (Rk.Keeps.refl _ _) rfl trivial
    · intro A w' K vals h hn hT hgk hK0
      have r0 : A.tmps[3]?.getD undef = .pointer (some ⟨qg, 0, none⟩) := Rg.slot h.1
      clear h hn hT hgk
      simp [Oper.wp, execOp, go_sem, r0]
      exact hK0 _ _ (Rk.Keeps.refl _ _) rfl trivial
    · intro A w' K vals h hn hT hgk hK0
      have r0 : A.tmps[12]?.getD undef = vals 1 := Rg.slot (h.1)
      have r1 : vals 1 = (.pointer (some ⟨qg, 1, none⟩)) := hn.1
      have hbx := BQg.out.keep (Rk.grown_of hgk)
      have c0 : w'.cell? ⟨qg, 1, none⟩ = some (.slice (some ⟨bb, ob, none⟩) n kb) := hbx.cell 1 _ rfl
      clear h hn hT hgk hbx
      simp [Oper.wp, execOp, go_sem, r0, r1, c0]
      exact hK0 _ _ (Rk.Keeps.refl _ _) rfl trivial
    · intro A w' K vals h hn hT hgk hK0
      have r0 : A.tmps[2]?.getD undef = .int .i64 (i : Int) := Rg.slot h.1
      clear h hn hT hgk
      simp [Oper.wp, execOp, go_sem, r0]
      exact hK0 _ _ (Rk.Keeps.refl _ _) rfl trivial
    · intro A w' K vals h hn hT hgk hK0
      have r0 : A.tmps[13]?.getD undef = vals 2 := Rg.slot h.1
      have s0 : vals 2 = (.slice (some ⟨bb, ob, none⟩) n kb) := hn.1
      have r1 : A.tmps[14]?.getD undef = vals 3 := Rg.slot h.2.1
      have s1 : vals 3 = (.int .i64 (i : Int)) := hn.2.1
      clear h hn hT hgk
      simp [Oper.wp, execOp, go_sem, r0, r1, s0, s1, hai, ha0]
      exact hK0 _ _ (Rk.Keeps.refl _ _) rfl trivial
    · intro A w' K vals h hn hT hgk hK0
      have r0 : A.tmps[15]?.getD undef = vals 4 := Rg.slot (h.1)
      have r1 : vals 4 = (.pointer (some ⟨bb, ob + i, none⟩)) := hn.1
      have c : w'.cell? ⟨bb, ob + i, none⟩ = some (.int .i64 pz) := HCB.out w' (W.out.trans ((below_of_grown (Rk.grown_of hgk)).mono W.out.size))
      clear h hn hT hgk
      simp [Oper.wp, execOp, go_sem, r0, r1, c]
      exact hK0 _ _ (Rk.Keeps.refl _ _) rfl trivial
    · intro A w' K vals h hn hT hgk hK0
      have r0 : A.tmps[1]?.getD undef = .slice (some ⟨bl, ol, none⟩) n kl := Rg.slot h.1
      clear h hn hT hgk
      simp [Oper.wp, execOp, go_sem, r0]
      exact hK0 _ _ (Rk.Keeps.refl _ _) rfl trivial
    · intro A w' K vals h hn hT hgk hK0
      have r0 : A.tmps[3]?.getD undef = .pointer (some ⟨qg, 0, none⟩) := Rg.slot h.1
      clear h hn hT hgk
      simp [Oper.wp, execOp, go_sem, r0]
      exact hK0 _ _ (Rk.Keeps.refl _ _) rfl trivial
    · intro A w' K vals h hn hT hgk hK0
      have r0 : A.tmps[18]?.getD undef = vals 7 := Rg.slot (h.1)
      have r1 : vals 7 = (.pointer (some ⟨qg, 2, none⟩)) := hn.1
      have hbx := BQg.out.keep (Rk.grown_of hgk)
      have c0 : w'.cell? ⟨qg, 2, none⟩ = some (.slice (some ⟨bc_, oc, none⟩) n kc) := hbx.cell 2 _ rfl
      clear h hn hT hgk hbx
      simp [Oper.wp, execOp, go_sem, r0, r1, c0]
      exact hK0 _ _ (Rk.Keeps.refl _ _) rfl trivial
    · intro A w' K vals h hn hT hgk hK0
      have r0 : A.tmps[2]?.getD undef = .int .i64 (i : Int) := Rg.slot h.1
      clear h hn hT hgk
      simp [Oper.wp, execOp, go_sem, r0]
      exact hK0 _ _ (Rk.Keeps.refl _ _) rfl trivial
    · intro A w' K vals h hn hT hgk hK0
      have r0 : A.tmps[19]?.getD undef = vals 8 := Rg.slot h.1
      have s0 : vals 8 = (.slice (some ⟨bc_, oc, none⟩) n kc) := hn.1
      have r1 : A.tmps[20]?.getD undef = vals 9 := Rg.slot h.2.1
      have s1 : vals 9 = (.int .i64 (i : Int)) := hn.2.1
      clear h hn hT hgk
      simp [Oper.wp, execOp, go_sem, r0, r1, s0, s1, hai, ha0]
      exact hK0 _ _ (Rk.Keeps.refl _ _) rfl trivial
    · intro A w' K vals h hn hT hgk hK0
      have r0 : A.tmps[21]?.getD undef = vals 10 := Rg.slot (h.1)
      have r1 : vals 10 = (.pointer (some ⟨bc_, oc + i, none⟩)) := hn.1
      have c : w'.cell? ⟨bc_, oc + i, none⟩ = some (.slice (some ⟨bm, om, none⟩) ms.length km) := (HRW.out w' (W.out.trans ((below_of_grown (Rk.grown_of hgk)).mono W.out.size))).1
      clear h hn hT hgk
      simp [Oper.wp, execOp, go_sem, r0, r1, c]
      exact hK0 _ _ (Rk.Keeps.refl _ _) rfl trivial
    · intro A w' K vals h hn hT hgk hK0
      have r0 : A.tmps[22]?.getD undef = vals 11 := Rg.slot h.1
      have s0 : vals 11 = (.slice (some ⟨bm, om, none⟩) ms.length km) := hn.1
      clear h hn hT hgk
      simp [Oper.wp, execOp, go_sem, r0, s0, hki]
      exact hK0 _ _ (Rk.Keeps.refl _ _) rfl trivial
    · intro A w' K vals h hn hT hgk hK0
      have r0 : A.tmps[23]?.getD undef = vals 12 := Rg.slot (h.1)
      have r1 : vals 12 = (.pointer (some ⟨bm, om, none⟩)) := hn.1
      have c : w'.cell? ⟨bm, om, none⟩ = some (.int .i64 (mn : Int)) := (by have h := (HRW.out w' (W.out.trans ((below_of_grown (Rk.grown_of hgk)).mono W.out.size))).2 0 HKL.out; rw [HPM.out] at h; exact h)
      clear h hn hT hgk
      simp [Oper.wp, execOp, go_sem, r0, r1, c]
      exact hK0 _ _ (Rk.Keeps.refl _ _) rfl trivial
    · intro A w' K vals h hn hT hgk hK0
      have r0 : A.tmps[17]?.getD undef = vals 6 := Rg.slot h.1
      have s0 : vals 6 = (.slice (some ⟨bl, ol, none⟩) n kl) := hn.1
      have r1 : A.tmps[24]?.getD undef = vals 13 := Rg.slot h.2.1
      have s1 : vals 13 = (.int .i64 (mn : Int)) := hn.2.1
      clear h hn hT hgk
      simp [Oper.wp, execOp, go_sem, r0, r1, s0, s1, hmi, hm0]
      exact hK0 _ _ (Rk.Keeps.refl _ _) rfl trivial
    · intro A w' K vals h hn hT hgk hK0
      have r0 : A.tmps[25]?.getD undef = vals 14 := Rg.slot h.1
      have s0 : vals 14 = (.pointer (some ⟨bl, ol + mn * 5, none⟩)) := hn.1
      have c0 : w'.cell? ⟨bl, ol + mn * 5, none⟩ = some (.bool t.top) := HCL.out w' (W.out.trans ((below_of_grown (Rk.grown_of hgk)).mono W.out.size)) 0 _ rfl
      have c1 : w'.cell? ⟨bl, ol + mn * 5 + 1, none⟩ = some (.int .i64 t.a) := HCL.out w' (W.out.trans ((below_of_grown (Rk.grown_of hgk)).mono W.out.size)) 1 _ rfl
      have c2 : w'.cell? ⟨bl, ol + mn * 5 + 2, none⟩ = some (.int .i64 t.b) := HCL.out w' (W.out.trans ((below_of_grown (Rk.grown_of hgk)).mono W.out.size)) 2 _ rfl
      have c3 : w'.cell? ⟨bl, ol + mn * 5 + 3, none⟩ = some (.int .i64 t.c) := HCL.out w' (W.out.trans ((below_of_grown (Rk.grown_of hgk)).mono W.out.size)) 3 _ rfl
      have c4 : w'.cell? ⟨bl, ol + mn * 5 + 4, none⟩ = some (.int .i64 t.d) := HCL.out w' (W.out.trans ((below_of_grown (Rk.grown_of hgk)).mono W.out.size)) 4 _ rfl
      clear h hn hT hgk
      simp [Oper.wp, execOp, go_sem, r0, s0, c0, c1, c2, c3, c4]
      exact hK0 _ _ (Rk.Keeps.refl _ _) rfl trivial
    · intro A w' K vals h hn hT hgk hK0
      have r0 : A.tmps[11]?.getD undef = vals 0 := Rg.slot h.2.1
      have r1 : A.tmps[16]?.getD undef = vals 5 := Rg.slot h.2.2.1
      have r2 : A.tmps[26]?.getD undef = vals 15 := Rg.slot h.2.2.2.1
      have s0 : vals 0 = .agg #[.slice (some ⟨ba, oa, none⟩) n ka, .slice (some ⟨bb, ob, none⟩) n kb, .slice (some ⟨bc_, oc, none⟩) n kc] := hn.1
      have s1 : vals 5 = (.int .i64 pz) := hn.2.1
      have s2 : vals 15 = .agg (tc t) := hn.2.2.1
      have hb := (W.out.trans ((below_of_grown (Rk.grown_of hgk)).mono W.out.size))
      clear h hn hT
      simp [Oper.wp, go_sem, r0, r1, r2, s0, s1, s2]
      refine (rup_any g t pz _ w' (HV.out.on hb) HPZ.out HTB.out).mono ?_
      rintro e w'' ⟨rfl, hb⟩
      exact hK0 _ _ (Rk.keep_of (grown_of_below hb _)) (congrArg (fun x => Value.agg (tc x)) HU.out) trivial
    · intro A w' K vals h hn hT hgk hK0
      have hsz := hgk.size
      clear h hn hT
      simp [Oper.wp, execOp, go_sem]
      exact hK0 _ _ (Rk.keep_of (World.grownBy_alloc _ _ _)) ⟨_, rfl, hsz, Box.new _ _ _⟩ trivial
  · refine ⟨?_, ?_, ?_, ?_, ?_, ?_, ?_, ?_, ?_, ?_, ?_, ?_, ?_, ?_, ?_, ?_, ?_, ?_, trivial⟩
    · exact fun _ _ _ _ _ _ h => h
    · exact fun _ _ _ _ _ _ h => h
    · exact fun _ _ _ _ _ _ h => h
    · exact fun _ _ _ _ _ _ h => h
    · exact fun _ _ _ _ _ _ h => h
    · exact fun _ _ _ _ _ _ h => h
    · exact fun _ _ _ _ _ _ h => h
    · exact fun _ _ _ _ _ _ h => h
    · exact fun _ _ _ _ _ _ h => h
    · exact fun _ _ _ _ _ _ h => h
    · exact fun _ _ _ _ _ _ h => h
    · exact fun _ _ _ _ _ _ h => h
    · exact fun _ _ _ _ _ _ h => h
    · exact fun _ _ _ _ _ _ h => h
    · exact fun _ _ _ _ _ _ h => h
    · exact fun _ _ _ _ _ _ h => h
    · exact fun _ _ _ _ _ _ h => h
    · exact fun _ _ _ _ _ h ⟨q, h1, h2, hb⟩ => ⟨q, h1, h2, hb.keep (Rk.grown_of h)⟩
  · exact fun _ _ _ _ _ _ h => h
  · intro vals w8 G hgk hS hG
    have sA : vals 16 = .agg #[.bool u.top, .int .i64 u.a, .int .i64 u.b, .int .i64 u.c, .int .i64 u.d] := hS.2.2.2.2.2.2.2.2.2.2.2.2.2.2.2.2.1
    obtain ⟨qx, sB, hqx, hbx⟩ : ∃ q, vals 17 = .pointer (some ⟨q, 0, none⟩) ∧ w0.heap.size ≤ q ∧ Box w8 q 24 (tc .zero) := hS.2.2.2.2.2.2.2.2.2.2.2.2.2.2.2.2.2.1
    clear hS
    have hb := below_of_grown (Rk.grown_of hgk)
    clear hgk
    have qc0 : w8.cell? ⟨qx, 0, none⟩ = some (.bool false) := hbx.cell 0 _ rfl
    have qc1 : w8.cell? ⟨qx, 1, none⟩ = some (.int .i64 0) := hbx.cell 1 _ rfl
    have qc2 : w8.cell? ⟨qx, 2, none⟩ = some (.int .i64 0) := hbx.cell 2 _ rfl
    have qc3 : w8.cell? ⟨qx, 3, none⟩ = some (.int .i64 0) := hbx.cell 3 _ rfl
    have qc4 : w8.cell? ⟨qx, 4, none⟩ = some (.int .i64 0) := hbx.cell 4 _ rfl
    have qf0 : w8.frozen? ⟨qx, 0, none⟩ = false := hbx.frozen 0
    have qf1 : w8.frozen? ⟨qx, 1, none⟩ = false := hbx.frozen 1
    have qf2 : w8.frozen? ⟨qx, 2, none⟩ = false := hbx.frozen 2
    have qf3 : w8.frozen? ⟨qx, 3, none⟩ = false := hbx.frozen 3
    have qf4 : w8.frozen? ⟨qx, 4, none⟩ = false := hbx.frozen 4
    refine hG ?_
    clear hG
    simp only [List.take, List.drop, List.length, Nat.reduceSub, Nat.reduceAdd, Rg.putAll, Act.put, List.setIfInBounds_toArray, List.set_cons_succ, List.set_cons_zero, sA, sB]
    clear sA sB
    go_wp2_with fail
    clear qc0 qc1 qc2 qc3 qc4 qf0 qf1 qf2 qf3 qf4
    have bx2 := hbx.stT u
    have hlow := W.out.size
    have hrl := BQr.out.lt
    replace BQg := Lib.hid ((BQg.out.keep (grown_of_below hb none)).grown (grown_st u (w := w8) (q := qx)) (fun e => by have := BQg.out.lt; injection e; omega))
    replace BQr := Lib.hid ((BQr.out.keep (grown_of_below hb none)).grown (grown_st u (w := w8) (q := qx)) (fun e => by have := BQr.out.lt; injection e; omega))
    have W := Lib.hid (below_stT (W.out.trans (hb.mono W.out.size)) (q := qx) (by omega) u)
    have LQX := Lib.hid (show qr < qx ∧ qg < qx ∧ w.heap.size ≤ qx by have h1 := LTQ.out; omega)
    clear hb hqx hbx hlow hrl
    generalize (((((w8.setCell ⟨qx, 0, none⟩ (.bool u.top)).setCell ⟨qx, 1, none⟩ (.int .i64 u.a)).setCell ⟨qx, 2, none⟩ (.int .i64 u.b)).setCell ⟨qx, 3, none⟩ (.int .i64 u.c)).setCell ⟨qx, 4, none⟩ (.int .i64 u.d)) = w9 at bx2 BQg BQr W ⊢
    have BQx := Lib.hid bx2
    clear bx2
    go_wp2_with fail
    go_loopw [8] (fun kv wr => ∃ (k : Nat) (mb : Int) (b : P.Tup), 1 ≤ k ∧ k ≤ ms.length ∧ kv = .int .i64 (k : Int) ∧ P.pick g.tups (g.owner.getD i 0) (g.prio.getD i 0) l (ms.take k) (-1, .zero) = (mb, b) ∧ mb ≠ -1 ∧ Box wr qg 33 #[.slice (some ⟨ba, oa, none⟩) n ka, .slice (some ⟨bb, ob, none⟩) n kb, .slice (some ⟨bc_, oc, none⟩) n kc] ∧ Box wr qx 24 (tc b) ∧ Box wr qr 24 (tc .zero) ∧ Below w.heap.size w wr) (fun kv _ => ms.length - (intOf kv).toNat)
    case atStart =>
      refine ⟨1, (mn : Int), u, Nat.le_refl _, HKL.out, rfl, ?_, by omega, BQg.out, BQx.out, BQr.out, W.out⟩
      rw [HTK.out, List.take_zero, List.nil_append, P.pick, if_pos (.inl rfl), P.pick, HPZE.out, P.tget_nat, HT0.out, HU.out]
    case round =>
      obtain ⟨k, mb, b, hk1, hkm, rfl, hpk, hmb, bg, bx, br, hb⟩ := hrel
      have HB := Lib.hid hpk
      have HMB := Lib.hid hmb
      replace BQg := Lib.hid bg
      replace BQx := Lib.hid bx
      replace BQr := Lib.hid br
      replace W := Lib.hid hb
      clear hpk hmb bg bx br hb hm0 hmi hki HTK HPM HKL HCL HU HU0 HTB HT0
      have hk0 : (0 : Int) ≤ (k : Int) := Int.natCast_nonneg _
      have crow := (HRW.out wr W.out).1
      have hbb := BQg.out
      have gc0 : wr.cell? ⟨qg, 0, none⟩ = some (.slice (some ⟨ba, oa, none⟩) n ka) := hbb.cell 0 _ rfl
      have gc1 : wr.cell? ⟨qg, 1, none⟩ = some (.slice (some ⟨bb, ob, none⟩) n kb) := hbb.cell 1 _ rfl
      have gc2 : wr.cell? ⟨qg, 2, none⟩ = some (.slice (some ⟨bc_, oc, none⟩) n kc) := hbb.cell 2 _ rfl
      clear hbb
      by_cases hlt : k < ms.length
      · have fk : decide ((k : Int) < (ms.length : Int)) = true := decide_eq_true (by omega)
        have hki : (k : Int) < (ms.length : Int) := by omega
        have HKL := Lib.hid hlt
        have HKL2 := Lib.hid (show k + 1 ≤ ms.length from hlt)
        obtain ⟨mz, hmz⟩ : ∃ mz, ms.getD k 0 = mz := ⟨_, rfl⟩
        have hmb2 := HMI.out (ms.getD k 0) (by rw [List.getD_eq_getElem?_getD, List.getElem?_eq_getElem HKL.out]; exact List.getElem_mem HKL.out)
        have htk : ms.take (k + 1) = ms.take k ++ [ms.getD k 0] := by
          rw [List.take_succ_eq_append_getElem HKL.out, List.getD_eq_getElem?_getD, List.getElem?_eq_getElem HKL.out]
          rfl
        rw [hmz] at hmb2 htk
        obtain ⟨mn, rfl⟩ := Int.eq_ofNat_of_zero_le (show 0 ≤ mz by omega)
        have hmi : (mn : Int) < (n : Int) := hmb2.2
        have hm0 : (0 : Int) ≤ (mn : Int) := hmb2.1
        have HTK := Lib.hid htk
        have HPM := Lib.hid hmz
        obtain ⟨t, ht⟩ : ∃ t, l.getD mn .zero = t := ⟨_, rfl⟩
        have HT0 := Lib.hid ht
        have HTB := Lib.hid (show ∀ k, k < 4 → -9223372036854775808 ≤ ct t k from fun k hk => by rw [← ht]; exact HLOW.out mn k hk)
        have HCL := Lib.hid (fun w' hw' => HCLL.out w' hw' mn (by omega))
        rw [ht] at HCL
        obtain ⟨u, hu⟩ : ∃ u, P.Tup.up g.tups pz t = u := ⟨_, rfl⟩
        have HU0 := Lib.hid hu
        have HU := HU0
        clear hmz hmb2 htk ht hu
        go_wp2_with fail
        clear crow gc0 gc1 gc2
        refine Rt.wp_region_tail 1 (fun idx => match idx with | 0 => (fun v _ _ => v = .agg #[.slice (some ⟨ba, oa, none⟩) n ka, .slice (some ⟨bb, ob, none⟩) n kb, .slice (some ⟨bc_, oc, none⟩) n kc]) | 1 => (fun v _ _ => v = (.pointer (some ⟨qg, 1, none⟩))) | 2 => (fun v _ _ => v = (.slice (some ⟨bb, ob, none⟩) n kb)) | 3 => (fun v _ _ => v = (.int .i64 (i : Int))) | 4 => (fun v _ _ => v = (.pointer (some ⟨bb, ob + i, none⟩))) | 5 => (fun v _ _ => v = (.int .i64 pz)) | 6 => (fun v _ _ => v = (.slice (some ⟨bl, ol, none⟩) n kl)) | 7 => (fun v _ _ => v = (.pointer (some ⟨qg, 2, none⟩))) | 8 => (fun v _ _ => v = (.slice (some ⟨bc_, oc, none⟩) n kc)) | 9 => (fun v _ _ => v = (.int .i64 (i : Int))) | 10 => (fun v _ _ => v = (.pointer (some ⟨bc_, oc + i, none⟩))) | 11 => (fun v _ _ => v = (.slice (some ⟨bm, om, none⟩) ms.length km)) | 12 => (fun v _ _ => v = (.int .i64 (k : Int))) | 13 => (fun v _ _ => v = (.pointer (some ⟨bm, om + k, none⟩))) | 14 => (fun v _ _ => v = (.int .i64 (mn : Int))) | 15 => (fun v _ _ => v = (.pointer (some ⟨bl, ol + mn * 5, none⟩))) | 16 => (fun v _ _ => v = .agg #[.bool t.top, .int .i64 t.a, .int .i64 t.b, .int .i64 t.c, .int .i64 t.d]) | 17 => (fun v _ _ => v = .agg (tc u)) | 18 => (fun v _ w' => ∃ q, v = .pointer (some ⟨q, 0, none⟩) ∧ wr.heap.size ≤ q ∧ Box w' q 24 (tc .zero)) | _ => fun _ _ _ => True) (fun _ _ _ _ => True) (Rk.allK) 99 (by kernel_rfl) (by rfl) (by kernel_rfl) (by rfl) ?_ ?_ ?_ ?_
        · refine ⟨?_, ?_, ?_, ?_, ?_, ?_, ?_, ?_, ?_, ?_, ?_, ?_, ?_, ?_, ?_, ?_, ?_, ?_, ?_, trivial⟩
          · intro A w' K vals h hn hT hgk hK0
            have r0 : A.tmps[3]?.getD undef = .pointer (some ⟨qg, 0, none⟩) := Rg.slot h.1
            have hbx := BQg.out.keep (Rk.grown_of hgk)
            have c0 : w'.cell? ⟨qg, 0, none⟩ = some (.slice (some ⟨ba, oa, none⟩) n ka) := hbx.cell 0 _ rfl
            have c1 : w'.cell? ⟨qg, 1, none⟩ = some (.slice (some ⟨bb, ob, none⟩) n kb) := hbx.cell 1 _ rfl
            have c2 : w'.cell? ⟨qg, 2, none⟩ = some (.slice (some ⟨bc_, oc, none⟩) n kc) := hbx.cell 2 _ rfl
            clear h hn hT hgk hbx
            simp [Oper.wp, execOp, go_sem, r0, c0, c1, c2]
            exact hK0 _ _ (Rk.Keeps.refl _ _) rfl trivial
          · intro A w' K vals h hn hT hgk hK0
            have r0 : A.tmps[3]?.getD undef = .pointer (some ⟨qg, 0, none⟩) := Rg.slot h.1
            clear h hn hT hgk
            simp [Oper.wp, execOp, go_sem, r0]
            exact hK0 _ _ (Rk.Keeps.refl _ _) rfl trivial
          · intro A w' K vals h hn hT hgk hK0
            have r0 : A.tmps[39]?.getD undef = vals 1 := Rg.slot (h.1)
            have r1 : vals 1 = (.pointer (some ⟨qg, 1, none⟩)) := hn.1
            have hbx := BQg.out.keep (Rk.grown_of hgk)
            have c0 : w'.cell? ⟨qg, 1, none⟩ = some (.slice (some ⟨bb, ob, none⟩) n kb) := hbx.cell 1 _ rfl
            clear h hn hT hgk hbx
            simp [Oper.wp, execOp, go_sem, r0, r1, c0]
            exact hK0 _ _ (Rk.Keeps.refl _ _) rfl trivial
          · intro A w' K vals h hn hT hgk hK0
            have r0 : A.tmps[2]?.getD undef = .int .i64 (i : Int) := Rg.slot h.1
            clear h hn hT hgk
            simp [Oper.wp, execOp, go_sem, r0]
            exact hK0 _ _ (Rk.Keeps.refl _ _) rfl trivial
          · intro A w' K vals h hn hT hgk hK0
            have r0 : A.tmps[40]?.getD undef = vals 2 := Rg.slot h.1
            have s0 : vals 2 = (.slice (some ⟨bb, ob, none⟩) n kb) := hn.1
            have r1 : A.tmps[41]?.getD undef = vals 3 := Rg.slot h.2.1
            have s1 : vals 3 = (.int .i64 (i : Int)) := hn.2.1
            clear h hn hT hgk
            simp [Oper.wp, execOp, go_sem, r0, r1, s0, s1, hai, ha0]
            exact hK0 _ _ (Rk.Keeps.refl _ _) rfl trivial
          · intro A w' K vals h hn hT hgk hK0
            have r0 : A.tmps[42]?.getD undef = vals 4 := Rg.slot (h.1)
            have r1 : vals 4 = (.pointer (some ⟨bb, ob + i, none⟩)) := hn.1
            have c : w'.cell? ⟨bb, ob + i, none⟩ = some (.int .i64 pz) := HCB.out w' (W.out.trans ((below_of_grown (Rk.grown_of hgk)).mono W.out.size))
            clear h hn hT hgk
            simp [Oper.wp, execOp, go_sem, r0, r1, c]
            exact hK0 _ _ (Rk.Keeps.refl _ _) rfl trivial
          · intro A w' K vals h hn hT hgk hK0
            have r0 : A.tmps[1]?.getD undef = .slice (some ⟨bl, ol, none⟩) n kl := Rg.slot h.1
            clear h hn hT hgk
            simp [Oper.wp, execOp, go_sem, r0]
            exact hK0 _ _ (Rk.Keeps.refl _ _) rfl trivial
          · intro A w' K vals h hn hT hgk hK0
            have r0 : A.tmps[3]?.getD undef = .pointer (some ⟨qg, 0, none⟩) := Rg.slot h.1
            clear h hn hT hgk
            simp [Oper.wp, execOp, go_sem, r0]
            exact hK0 _ _ (Rk.Keeps.refl _ _) rfl trivial
          · intro A w' K vals h hn hT hgk hK0
            have r0 : A.tmps[45]?.getD undef = vals 7 := Rg.slot (h.1)
            have r1 : vals 7 = (.pointer (some ⟨qg, 2, none⟩)) := hn.1
            have hbx := BQg.out.keep (Rk.grown_of hgk)
            have c0 : w'.cell? ⟨qg, 2, none⟩ = some (.slice (some ⟨bc_, oc, none⟩) n kc) := hbx.cell 2 _ rfl
            clear h hn hT hgk hbx
            simp [Oper.wp, execOp, go_sem, r0, r1, c0]
            exact hK0 _ _ (Rk.Keeps.refl _ _) rfl trivial
          · intro A w' K vals h hn hT hgk hK0
            have r0 : A.tmps[2]?.getD undef = .int .i64 (i : Int) := Rg.slot h.1
            clear h hn hT hgk
            simp [Oper.wp, execOp, go_sem, r0]
            exact hK0 _ _ (Rk.Keeps.refl _ _) rfl trivial
          · intro A w' K vals h hn hT hgk hK0
            have r0 : A.tmps[46]?.getD undef = vals 8 := Rg.slot h.1
            have s0 : vals 8 = (.slice (some ⟨bc_, oc, none⟩) n kc) := hn.1
            have r1 : A.tmps[47]?.getD undef = vals 9 := Rg.slot h.2.1
            have s1 : vals 9 = (.int .i64 (i : Int)) := hn.2.1
            clear h hn hT hgk
            simp [Oper.wp, execOp, go_sem, r0, r1, s0, s1, hai, ha0]
            exact hK0 _ _ (Rk.Keeps.refl _ _) rfl trivial
          · intro A w' K vals h hn hT hgk hK0
            have r0 : A.tmps[48]?.getD undef = vals 10 := Rg.slot (h.1)
            have r1 : vals 10 = (.pointer (some ⟨bc_, oc + i, none⟩)) := hn.1
            have c : w'.cell? ⟨bc_, oc + i, none⟩ = some (.slice (some ⟨bm, om, none⟩) ms.length km) := (HRW.out w' (W.out.trans ((below_of_grown (Rk.grown_of hgk)).mono W.out.size))).1
            clear h hn hT hgk
            simp [Oper.wp, execOp, go_sem, r0, r1, c]
            exact hK0 _ _ (Rk.Keeps.refl _ _) rfl trivial
          · intro A w' K vals h hn hT hgk hK0
            have r0 : A.tmps[8]?.getD undef = .int .i64 (k : Int) := Rg.slot h.1
            clear h hn hT hgk
            simp [Oper.wp, execOp, go_sem, r0]
            exact hK0 _ _ (Rk.Keeps.refl _ _) rfl trivial
          · intro A w' K vals h hn hT hgk hK0
            have r0 : A.tmps[49]?.getD undef = vals 11 := Rg.slot h.1
            have s0 : vals 11 = (.slice (some ⟨bm, om, none⟩) ms.length km) := hn.1
            have r1 : A.tmps[50]?.getD undef = vals 12 := Rg.slot h.2.1
            have s1 : vals 12 = (.int .i64 (k : Int)) := hn.2.1
            clear h hn hT hgk
            simp [Oper.wp, execOp, go_sem, r0, r1, s0, s1, hki, hk0]
            exact hK0 _ _ (Rk.Keeps.refl _ _) rfl trivial
          · intro A w' K vals h hn hT hgk hK0
            have r0 : A.tmps[51]?.getD undef = vals 13 := Rg.slot (h.1)
            have r1 : vals 13 = (.pointer (some ⟨bm, om + k, none⟩)) := hn.1
            have c : w'.cell? ⟨bm, om + k, none⟩ = some (.int .i64 (mn : Int)) := (by have h := (HRW.out w' (W.out.trans ((below_of_grown (Rk.grown_of hgk)).mono W.out.size))).2 k HKL.out; rw [HPM.out] at h; exact h)
            clear h hn hT hgk
            simp [Oper.wp, execOp, go_sem, r0, r1, c]
            exact hK0 _ _ (Rk.Keeps.refl _ _) rfl trivial
          · intro A w' K vals h hn hT hgk hK0
            have r0 : A.tmps[44]?.getD undef = vals 6 := Rg.slot h.1
            have s0 : vals 6 = (.slice (some ⟨bl, ol, none⟩) n kl) := hn.1
            have r1 : A.tmps[52]?.getD undef = vals 14 := Rg.slot h.2.1
            have s1 : vals 14 = (.int .i64 (mn : Int)) := hn.2.1
            clear h hn hT hgk
            simp [Oper.wp, execOp, go_sem, r0, r1, s0, s1, hmi, hm0]
            exact hK0 _ _ (Rk.Keeps.refl _ _) rfl trivial
          · intro A w' K vals h hn hT hgk hK0
            have r0 : A.tmps[53]?.getD undef = vals 15 := Rg.slot h.1
            have s0 : vals 15 = (.pointer (some ⟨bl, ol + mn * 5, none⟩)) := hn.1
            have c0 : w'.cell? ⟨bl, ol + mn * 5, none⟩ = some (.bool t.top) := HCL.out w' (W.out.trans ((below_of_grown (Rk.grown_of hgk)).mono W.out.size)) 0 _ rfl
            have c1 : w'.cell? ⟨bl, ol + mn * 5 + 1, none⟩ = some (.int .i64 t.a) := HCL.out w' (W.out.trans ((below_of_grown (Rk.grown_of hgk)).mono W.out.size)) 1 _ rfl
            have c2 : w'.cell? ⟨bl, ol + mn * 5 + 2, none⟩ = some (.int .i64 t.b) := HCL.out w' (W.out.trans ((below_of_grown (Rk.grown_of hgk)).mono W.out.size)) 2 _ rfl
            have c3 : w'.cell? ⟨bl, ol + mn * 5 + 3, none⟩ = some (.int .i64 t.c) := HCL.out w' (W.out.trans ((below_of_grown (Rk.grown_of hgk)).mono W.out.size)) 3 _ rfl
            have c4 : w'.cell? ⟨bl, ol + mn * 5 + 4, none⟩ = some (.int .i64 t.d) := HCL.out w' (W.out.trans ((below_of_grown (Rk.grown_of hgk)).mono W.out.size)) 4 _ rfl
            clear h hn hT hgk
            simp [Oper.wp, execOp, go_sem, r0, s0, c0, c1, c2, c3, c4]
            exact hK0 _ _ (Rk.Keeps.refl _ _) rfl trivial
          · intro A w' K vals h hn hT hgk hK0
            have r0 : A.tmps[38]?.getD undef = vals 0 := Rg.slot h.2.1
            have r1 : A.tmps[43]?.getD undef = vals 5 := Rg.slot h.2.2.1
            have r2 : A.tmps[54]?.getD undef = vals 16 := Rg.slot h.2.2.2.1
            have s0 : vals 0 = .agg #[.slice (some ⟨ba, oa, none⟩) n ka, .slice (some ⟨bb, ob, none⟩) n kb, .slice (some ⟨bc_, oc, none⟩) n kc] := hn.1
            have s1 : vals 5 = (.int .i64 pz) := hn.2.1
            have s2 : vals 16 = .agg (tc t) := hn.2.2.1
            have hb := (W.out.trans ((below_of_grown (Rk.grown_of hgk)).mono W.out.size))
            clear h hn hT
            simp [Oper.wp, go_sem, r0, r1, r2, s0, s1, s2]
            refine (rup_any g t pz _ w' (HV.out.on hb) HPZ.out HTB.out).mono ?_
            rintro e w'' ⟨rfl, hb⟩
            exact hK0 _ _ (Rk.keep_of (grown_of_below hb _)) (congrArg (fun x => Value.agg (tc x)) HU.out) trivial
          · intro A w' K vals h hn hT hgk hK0
            have hsz := hgk.size
            clear h hn hT
            simp [Oper.wp, execOp, go_sem]
            exact hK0 _ _ (Rk.keep_of (World.grownBy_alloc _ _ _)) ⟨_, rfl, hsz, Box.new _ _ _⟩ trivial
        · refine ⟨?_, ?_, ?_, ?_, ?_, ?_, ?_, ?_, ?_, ?_, ?_, ?_, ?_, ?_, ?_, ?_, ?_, ?_, ?_, trivial⟩
          · exact fun _ _ _ _ _ _ h => h
          · exact fun _ _ _ _ _ _ h => h
          · exact fun _ _ _ _ _ _ h => h
          · exact fun _ _ _ _ _ _ h => h
          · exact fun _ _ _ _ _ _ h => h
          · exact fun _ _ _ _ _ _ h => h
          · exact fun _ _ _ _ _ _ h => h
          · exact fun _ _ _ _ _ _ h => h
          · exact fun _ _ _ _ _ _ h => h
          · exact fun _ _ _ _ _ _ h => h
          · exact fun _ _ _ _ _ _ h => h
          · exact fun _ _ _ _ _ _ h => h
          · exact fun _ _ _ _ _ _ h => h
          · exact fun _ _ _ _ _ _ h => h
          · exact fun _ _ _ _ _ _ h => h
          · exact fun _ _ _ _ _ _ h => h
          · exact fun _ _ _ _ _ _ h => h
          · exact fun _ _ _ _ _ _ h => h
          · exact fun _ _ _ _ _ h ⟨q, h1, h2, hb⟩ => ⟨q, h1, h2, hb.keep (Rk.grown_of h)⟩
        · exact fun _ _ _ _ _ _ h => h
        · intro vals w8 G hgk hS hG
          have sA : vals 17 = .agg #[.bool u.top, .int .i64 u.a, .int .i64 u.b, .int .i64 u.c, .int .i64 u.d] := hS.2.2.2.2.2.2.2.2.2.2.2.2.2.2.2.2.2.1
          obtain ⟨qy, sB, hqx, hbx⟩ : ∃ q, vals 18 = .pointer (some ⟨q, 0, none⟩) ∧ wr.heap.size ≤ q ∧ Box w8 q 24 (tc .zero) := hS.2.2.2.2.2.2.2.2.2.2.2.2.2.2.2.2.2.2.1
          clear hS
          have hb := below_of_grown (Rk.grown_of hgk)
          clear hgk
          have qc0 : w8.cell? ⟨qy, 0, none⟩ = some (.bool false) := hbx.cell 0 _ rfl
          have qc1 : w8.cell? ⟨qy, 1, none⟩ = some (.int .i64 0) := hbx.cell 1 _ rfl
          have qc2 : w8.cell? ⟨qy, 2, none⟩ = some (.int .i64 0) := hbx.cell 2 _ rfl
          have qc3 : w8.cell? ⟨qy, 3, none⟩ = some (.int .i64 0) := hbx.cell 3 _ rfl
          have qc4 : w8.cell? ⟨qy, 4, none⟩ = some (.int .i64 0) := hbx.cell 4 _ rfl
          have qf0 : w8.frozen? ⟨qy, 0, none⟩ = false := hbx.frozen 0
          have qf1 : w8.frozen? ⟨qy, 1, none⟩ = false := hbx.frozen 1
          have qf2 : w8.frozen? ⟨qy, 2, none⟩ = false := hbx.frozen 2
          have qf3 : w8.frozen? ⟨qy, 3, none⟩ = false := hbx.frozen 3
          have qf4 : w8.frozen? ⟨qy, 4, none⟩ = false := hbx.frozen 4
          refine hG ?_
          clear hG
          simp only [List.take, List.drop, List.length, Nat.reduceSub, Nat.reduceAdd, Rg.putAll, Act.put, List.setIfInBounds_toArray, List.set_cons_succ, List.set_cons_zero, sA, sB]
          clear sA sB
          go_upto_region 6 with (fail)
          clear qc0 qc1 qc2 qc3 qc4 qf0 qf1 qf2 qf3 qf4
          have by2 := hbx.stT u
          have hlow := W.out.size
          replace BQg := Lib.hid ((BQg.out.keep (grown_of_below hb none)).grown (grown_st u (w := w8) (q := qy)) (fun e => by have := BQg.out.lt; injection e; omega))
          replace BQr := Lib.hid ((BQr.out.keep (grown_of_below hb none)).grown (grown_st u (w := w8) (q := qy)) (fun e => by have := BQr.out.lt; injection e; omega))
          replace BQx := Lib.hid ((BQx.out.keep (grown_of_below hb none)).grown (grown_st u (w := w8) (q := qy)) (fun e => by have := BQx.out.lt; injection e; omega))
          have W := Lib.hid (below_stT (W.out.trans (hb.mono W.out.size)) (q := qy) (by omega) u)
          clear hb hqx hbx hlow
          generalize (((((w8.setCell ⟨qy, 0, none⟩ (.bool u.top)).setCell ⟨qy, 1, none⟩ (.int .i64 u.a)).setCell ⟨qy, 2, none⟩ (.int .i64 u.b)).setCell ⟨qy, 3, none⟩ (.int .i64 u.c)).setCell ⟨qy, 4, none⟩ (.int .i64 u.d)) = w9 at by2 BQg BQr BQx W ⊢
          have BQy := Lib.hid by2
          clear by2
          have hbb := BQy.out
          have yc0 : w9.cell? ⟨qy, 0, none⟩ = some (.bool u.top) := hbb.cell 0 _ rfl
          have yc1 : w9.cell? ⟨qy, 1, none⟩ = some (.int .i64 u.a) := hbb.cell 1 _ rfl
          have yc2 : w9.cell? ⟨qy, 2, none⟩ = some (.int .i64 u.b) := hbb.cell 2 _ rfl
          have yc3 : w9.cell? ⟨qy, 3, none⟩ = some (.int .i64 u.c) := hbb.cell 3 _ rfl
          have yc4 : w9.cell? ⟨qy, 4, none⟩ = some (.int .i64 u.d) := hbb.cell 4 _ rfl
          clear hbb
          have hbb := BQx.out
          have xc0 : w9.cell? ⟨qx, 0, none⟩ = some (.bool b.top) := hbb.cell 0 _ rfl
          have xc1 : w9.cell? ⟨qx, 1, none⟩ = some (.int .i64 b.a) := hbb.cell 1 _ rfl
          have xc2 : w9.cell? ⟨qx, 2, none⟩ = some (.int .i64 b.b) := hbb.cell 2 _ rfl
          have xc3 : w9.cell? ⟨qx, 3, none⟩ = some (.int .i64 b.c) := hbb.cell 3 _ rfl
          have xc4 : w9.cell? ⟨qx, 4, none⟩ = some (.int .i64 b.d) := hbb.cell 4 _ rfl
          clear hbb
          go_wp2_with fail
          clear yc0 yc1 yc2 yc3 yc4 xc0 xc1 xc2 xc3 xc4
          refine (rcompare_any u b 0 _).mono ?_
          rintro e w7 ⟨rfl, hb⟩
          replace BQg := Lib.hid (BQg.out.keep (grown_of_below hb none))
          replace BQr := Lib.hid (BQr.out.keep (grown_of_below hb none))
          replace BQx := Lib.hid (BQx.out.keep (grown_of_below hb none))
          replace BQy := Lib.hid (BQy.out.keep (grown_of_below hb none))
          replace W := Lib.hid (W.out.trans (hb.mono W.out.size))
          clear hb
          obtain ⟨cz, hcz⟩ : ∃ c, P.Tup.cmp u b 0 = c := ⟨_, rfl⟩
          have HCZ := Lib.hid hcz
          rw [hcz]
          clear hcz
          have co := HCA.out w7 W.out
          have hbb := BQg.out
          have gc0 : w7.cell? ⟨qg, 0, none⟩ = some (.slice (some ⟨ba, oa, none⟩) n ka) := hbb.cell 0 _ rfl
          have gc1 : w7.cell? ⟨qg, 1, none⟩ = some (.slice (some ⟨bb, ob, none⟩) n kb) := hbb.cell 1 _ rfl
          have gc2 : w7.cell? ⟨qg, 2, none⟩ = some (.slice (some ⟨bc_, oc, none⟩) n kc) := hbb.cell 2 _ rfl
          clear hbb
          rcases HOW.out with rfl | rfl
          · by_cases hc : cz < 0
            · have fc : decide (cz < 0) = true := decide_eq_true hc
              have HPK := Lib.hid (show P.pick g.tups (g.owner.getD i 0) (g.prio.getD i 0) l (ms.take (k + 1)) (-1, .zero) = ((mn : Int), u) from by
                rw [HTK.out, pick_snoc, HB.out, if_pos (.inr (by unfold P.better; rw [HOZ.out, HPZE.out, P.tget_nat, HT0.out, HU.out, HCZ.out, fc]; rfl)), HPZE.out, P.tget_nat, HT0.out, HU.out])
              have HM1 := Lib.hid (show (mn : Int) ≠ -1 by omega)
              clear hc
              have hbb := BQy.out
              have yc0 : w7.cell? ⟨qy, 0, none⟩ = some (.bool u.top) := hbb.cell 0 _ rfl
              have yc1 : w7.cell? ⟨qy, 1, none⟩ = some (.int .i64 u.a) := hbb.cell 1 _ rfl
              have yc2 : w7.cell? ⟨qy, 2, none⟩ = some (.int .i64 u.b) := hbb.cell 2 _ rfl
              have yc3 : w7.cell? ⟨qy, 3, none⟩ = some (.int .i64 u.c) := hbb.cell 3 _ rfl
              have yc4 : w7.cell? ⟨qy, 4, none⟩ = some (.int .i64 u.d) := hbb.cell 4 _ rfl
              clear hbb
              have hbb := BQx.out
              have xc0 : w7.cell? ⟨qx, 0, none⟩ = some (.bool b.top) := hbb.cell 0 _ rfl
              have xc1 : w7.cell? ⟨qx, 1, none⟩ = some (.int .i64 b.a) := hbb.cell 1 _ rfl
              have xc2 : w7.cell? ⟨qx, 2, none⟩ = some (.int .i64 b.b) := hbb.cell 2 _ rfl
              have xc3 : w7.cell? ⟨qx, 3, none⟩ = some (.int .i64 b.c) := hbb.cell 3 _ rfl
              have xc4 : w7.cell? ⟨qx, 4, none⟩ = some (.int .i64 b.d) := hbb.cell 4 _ rfl
              have xf0 : w7.frozen? ⟨qx, 0, none⟩ = false := hbb.frozen 0
              have xf1 : w7.frozen? ⟨qx, 1, none⟩ = false := hbb.frozen 1
              have xf2 : w7.frozen? ⟨qx, 2, none⟩ = false := hbb.frozen 2
              have xf3 : w7.frozen? ⟨qx, 3, none⟩ = false := hbb.frozen 3
              have xf4 : w7.frozen? ⟨qx, 4, none⟩ = false := hbb.frozen 4
              clear hbb
              go_wp2_with fail
              clear yc0 yc1 yc2 yc3 yc4 xc0 xc1 xc2 xc3 xc4 xf0 xf1 xf2 xf3 xf4
              have bx2 := BQx.out.stT u
              have bg2 := BQg.out.grown (grown_st u (w := w7) (q := qx)) (fun e => by have := LQX.out; injection e; omega)
              have br2 := BQr.out.grown (grown_st u (w := w7) (q := qx)) (fun e => by have := LQX.out; injection e; omega)
              have hb2 := below_stT W.out (q := qx) LQX.out.2.2 u
              generalize (((((w7.setCell ⟨qx, 0, none⟩ (.bool u.top)).setCell ⟨qx, 1, none⟩ (.int .i64 u.a)).setCell ⟨qx, 2, none⟩ (.int .i64 u.b)).setCell ⟨qx, 3, none⟩ (.int .i64 u.c)).setCell ⟨qx, 4, none⟩ (.int .i64 u.d)) = w6 at bx2 bg2 br2 hb2 ⊢
              go_roundw
              case rel => exact ⟨k + 1, _, u, by omega, HKL2.out, by first | rfl | go_num, HPK.out, HM1.out, bg2, bx2, br2, hb2⟩
              case measure => simp [intOf]; omega
            · have fc : decide (cz < 0) = false := decide_eq_false hc
              have HPK := Lib.hid (show P.pick g.tups (g.owner.getD i 0) (g.prio.getD i 0) l (ms.take (k + 1)) (-1, .zero) = (mb, b) from by
                rw [HTK.out, pick_snoc, HB.out, if_neg (fun h => ?_)]
                rcases h with h | h
                · exact HMB.out h
                · unfold P.better at h
                  rw [HOZ.out, HPZE.out, P.tget_nat, HT0.out, HU.out, HCZ.out, fc] at h
                  cases h)
              have HM1 := HMB
              clear hc
              go_wp2_with fail
              go_roundw
              case rel => exact ⟨k + 1, _, b, by omega, HKL2.out, by first | rfl | go_num, HPK.out, HM1.out, BQg.out, BQx.out, BQr.out, W.out⟩
              case measure => simp [intOf]; omega
          · by_cases hc : 0 < cz
            · have fc : decide (0 < cz) = true := decide_eq_true hc
              have fc2 : decide (cz > 0) = true := decide_eq_true hc
              have HPK := Lib.hid (show P.pick g.tups (g.owner.getD i 0) (g.prio.getD i 0) l (ms.take (k + 1)) (-1, .zero) = ((mn : Int), u) from by
                rw [HTK.out, pick_snoc, HB.out, if_pos (.inr (by unfold P.better; rw [HOZ.out, HPZE.out, P.tget_nat, HT0.out, HU.out, HCZ.out, fc]; rfl)), HPZE.out, P.tget_nat, HT0.out, HU.out])
              have HM1 := Lib.hid (show (mn : Int) ≠ -1 by omega)
              clear hc
              have hbb := BQy.out
              have yc0 : w7.cell? ⟨qy, 0, none⟩ = some (.bool u.top) := hbb.cell 0 _ rfl
              have yc1 : w7.cell? ⟨qy, 1, none⟩ = some (.int .i64 u.a) := hbb.cell 1 _ rfl
              have yc2 : w7.cell? ⟨qy, 2, none⟩ = some (.int .i64 u.b) := hbb.cell 2 _ rfl
              have yc3 : w7.cell? ⟨qy, 3, none⟩ = some (.int .i64 u.c) := hbb.cell 3 _ rfl
              have yc4 : w7.cell? ⟨qy, 4, none⟩ = some (.int .i64 u.d) := hbb.cell 4 _ rfl
              clear hbb
              have hbb := BQx.out
              have xc0 : w7.cell? ⟨qx, 0, none⟩ = some (.bool b.top) := hbb.cell 0 _ rfl
              have xc1 : w7.cell? ⟨qx, 1, none⟩ = some (.int .i64 b.a) := hbb.cell 1 _ rfl
              have xc2 : w7.cell? ⟨qx, 2, none⟩ = some (.int .i64 b.b) := hbb.cell 2 _ rfl
              have xc3 : w7.cell? ⟨qx, 3, none⟩ = some (.int .i64 b.c) := hbb.cell 3 _ rfl
              have xc4 : w7.cell? ⟨qx, 4, none⟩ = some (.int .i64 b.d) := hbb.cell 4 _ rfl
              have xf0 : w7.frozen? ⟨qx, 0, none⟩ = false := hbb.frozen 0
              have xf1 : w7.frozen? ⟨qx, 1, none⟩ = false := hbb.frozen 1
              have xf2 : w7.frozen? ⟨qx, 2, none⟩ = false := hbb.frozen 2
              have xf3 : w7.frozen? ⟨qx, 3, none⟩ = false := hbb.frozen 3
              have xf4 : w7.frozen? ⟨qx, 4, none⟩ = false := hbb.frozen 4
              clear hbb
              go_wp2_with fail
              clear yc0 yc1 yc2 yc3 yc4 xc0 xc1 xc2 xc3 xc4 xf0 xf1 xf2 xf3 xf4
              have bx2 := BQx.out.stT u
              have bg2 := BQg.out.grown (grown_st u (w := w7) (q := qx)) (fun e => by have := LQX.out; injection e; omega)
              have br2 := BQr.out.grown (grown_st u (w := w7) (q := qx)) (fun e => by have := LQX.out; injection e; omega)
              have hb2 := below_stT W.out (q := qx) LQX.out.2.2 u
              generalize (((((w7.setCell ⟨qx, 0, none⟩ (.bool u.top)).setCell ⟨qx, 1, none⟩ (.int .i64 u.a)).setCell ⟨qx, 2, none⟩ (.int .i64 u.b)).setCell ⟨qx, 3, none⟩ (.int .i64 u.c)).setCell ⟨qx, 4, none⟩ (.int .i64 u.d)) = w6 at bx2 bg2 br2 hb2 ⊢
              go_roundw
              case rel => exact ⟨k + 1, _, u, by omega, HKL2.out, by first | rfl | go_num, HPK.out, HM1.out, bg2, bx2, br2, hb2⟩
              case measure => simp [intOf]; omega
            · have fc : decide (0 < cz) = false := decide_eq_false hc
              have fc2 : decide (cz > 0) = false := decide_eq_false hc
              have HPK := Lib.hid (show P.pick g.tups (g.owner.getD i 0) (g.prio.getD i 0) l (ms.take (k + 1)) (-1, .zero) = (mb, b) from by
                rw [HTK.out, pick_snoc, HB.out, if_neg (fun h => ?_)]
                rcases h with h | h
                · exact HMB.out h
                · unfold P.better at h
                  rw [HOZ.out, HPZE.out, P.tget_nat, HT0.out, HU.out, HCZ.out, fc] at h
                  cases h)
              have HM1 := HMB
              clear hc
              go_wp2_with fail
              go_roundw
              case rel => exact ⟨k + 1, _, b, by omega, HKL2.out, by first | rfl | go_num, HPK.out, HM1.out, BQg.out, BQx.out, BQr.out, W.out⟩
              case measure => simp [intOf]; omega
      · have fk : decide ((k : Int) < (ms.length : Int)) = false := decide_eq_false (by omega)
        have HF := Lib.hid (show (g.choose l i).2 = b from by
          unfold P.G.choose
          rw [HMS.out]
          have h := HB.out
          rw [List.take_of_length_le (by omega)] at h
          rw [h])
        have hbb := BQx.out
        have xc0 : wr.cell? ⟨qx, 0, none⟩ = some (.bool b.top) := hbb.cell 0 _ rfl
        have xc1 : wr.cell? ⟨qx, 1, none⟩ = some (.int .i64 b.a) := hbb.cell 1 _ rfl
        have xc2 : wr.cell? ⟨qx, 2, none⟩ = some (.int .i64 b.b) := hbb.cell 2 _ rfl
        have xc3 : wr.cell? ⟨qx, 3, none⟩ = some (.int .i64 b.c) := hbb.cell 3 _ rfl
        have xc4 : wr.cell? ⟨qx, 4, none⟩ = some (.int .i64 b.d) := hbb.cell 4 _ rfl
        clear hbb
        have hbb := BQr.out
        have rc0 : wr.cell? ⟨qr, 0, none⟩ = some (.bool false) := hbb.cell 0 _ rfl
        have rc1 : wr.cell? ⟨qr, 1, none⟩ = some (.int .i64 0) := hbb.cell 1 _ rfl
        have rc2 : wr.cell? ⟨qr, 2, none⟩ = some (.int .i64 0) := hbb.cell 2 _ rfl
        have rc3 : wr.cell? ⟨qr, 3, none⟩ = some (.int .i64 0) := hbb.cell 3 _ rfl
        have rc4 : wr.cell? ⟨qr, 4, none⟩ = some (.int .i64 0) := hbb.cell 4 _ rfl
        have rf0 : wr.frozen? ⟨qr, 0, none⟩ = false := hbb.frozen 0
        have rf1 : wr.frozen? ⟨qr, 1, none⟩ = false := hbb.frozen 1
        have rf2 : wr.frozen? ⟨qr, 2, none⟩ = false := hbb.frozen 2
        have rf3 : wr.frozen? ⟨qr, 3, none⟩ = false := hbb.frozen 3
        have rf4 : wr.frozen? ⟨qr, 4, none⟩ = false := hbb.frozen 4
        clear hbb
        go_wp2_with fail
        have bz : Box (((((wr.setCell ⟨qr, 0, none⟩ (.bool b.top)).setCell ⟨qr, 1, none⟩ (.int .i64 b.a)).setCell ⟨qr, 2, none⟩ (.int .i64 b.b)).setCell ⟨qr, 3, none⟩ (.int .i64 b.c)).setCell ⟨qr, 4, none⟩ (.int .i64 b.d)) qr 24 (tc b) := BQr.out.stT b
        have hbz : Below w.heap.size w (((((wr.setCell ⟨qr, 0, none⟩ (.bool b.top)).setCell ⟨qr, 1, none⟩ (.int .i64 b.a)).setCell ⟨qr, 2, none⟩ (.int .i64 b.b)).setCell ⟨qr, 3, none⟩ (.int .i64 b.c)).setCell ⟨qr, 4, none⟩ (.int .i64 b.d)) := below_stT W.out LTQ.out.2 b
        generalize (((((wr.setCell ⟨qr, 0, none⟩ (.bool b.top)).setCell ⟨qr, 1, none⟩ (.int .i64 b.a)).setCell ⟨qr, 2, none⟩ (.int .i64 b.b)).setCell ⟨qr, 3, none⟩ (.int .i64 b.c)).setCell ⟨qr, 4, none⟩ (.int .i64 b.d)) = wz at bz hbz ⊢
        have zc0 : wz.cell? ⟨qr, 0, none⟩ = some (.bool b.top) := bz.cell 0 _ rfl
        have zc1 : wz.cell? ⟨qr, 1, none⟩ = some (.int .i64 b.a) := bz.cell 1 _ rfl
        have zc2 : wz.cell? ⟨qr, 2, none⟩ = some (.int .i64 b.b) := bz.cell 2 _ rfl
        have zc3 : wz.cell? ⟨qr, 3, none⟩ = some (.int .i64 b.c) := bz.cell 3 _ rfl
        have zc4 : wz.cell? ⟨qr, 4, none⟩ = some (.int .i64 b.d) := bz.cell 4 _ rfl
        refine bodyPost_ret (v := .agg (tc b)) (by simp [results, Try.results43, go_sem, zc0, zc1, zc2, zc3, zc4, tc]) rfl ⟨by rw [HF.out], hbz⟩
end W
end Go.Proofs.Yteeaojciobmcaaa
