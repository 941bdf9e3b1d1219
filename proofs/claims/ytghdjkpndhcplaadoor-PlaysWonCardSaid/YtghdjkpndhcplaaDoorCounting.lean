/- counting, of attract: what the moves between positions of a set alone are. -/
import Derived.Test.YtghdjkpndhcplaaDoorAttA
import Derived.Test.YtghdjkpndhcplaaDoorGrowR
import Derived.Test.YtghdjkpndhcplaaDoorList
import Derived.Test.YtghdjkpndhcplaaDoorHep
import Derived.Test.YtghdjkpndhcplaaDoorHlv
import Derived.Deep.Cut
namespace Go.Proofs.YtghdjkpndhcplaaDoor
open Go.RowKit
namespace W

/-- What counting hands back. -/
def Counted (w : World) (g : P.G) (I : BitVec 256) (e : Ending) (w' : World) : Prop := ∃ p pa L, e = .returned (.tuple #[.slice (some ⟨p, 0, none⟩) g.owner.length g.owner.length, .slice (some ⟨pa, 0, none⟩) g.owner.length g.owner.length]) ∧ p ≠ pa ∧
  w'.ownsRow w.heap.size 22 1 (.slice (some ⟨p, 0, none⟩) g.owner.length g.owner.length) g.owner.length L ∧ GrowR w' w.heap.size L (P.counts g I (P.pre2 I g.owner.length)).1 ∧ OwnI w' w.heap.size (.slice (some ⟨pa, 0, none⟩) g.owner.length g.owner.length) (P.counts g I (P.pre2 I g.owner.length)).2 ∧
  (∀ (j : Nat) (u : Value), L[j]? = some u → u.ownBlock ≠ some pa) ∧ Below w.heap.size w w'
/-- Between two moves: st is what has been counted. -/
structure Cn (w2 : World) (lo N p pa n : Nat) (st : List (List Int) × List Int) (L : List Value) (wr : World) : Prop where
  head : wr.ownsRow lo 22 1 (.slice (some ⟨p, 0, none⟩) n n) n L
  rows : GrowR wr N L st.1
  cnt : OwnI wr lo (.slice (some ⟨pa, 0, none⟩) n n) st.2
  keep : Rk.Keeps (KX N [p, pa]) w2 wr
  len1 : st.1.length = n
  len2 : st.2.length = n
section
variable {w2 : World} {lo N p pa n : Nat} {st : List (List Int) × List Int} {L : List Value} {wr : World}
theorem Cn.on (h : Cn w2 lo N p pa n st L wr) {w' : World} (hb : Below wr.heap.size wr w') : Cn w2 lo N p pa n st L w' :=
  ⟨own_grown h.head (grown_of_below hb none), h.rows.grown (grown_of_below hb none), own_grown h.cnt (grown_of_below hb none), h.keep.trans (kx_below_of hb), h.len1, h.len2⟩
theorem Cn.rowb (h : Cn w2 lo N p pa n st L wr) {j : Nat} {u : Value} (hu : L[j]? = some u) : ∀ b, u.ownBlock = some b → N ≤ b := by
  have hj : j < st.1.length := by rw [← h.rows.len]; exact (List.getElem?_eq_some_iff.1 hu).1
  obtain ⟨y, hy, ho⟩ := h.rows.rows j _ (List.getElem?_eq_getElem hj)
  rw [hu] at hy
  injection hy with hy
  subst hy
  exact fun b hb => (own_lt ho b hb).1
theorem Cn.mid (h : Cn w2 lo N p pa n st L wr) (hp : p < N) {j : Nat} {u : Value} (hu : L[j]? = some u) {o : Obj} {w7 : World} (hg : (wr.alloc o).grownBy w7 u.ownBlock) : w7.ownsRow lo 22 1 (.slice (some ⟨p, 0, none⟩) n n) n L :=
  own_kept (own_grown h.head (World.grownBy_alloc wr o none)) hg (.inr fun e => by have := h.rowb hu p e.symm; omega)
/-- A row grows by one. -/
theorem Cn.push (h : Cn w2 lo N p pa n st L wr) (hp : p < N) (hpa : pa < N) (hne : p ≠ pa) {j : Nat} {u v' : Value} {row row' : List Int} (hu : L[j]? = some u) (hrow : st.1[j]? = some row) {o : Obj} {w7 : World} (hg : (wr.alloc o).grownBy w7 u.ownBlock)
    (ho : OwnI w7 N v' row') (hat : v'.ownBlock = u.ownBlock ∨ v'.ownBlock = some (wr.alloc o).heap.size) (hn : row' ≠ []) : Cn w2 lo N p pa n (st.1.set j row', st.2) (L.set j v') (w7.setCell ⟨p, j, none⟩ v') := by
  have hrows := (h.rows.grown (World.grownBy_alloc wr o none)).push hu hrow hg ho hat hn
  have hcnt := own_kept (own_grown h.cnt (World.grownBy_alloc wr o none)) hg (.inr fun e => by have := h.rowb hu pa e.symm; omega)
  have hrowb : ∀ (i : Nat) (y : Value), (L.set j v')[i]? = some y → y.ownBlock = none ∨ y.ownBlock ≠ some p := fun i y hy => by
    rw [List.getElem?_set] at hy
    by_cases e : j = i
    · rw [if_pos e] at hy
      split at hy
      · injection hy with hy
        subst hy
        exact .inr fun e => by have := (own_lt ho p e).1; omega
      · cases hy
    · rw [if_neg e] at hy
      exact .inr fun e => by have := h.rowb hy p e; omega
  refine ⟨own_put (h.mid hp hu hg) j v', hrows.kept (grown_set w7 ⟨p, j, none⟩ v') hrowb, own_kept hcnt (grown_set w7 ⟨p, j, none⟩ v') (.inr fun e => by injection e with e; exact hne e.symm), ?_, by simp [h.len1], h.len2⟩
  refine ((h.keep.trans (kx_grown (World.grownBy_alloc wr o none) (fun k e => by cases e))).trans (kx_grown hg fun k e => .inr (h.rowb hu k e))).trans (kx_set w7 (.inl (by simp)) j v')
/-- One more is counted. -/
theorem Cn.count (h : Cn w2 lo N p pa n st L wr) (hpa : pa < N) (hne : p ≠ pa) (j : Nat) (z : Int) : Cn w2 lo N p pa n (st.1, st.2.set j z) L (wr.setCell ⟨pa, j, none⟩ (.int .i64 z)) :=
  ⟨own_kept h.head (grown_set wr ⟨pa, j, none⟩ _) (.inr fun e => by injection e with e; exact hne e), h.rows.kept (grown_set wr ⟨pa, j, none⟩ _) (fun i u hu => .inr fun e => by have := h.rowb hu pa e; omega), h.cnt.put j z, h.keep.trans (kx_set wr (.inl (by simp)) j _), h.len1, by simp [h.len2]⟩
end

set_option maxRecDepth 100000 in
set_option maxHeartbeats 1000000 in
theorem counting_any (g : P.G) (hr : g.Right) (I : BitVec 256) (v : Value) (w : World) (hv : GameV w v g) (hT : Tab w) (hI : P.lst I = P.pre2 I g.owner.length) : Calls Tryd.prog 37 #[v, .agg #[.int .u64 (P.wrd I 0), .int .u64 (P.wrd I 1), .int .u64 (P.wrd I 2), .int .u64 (P.wrd I 3)]] w (Counted w g I) := by
  have hop := hr.prio
  have hmp := hr.moves
  have hmany := hr.many
  have h0 := hr.pos
  obtain ⟨n, hn⟩ : ∃ n, g.owner.length = n := ⟨_, rfl⟩
  rw [hn] at hop hmp hmany h0 hI
  obtain ⟨l, hl⟩ : ∃ l, P.pre2 I n = l := ⟨_, rfl⟩
  rw [hl] at hI
  obtain ⟨ba, oa, ka, bb, ob, kb, bc, oc, kc, rfl, -, -, hcc⟩ := hv.open_ hn hop hmp h0
  have HCC := Lib.hid hcc
  have HR := Lib.hid hr
  have T := Lib.hid hT
  have HN := Lib.hid hn
  have HL := Lib.hid hl
  have HI := Lib.hid hI
  clear hl hI hcc hr hT hn hop hmp hv
  go_enter Tryd.func37, Tryd.ntmps37
  go_wp2_with fail
  have b1q : Box ((w.alloc (.cells #[.slice (some ⟨ba, oa, none⟩) n ka, .slice (some ⟨bb, ob, none⟩) n kb, .slice (some ⟨bc, oc, none⟩) n kc] 25)).alloc (.cells #[.int .u64 (P.wrd I 0), .int .u64 (P.wrd I 1), .int .u64 (P.wrd I 2), .int .u64 (P.wrd I 3)] 37)) w.heap.size 25 #[.slice (some ⟨ba, oa, none⟩) n ka, .slice (some ⟨bb, ob, none⟩) n kb, .slice (some ⟨bc, oc, none⟩) n kc] := (Box.new w _ _).alloc _
  have b2q : Box ((w.alloc (.cells #[.slice (some ⟨ba, oa, none⟩) n ka, .slice (some ⟨bb, ob, none⟩) n kb, .slice (some ⟨bc, oc, none⟩) n kc] 25)).alloc (.cells #[.int .u64 (P.wrd I 0), .int .u64 (P.wrd I 1), .int .u64 (P.wrd I 2), .int .u64 (P.wrd I 3)] 37)) (w.heap.size + 1) 37 #[.int .u64 (P.wrd I 0), .int .u64 (P.wrd I 1), .int .u64 (P.wrd I 2), .int .u64 (P.wrd I 3)] := by
    have := Box.new (w.alloc (.cells #[.slice (some ⟨ba, oa, none⟩) n ka, .slice (some ⟨bb, ob, none⟩) n kb, .slice (some ⟨bc, oc, none⟩) n kc] 25)) 37 #[.int .u64 (P.wrd I 0), .int .u64 (P.wrd I 1), .int .u64 (P.wrd I 2), .int .u64 (P.wrd I 3)]
    simpa using this
  have hbq : Below w.heap.size w ((w.alloc (.cells #[.slice (some ⟨ba, oa, none⟩) n ka, .slice (some ⟨bb, ob, none⟩) n kb, .slice (some ⟨bc, oc, none⟩) n kc] 25)).alloc (.cells #[.int .u64 (P.wrd I 0), .int .u64 (P.wrd I 1), .int .u64 (P.wrd I 2), .int .u64 (P.wrd I 3)] 37)) := ((Below.refl _ w).alloc (Nat.le_refl _) _).alloc (by simp) _
  replace T := Lib.hid (T.out.on hbq)
  generalize ((w.alloc (.cells #[.slice (some ⟨ba, oa, none⟩) n ka, .slice (some ⟨bb, ob, none⟩) n kb, .slice (some ⟨bc, oc, none⟩) n kc] 25)).alloc (.cells #[.int .u64 (P.wrd I 0), .int .u64 (P.wrd I 1), .int .u64 (P.wrd I 2), .int .u64 (P.wrd I 3)] 37)) = w0 at b1q b2q hbq T ⊢
  have BQg := Lib.hid b1q
  have BQs := Lib.hid b2q
  have W := Lib.hid hbq
  clear b1q b2q hbq
  generalize w.heap.size + 1 = qs at BQs ⊢
  generalize w.heap.size = qg at BQg ⊢
  have HQG := Lib.hid BQg.out.lt
  have HQS := Lib.hid BQs.out.lt
  have HW0 := Lib.hid W.out.size
  refine Rg.wp_region_lit (fun idx => match idx with | 0 => (fun v _ _ => v = (.pointer (some ⟨qg, 0, none⟩))) | 1 => (fun v _ _ => v = (.slice (some ⟨ba, oa, none⟩) n ka)) | 2 => (fun v _ _ => v = (.int .i64 (n : Int))) | 3 => (fun v _ w' => ∃ p, v = .slice (some ⟨p, 0, none⟩) n n ∧ w0.heap.size ≤ p ∧ w'.ownsRow w0.heap.size 22 1 v n (List.replicate n (.slice none 0 0))) | 4 => (fun v _ _ => v = (.pointer (some ⟨qg, 0, none⟩))) | 5 => (fun v _ _ => v = (.slice (some ⟨ba, oa, none⟩) n ka)) | 6 => (fun v _ _ => v = (.int .i64 (n : Int))) | 7 => (fun v _ w' => ∃ p, v = .slice (some ⟨p, 0, none⟩) n n ∧ w0.heap.size ≤ p ∧ w'.ownsRow w0.heap.size 3 1 v n (List.replicate n (.int .i64 0))) | 8 => (fun v ds _ => v = ds.getD 0 undef) | _ => fun _ _ _ => True) (none) 99 (by kernel_rfl) (by rfl) (by kernel_rfl) (by rfl) ?_ ?_ ?_
  · refine ⟨?_, ?_, ?_, ?_, ?_, ?_, ?_, ?_, ?_, trivial⟩
    · intro A w' K vals h hn hg hK
      have r0 : A.tmps[2]?.getD undef = .pointer (some ⟨qg, 0, none⟩) := Rg.slot (h.1)
      clear h hn hg
      simp [Oper.wp, execOp, go_sem, r0]
      exact hK _ _ (Rg.grown_refl _ _) rfl
    · intro A w' K vals h hn hg hK
      have r0 : A.tmps[10]?.getD undef = vals 0 := Rg.slot h.1
      have r1 : vals 0 = (.pointer (some ⟨qg, 0, none⟩)) := hn.1
      have c : w'.cell? ⟨qg, 0, none⟩ = some (.slice (some ⟨ba, oa, none⟩) n ka) := (BQg.out.keep hg).cell _ _ rfl
      clear h hn
      simp [Oper.wp, execOp, go_sem, r0, r1, c]
      exact hK _ _ (Rg.grown_refl _ _) rfl
    · intro A w' K vals h hn hg hK
      have r0 : A.tmps[11]?.getD undef = vals 1 := Rg.slot h.1
      have r1 : vals 1 = (.slice (some ⟨ba, oa, none⟩) n ka) := hn.1
      clear h hn hg
      simp [Oper.wp, go_sem, r0, r1]
      exact hK _ _ (Rg.grown_refl _ _) rfl
    · intro A w' K vals h hn hg hK
      have r0 : A.tmps[12]?.getD undef = vals 2 := Rg.slot h.1
      have s0 : vals 2 = (.int .i64 (n : Int)) := hn.1
      clear h hn
      refine op_make elInts rfl n (by simp [Act.eval, r0, s0]) (by simp [Act.eval, r0, s0]) (by omega) (by omega) (hK _ _ (made_grown w' n) ⟨_, rfl, hg.size, made_own hg.size n (by omega)⟩)
    · intro A w' K vals h hn hg hK
      have r0 : A.tmps[2]?.getD undef = .pointer (some ⟨qg, 0, none⟩) := Rg.slot (h.1)
      clear h hn hg
      simp [Oper.wp, execOp, go_sem, r0]
      exact hK _ _ (Rg.grown_refl _ _) rfl
    · intro A w' K vals h hn hg hK
      have r0 : A.tmps[14]?.getD undef = vals 4 := Rg.slot h.1
      have r1 : vals 4 = (.pointer (some ⟨qg, 0, none⟩)) := hn.1
      have c : w'.cell? ⟨qg, 0, none⟩ = some (.slice (some ⟨ba, oa, none⟩) n ka) := (BQg.out.keep hg).cell _ _ rfl
      clear h hn
      simp [Oper.wp, execOp, go_sem, r0, r1, c]
      exact hK _ _ (Rg.grown_refl _ _) rfl
    · intro A w' K vals h hn hg hK
      have r0 : A.tmps[15]?.getD undef = vals 5 := Rg.slot h.1
      have r1 : vals 5 = (.slice (some ⟨ba, oa, none⟩) n ka) := hn.1
      clear h hn hg
      simp [Oper.wp, go_sem, r0, r1]
      exact hK _ _ (Rg.grown_refl _ _) rfl
    · intro A w' K vals h hn hg hK
      have r0 : A.tmps[16]?.getD undef = vals 6 := Rg.slot h.1
      have s0 : vals 6 = (.int .i64 (n : Int)) := hn.1
      clear h hn
      refine op_make elInt rfl n (by simp [Act.eval, r0, s0]) (by simp [Act.eval, r0, s0]) (by omega) (by omega) (hK _ _ (made_grown w' n) ⟨_, rfl, hg.size, made_own hg.size n (by omega)⟩)
    · intro A w' K vals h hn hg hK
      have r0 : A.tmps[13]?.getD undef = vals 3 := Rg.slot h.1
      clear h hn hg
      simp [Oper.wp, execOp, go_sem, r0]
      exact hK _ _ (Rg.grown_refl _ _) rfl
  · refine ⟨?_, ?_, ?_, ?_, ?_, ?_, ?_, ?_, ?_, trivial⟩
    · exact fun _ _ _ _ _ _ h => h
    · exact fun _ _ _ _ _ _ h => h
    · exact fun _ _ _ _ _ _ h => h
    · exact fun _ _ _ _ _ h ⟨p, hv, hp, ho⟩ => ⟨p, hv, hp, own_grown ho h⟩
    · exact fun _ _ _ _ _ _ h => h
    · exact fun _ _ _ _ _ _ h => h
    · exact fun _ _ _ _ _ _ h => h
    · exact fun _ _ _ _ _ h ⟨p, hv, hp, ho⟩ => ⟨p, hv, hp, own_grown ho h⟩
    · exact fun _ _ _ _ _ _ h => h
  · intro vals w1 G hg hS hG
    obtain ⟨p, s3, hp, ho3⟩ : ∃ p, vals 3 = .slice (some ⟨p, 0, none⟩) n n ∧ w0.heap.size ≤ p ∧ w1.ownsRow w0.heap.size 22 1 (vals 3) n (List.replicate n (.slice none 0 0)) := hS.2.2.2.1
    obtain ⟨pa, s7, hpa, ho7⟩ : ∃ p, vals 7 = .slice (some ⟨p, 0, none⟩) n n ∧ w0.heap.size ≤ p ∧ w1.ownsRow w0.heap.size 3 1 (vals 7) n (List.replicate n (.int .i64 0)) := hS.2.2.2.2.2.2.2.1
    have s8 : vals 8 = vals 3 := hS.2.2.2.2.2.2.2.2.1
    clear hS
    rw [s3] at s8 ho3
    rw [s7] at ho7
    have hne : p ≠ pa := fun e => by
      rcases own_ne ho3 ho7 (by decide) with h | h
      · cases h
      · exact h (by rw [e])
    have hp1 : p < w1.heap.size := (own_lt ho3 p rfl).2
    have hpa1 : pa < w1.heap.size := (own_lt ho7 pa rfl).2
    have hb := below_of_grown hg
    have HO3 := Lib.hid ho3
    have HO7 := Lib.hid ho7
    have HNE := Lib.hid hne
    have HP := Lib.hid hp
    have HPA := Lib.hid hpa
    have HP1 := Lib.hid hp1
    have HPA1 := Lib.hid hpa1
    replace T := Lib.hid (T.out.on hb)
    replace BQg := Lib.hid (BQg.out.keep (grown_of_below hb none))
    replace BQs := Lib.hid (BQs.out.keep (grown_of_below hb none))
    replace W := Lib.hid (W.out.trans (hb.mono W.out.size))
    have W1 := Lib.hid (Below.refl w1.heap.size w1)
    clear hb ho3 ho7 hne hp hpa hp1 hpa1 hg
    refine hG ?_
    clear hG
    simp [List.dropLast, Rg.putAll, Oper.wp, execOp, go_sem, s3, s7, s8]
    clear s3 s7 s8
    have hbb := BQs.out
    have pc0 : w1.cell? ⟨qs, 0, none⟩ = some (.int .u64 (P.wrd I 0)) := hbb.cell 0 _ rfl
    have pc1 : w1.cell? ⟨qs, 1, none⟩ = some (.int .u64 (P.wrd I 1)) := hbb.cell 1 _ rfl
    have pc2 : w1.cell? ⟨qs, 2, none⟩ = some (.int .u64 (P.wrd I 2)) := hbb.cell 2 _ rfl
    have pc3 : w1.cell? ⟨qs, 3, none⟩ = some (.int .u64 (P.wrd I 3)) := hbb.cell 3 _ rfl
    clear hbb
    go_wp2_with fail
    refine (list_any I _ T.out).mono ?_
    rintro e w2 ⟨v, rfl, ho, hb⟩
    rw [HI.out] at ho
    obtain ⟨vo, vk, rfl, -⟩ := own_at ho
    have hl200 : l.length ≤ 200 := by
      have := P.pre2_len I n
      rw [HL.out] at this
      omega
    have HN2 := Lib.hid hb.size
    have HP2 : Hid (p < w2.heap.size) := Lib.hid (Nat.lt_of_lt_of_le HP1.out hb.size)
    have HPA2 : Hid (pa < w2.heap.size) := Lib.hid (Nat.lt_of_lt_of_le HPA1.out hb.size)
    have HOL := Lib.hid ho
    have HO3 := Lib.hid (own_grown HO3.out (grown_of_below hb none))
    have HO7 := Lib.hid (own_grown HO7.out (grown_of_below hb none))
    replace BQg := Lib.hid (BQg.out.keep (grown_of_below hb none))
    replace BQs := Lib.hid (BQs.out.keep (grown_of_below hb none))
    replace W := Lib.hid (W.out.trans (hb.mono W.out.size))
    clear hb ho W1 T pc0 pc1 pc2 pc3
    have HLV : Hid (∀ b, (Value.slice vo l.length vk).ownBlock = some b → b < w2.heap.size ∧ b ∉ [p, pa]) := Lib.hid (fun b hb => by
      have h1 := own_lt HOL.out b hb
      have h2 := HP1.out
      have h3 := HPA1.out
      refine ⟨h1.2, fun e => ?_⟩
      simp only [List.mem_cons, List.not_mem_nil, or_false] at e
      omega)
    go_wp2_with fail
    go_loopw [21] (fun i wr => ∃ k L, k ≤ l.length ∧ i = .int .i64 (k : Int) ∧ Cn w2 w0.heap.size w2.heap.size p pa n (P.counts g I (l.take k)) L wr) (fun i _ => l.length - (intOf i).toNat)
    case atStart =>
      refine ⟨0, List.replicate n (.slice none 0 0), Nat.zero_le _, rfl, HO3.out, ?_, ?_, Rk.Keeps.refl _ _, ?_, ?_⟩
      · have := GrowR.start w2 w2.heap.size n
        rw [← HN.out] at this ⊢
        exact this
      · have := HO7.out
        unfold OwnI
        rw [List.take_zero, P.counts_def]
        show w2.ownsRow _ _ 1 _ (List.replicate g.owner.length (0 : Int)).length ((List.replicate g.owner.length (0 : Int)).map _)
        rw [List.length_replicate, List.map_replicate, HN.out]
        exact this
      · rw [(P.counts_len g I _).1]; exact HN.out
      · rw [(P.counts_len g I _).2]; exact HN.out
    case round =>
      obtain ⟨k, L, hk, rfl, hC⟩ := hrel
      have HC := Lib.hid hC
      clear hC
      have hk0 : (0 : Int) ≤ (k : Int) := Int.natCast_nonneg _
      have hbw : Below w.heap.size w wr := W.out.trans (kx_below HC.out.keep (fun x hx => by
        simp only [List.mem_cons, List.not_mem_nil, or_false] at hx
        have h1 := HP.out
        have h2 := HPA.out
        have h3 := HW0.out
        rcases hx with rfl | rfl <;> omega) (by have h1 := HW0.out; have h2 := HP1.out; have h3 := HN2.out; have h4 := HP.out; omega) (Nat.le_refl _))
      have HBW := Lib.hid hbw
      clear hbw
      have HQGX : Hid (qg < w2.heap.size ∧ qg ∉ [p, pa]) := Lib.hid ⟨BQg.out.lt, fun e => by
        simp only [List.mem_cons, List.not_mem_nil, or_false] at e
        have h1 := HP.out
        have h2 := HPA.out
        have h3 := HQG.out
        omega⟩
      have HQSX : Hid (qs < w2.heap.size ∧ qs ∉ [p, pa]) := Lib.hid ⟨BQs.out.lt, fun e => by
        simp only [List.mem_cons, List.not_mem_nil, or_false] at e
        have h1 := HP.out
        have h2 := HPA.out
        have h3 := HQS.out
        omega⟩
      by_cases hlt : k < l.length
      · have fk : decide ((k : Int) < (l.length : Int)) = true := decide_eq_true (by omega)
        have hki : (k : Int) < (l.length : Int) := by omega
        have hlw := kx_own HOL.out HC.out.keep HLV.out
        obtain ⟨ql, qk, e9, -, -, hlc, -⟩ := own_form hlw (by omega)
        obtain ⟨rfl, -, rfl⟩ : vo = some ⟨ql, 0, none⟩ ∧ l.length = l.length ∧ vk = qk := by injection e9 with h1 h2 h3; exact ⟨h1, h2, h3⟩
        obtain ⟨x, hx⟩ : ∃ x, l[k] = x := ⟨_, rfl⟩
        have hxn : x < n := by
          have : l[k] ∈ P.pre2 I n := by rw [HL.out]; exact List.getElem_mem hlt
          rw [hx] at this
          exact ((P.pre2_mem I n x).1 this).1
        have cl : wr.cell? ⟨ql, k, none⟩ = some (.int .i64 (x : Int)) := hlc k _ (by unfold P.vals; rw [List.getElem?_map, List.getElem?_eq_getElem hlt, hx]; rfl)
        have hx0 : (0 : Int) ≤ (x : Int) := Int.natCast_nonneg _
        have hxi : (x : Int) < (n : Int) := by omega
        obtain ⟨xv, cx0, hxv⟩ := HCC.out w (Below.refl _ _) x hxn
        have cx := (HBW.out.cell (p := ⟨bc, oc + x, none⟩) (cell_lt cx0)).trans cx0
        clear cx0
        obtain ⟨ms, hms⟩ : ∃ ms, g.moves.getD x [] = ms := ⟨_, rfl⟩
        rw [hms] at hxv
        have hat := HR.out.at x (by rw [HN.out]; exact hxn)
        rw [hms, HN.out] at hat
        have hrise := hat.2.2.2.2
        have hmsl : ms.length ≤ 200 := P.rise_len hrise hmany
        obtain ⟨mo, mk, rfl, -, hmc⟩ := hxv
        have HX := Lib.hid hx
        have HMS := Lib.hid hms
        have HRISE := Lib.hid hrise
        have HMC := Lib.hid hmc
        clear hlw e9 hlc hx hms hat hrise hmc
        have hbb := kx_box HC.out.keep BQg.out HQGX.out.1 HQGX.out.2
        have pc0 : wr.cell? ⟨qg, 0, none⟩ = some (.slice (some ⟨ba, oa, none⟩) n ka) := hbb.cell 0 _ rfl
        have pc1 : wr.cell? ⟨qg, 1, none⟩ = some (.slice (some ⟨bb, ob, none⟩) n kb) := hbb.cell 1 _ rfl
        have pc2 : wr.cell? ⟨qg, 2, none⟩ = some (.slice (some ⟨bc, oc, none⟩) n kc) := hbb.cell 2 _ rfl
        clear hbb
        go_wp2_with fail
        clear cl cx pc0 pc1 pc2
        obtain ⟨st0, hst0⟩ : ∃ st0, P.counts g I (l.take k) = st0 := ⟨_, rfl⟩
        have HST := Lib.hid hst0
        clear hst0
        obtain ⟨wo, rfl⟩ : ∃ wo : World, wo = wr := ⟨_, rfl⟩
        go_loopw [31] (fun i wr => ∃ j L, j ≤ ms.length ∧ i = .int .i64 (j : Int) ∧ Cn w2 w0.heap.size w2.heap.size p pa n ((ms.take j).foldl (P.note I x) st0) L wr) (fun i _ => ms.length - (intOf i).toNat)
        case atStart => exact ⟨0, L, Nat.zero_le _, rfl, by rw [← HST.out]; exact HC.out⟩
        case round =>
          obtain ⟨j, L2, hj, rfl, hD⟩ := hrel
          have HD := Lib.hid hD
          clear hD
          have hj0 : (0 : Int) ≤ (j : Int) := Int.natCast_nonneg _
          have hbw2 : Below w.heap.size w wr := W.out.trans (kx_below HD.out.keep (fun x hx => by
            simp only [List.mem_cons, List.not_mem_nil, or_false] at hx
            have h1 := HP.out
            have h2 := HPA.out
            have h3 := HW0.out
            rcases hx with rfl | rfl <;> omega) (by have h1 := HW0.out; have h2 := HP1.out; have h3 := HN2.out; have h4 := HP.out; omega) (Nat.le_refl _))
          by_cases hlj : j < ms.length
          · have fj : decide ((j : Int) < (ms.length : Int)) = true := decide_eq_true (by omega)
            have hji : (j : Int) < (ms.length : Int) := by omega
            have hmb := P.rise_bounds HRISE.out (ms.getD j 0) (by rw [List.getD_eq_getElem?_getD, List.getElem?_eq_getElem hlj]; exact List.getElem_mem hlj)
            have htake : ms.take (j + 1) = ms.take j ++ [ms.getD j 0] := by
              rw [List.take_succ_eq_append_getElem hlj, List.getD_eq_getElem?_getD, List.getElem?_eq_getElem hlj]
              rfl
            obtain ⟨bm, om, rfl, hbm, hmc⟩ := HMC.out.resolve_left (by intro e; rw [e] at hlj; simp at hlj)
            have hcell := hmc j hlj
            obtain ⟨mz, hmz⟩ : ∃ mz, ms.getD j 0 = mz := ⟨_, rfl⟩
            rw [hmz] at hmb htake hcell
            obtain ⟨mn, rfl⟩ := Int.eq_ofNat_of_zero_le (show 0 ≤ mz by omega)
            have hmn : mn < n := by omega
            have cj : wr.cell? ⟨bm, om + j, none⟩ = some (.int .i64 (mn : Int)) := (hbw2.cell (p := ⟨bm, om + j, none⟩) hbm).trans hcell
            have HT1 := Lib.hid htake
            have HBM := Lib.hid hbm
            clear hmb htake hcell hmz hmc hbm hbw2
            have hbb := kx_box HD.out.keep BQs.out HQSX.out.1 HQSX.out.2
            have tc0 : wr.cell? ⟨qs, 0, none⟩ = some (.int .u64 (P.wrd I 0)) := hbb.cell 0 _ rfl
            have tc1 : wr.cell? ⟨qs, 1, none⟩ = some (.int .u64 (P.wrd I 1)) := hbb.cell 1 _ rfl
            have tc2 : wr.cell? ⟨qs, 2, none⟩ = some (.int .u64 (P.wrd I 2)) := hbb.cell 2 _ rfl
            have tc3 : wr.cell? ⟨qs, 3, none⟩ = some (.int .u64 (P.wrd I 3)) := hbb.cell 3 _ rfl
            clear hbb
            go_wp2_with fail
            refine (has_any I (mn : Int) _).mono ?_
            rintro e w6 ⟨rfl, hb6⟩
            replace HD := Lib.hid (HD.out.on hb6)
            obtain ⟨hs, hhs⟩ : ∃ hs, P.has I (mn : Int) = hs := ⟨_, rfl⟩
            rw [hhs]
            have HHS := Lib.hid hhs
            clear hhs hb6 tc0 tc1 tc2 tc3 cj
            cases hs with
            | false =>
              have HREL := Lib.hid (show Cn w2 w0.heap.size w2.heap.size p pa n ((ms.take (j + 1)).foldl (P.note I x) st0) L2 w6 from by
                rw [HT1.out, P.note_snoc]
                have : P.note I x ((ms.take j).foldl (P.note I x) st0) (mn : Int) = (ms.take j).foldl (P.note I x) st0 := by unfold P.note; rw [if_neg (by rw [HHS.out]; decide)]
                rw [this]
                exact HD.out)
              go_wp2_with fail
              go_roundw
              case rel => exact ⟨j + 1, L2, by omega, by go_num, HREL.out⟩
              case measure => simp [intOf]; omega
            | true =>
              have hshort := P.rows_short HR.out I (l.take k) (by rw [List.length_take]; omega) x mn (ms.take j) (by rw [List.length_take]; omega)
              have hlow : ((ms.take j).foldl (P.note I x) st0).2.getD x 0 = ((((ms.take j).filter (P.has I)).length : Nat) : Int) := by
                have hl2 := P.counts_len g I (l.take k)
                have h1 := P.note_low HR.out I x (by rw [HN.out]; exact hxn) (P.counts g I (l.take k)) hl2.1 hl2.2 j
                have h2 := P.counts_low HR.out I k (by rw [HN.out, HL.out]; exact hlt)
                have h3 : (P.pre2 I g.owner.length)[k]'(by rw [HN.out, HL.out]; exact hlt) = x := by
                  rw [← HX.out]
                  congr 1
                  rw [HN.out, HL.out]
                rw [h3] at h2
                rw [HN.out, HL.out] at h2
                rw [HMS.out, h2, HST.out] at h1
                rw [h1]
                omega
              have hflen : ((ms.take j).filter (P.has I)).length ≤ 200 := Nat.le_trans (List.length_filter_le _ _) (by rw [List.length_take]; omega)
              rw [HST.out] at hshort
              have hnote : (ms.take (j + 1)).foldl (P.note I x) st0 = ((((ms.take j).foldl (P.note I x) st0).1.set mn (((ms.take j).foldl (P.note I x) st0).1.getD mn [] ++ [(x : Int)])), ((ms.take j).foldl (P.note I x) st0).2.set x (((ms.take j).foldl (P.note I x) st0).2.getD x 0 + 1)) := by
                rw [HT1.out, P.note_snoc]
                show P.note I x _ _ = _
                unfold P.note
                rw [if_pos HHS.out, Int.toNat_natCast]
              obtain ⟨st, hst⟩ : ∃ st, (ms.take j).foldl (P.note I x) st0 = st := ⟨_, rfl⟩
              rw [hst] at hshort hlow hnote HD
              obtain ⟨row, hrow⟩ : ∃ row, st.1.getD mn [] = row := ⟨_, rfl⟩
              rw [hrow] at hshort hnote
              obtain ⟨z, hz⟩ : ∃ z, ((ms.take j).filter (P.has I)).length = z := ⟨_, rfl⟩
              rw [hz] at hlow hflen
              rw [hlow] at hnote
              have HNOTE := Lib.hid hnote
              have HLOW := Lib.hid hlow
              have hrl : st.1[mn]? = some row := by
                rw [← hrow, List.getD_eq_getElem?_getD, List.getElem?_eq_getElem (by rw [HD.out.len1]; exact hmn)]
                rfl
              obtain ⟨u, hu, hou⟩ := HD.out.rows.rows mn row hrl
              obtain ⟨uo, uk, rfl, -⟩ := own_at hou
              have hhead := HD.out.head.cellAt mn (by omega)
              rw [hu] at hhead
              have HRL := Lib.hid hrl
              have HU := Lib.hid hu
              have HOU := Lib.hid hou
              have HN6 : Hid (w2.heap.size ≤ w6.heap.size) := Lib.hid HD.out.keep.size
              have hmi : (mn : Int) < (n : Int) := by omega
              have hm0 : (0 : Int) ≤ (mn : Int) := Int.natCast_nonneg _
              clear hlow hnote hst hrow hz hrl hu hou
              go_wp2_with (at_builtin; refine wpl_append elInt rfl (.tmp 43) (.tmp 45) rfl rfl (own_grown HOU.out (World.grownBy_alloc _ _ none)) rfl (row_one _ _ _) ?_ ?_ ?_ ?_ ?_)
              · intro u hu; simp at hu; subst hu; rfl
              · simp; omega
              · simp; omega
              · have := HN6.out; simp; omega
              intro v' w7 hown hgr hat
              obtain ⟨vo1, vk1, rfl, -⟩ := own_at hown
              have hown2 : OwnI w7 w2.heap.size (.slice vo1 (row.length + 1) vk1) (row ++ [(x : Int)]) := by unfold OwnI; simpa using hown
              have hhead7 := HD.out.mid HP2.out HU.out hgr
              have HPU := Lib.hid (HD.out.push HP2.out HPA2.out HNE.out HU.out HRL.out hgr hown2 (hat.imp id (fun e => e.trans (by simp))) (by simp))
              have c7 : w7.cell? ⟨p, mn, none⟩ = some (.slice uo row.length uk) := by rw [hhead7.cellAt mn (by omega)]; exact HU.out
              have f7 : w7.frozen? ⟨p, mn, none⟩ = false := hhead7.frozenAt mn
              clear hown hown2 hgr hat hhead7
              go_upto_region 10 with (fail)
              clear c7 f7
              generalize (w7.setCell ⟨p, mn, none⟩ (.slice vo1 (row.length + 1) vk1)) = w8 at HPU ⊢
              have hcnt : OwnI w8 w0.heap.size (.slice (some ⟨pa, 0, none⟩) n n) st.2 := HPU.out.cnt
              have hcl : st.2.length = n := HPU.out.len2
              unfold OwnI at hcnt
              rw [hcl] at hcnt
              have c8 : w8.cell? ⟨pa, x, none⟩ = some (.int .i64 (z : Int)) := by
                rw [hcnt.cellAt x (by omega), List.getElem?_map, List.getElem?_eq_getElem (by omega)]
                have := HLOW.out
                rw [List.getD_eq_getElem?_getD, List.getElem?_eq_getElem (by omega)] at this
                rw [← this]
                rfl
              have f8 : w8.frozen? ⟨pa, x, none⟩ = false := hcnt.frozenAt x
              have HREL := Lib.hid (show Cn w2 w0.heap.size w2.heap.size p pa n ((ms.take (j + 1)).foldl (P.note I x) st0) _ (w8.setCell ⟨pa, x, none⟩ (.int .i64 ((z : Int) + 1))) from by
                rw [HNOTE.out]
                exact HPU.out.count HPA2.out HNE.out x ((z : Int) + 1))
              clear hcnt hcl
              go_wp2_with fail
              go_roundw
              case rel => exact ⟨j + 1, _, by omega, by go_num, HREL.out⟩
              case measure => simp [intOf]; omega
          · have fj : decide ((j : Int) < (ms.length : Int)) = false := decide_eq_false (by omega)
            have htj : ms.take j = ms := List.take_of_length_le (by omega)
            have HREL := Lib.hid (show Cn w2 w0.heap.size w2.heap.size p pa n (P.counts g I (l.take (k + 1))) L2 wr from by
              have ht : l.take (k + 1) = l.take k ++ [x] := by rw [List.take_succ_eq_append_getElem hlt, HX.out]
              have h := HD.out
              rw [htj] at h
              rw [ht, P.counts_snoc, HMS.out, HST.out]
              exact h)
            clear htj hbw2
            go_wp2_with fail
            go_roundw
            case rel => exact ⟨k + 1, L2, by omega, by go_num, HREL.out⟩
            case measure => simp [intOf]; omega
      · have fk : decide ((k : Int) < (l.length : Int)) = false := decide_eq_false (by omega)
        have HREL := Lib.hid (show Counted w g I (.returned (.tuple #[.slice (some ⟨p, 0, none⟩) n n, .slice (some ⟨pa, 0, none⟩) n n])) wr from by
          have h := HC.out
          rw [List.take_of_length_le (by omega)] at h
          have h0 := HW0.out
          refine ⟨p, pa, L, by rw [HN.out], HNE.out, ?_, ?_, ?_, fun j u hu e => ?_, HBW.out⟩
          · rw [HN.out]; exact own_more h.head h0
          · rw [HN.out, HL.out]; exact ⟨fun j m hm => by obtain ⟨y, h1, h2⟩ := h.rows.rows j m hm; exact ⟨y, h1, own_more h2 (by have h3 := HN2.out; have h4 := HP1.out; have h5 := HP.out; omega)⟩, h.rows.apart, h.rows.len, h.rows.nil⟩
          · rw [HN.out, HL.out]; exact own_more h.cnt h0
          · have h1 := h.rowb hu pa e
            have h2 := HPA2.out
            omega)
        go_wp2_with fail
        go_ret2
        exact HREL.out
end W
end Go.Proofs.YtghdjkpndhcplaaDoor
