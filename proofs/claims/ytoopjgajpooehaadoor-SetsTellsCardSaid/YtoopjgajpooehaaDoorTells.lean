/- Every Has, Len, Least, List and In, against the document's: the walk of the law. -/
import Derived.Test.YtoopjgajpooehaaDoorEqual
import Derived.Test.YtoopjgajpooehaaDoorIncr
import Derived.Test.YtoopjgajpooehaaDoorRefWords
import Derived.Test.YtoopjgajpooehaaDoorRefTell
import Derived.Test.YtoopjgajpooehaaDoorRefList
import Derived.Test.YtoopjgajpooehaaDoorShow
namespace Go.Proofs.YtoopjgajpooehaaDoor
open Go.RowKit Go.Sort
namespace W

theorem cRHas (W : World) (s : BitVec 256) (n : Int) (d : Nat) (os : Array Obj) : Calls Tryd.prog 23 #[.agg (P.truths s), .int .i64 n] (grow (redrawn W d) os) fun e w'' => e = .returned (.bool (P.has s n)) ∧ ∃ p : Regrown, w'' = grow (redrawn W p.d) p.os := Calls.regrown_of (rhas_any s n _)
theorem cRLen (W : World) (s : BitVec 256) (d : Nat) (os : Array Obj) : Calls Tryd.prog 25 #[.agg (P.truths s)] (grow (redrawn W d) os) fun e w'' => e = .returned (.int .i64 ((P.len s : Nat) : Int)) ∧ ∃ p : Regrown, w'' = grow (redrawn W p.d) p.os := by
  have h := rlen_any s (grow (redrawn W d) os)
  rw [← P.len_lst] at h
  exact Calls.regrown_of h
theorem cRLeast (W : World) (s : BitVec 256) (d : Nat) (os : Array Obj) : Calls Tryd.prog 27 #[.agg (P.truths s)] (grow (redrawn W d) os) fun e w'' => e = .returned (.int .i64 (P.least s)) ∧ ∃ p : Regrown, w'' = grow (redrawn W p.d) p.os := Calls.regrown_of (rleast_any s _)
theorem cRIn (W : World) (s t : BitVec 256) (d : Nat) (os : Array Obj) : Calls Tryd.prog 29 #[.agg (P.truths s), .agg (P.truths t)] (grow (redrawn W d) os) fun e w'' => e = .returned (.bool (decide (s ||| t = t))) ∧ ∃ p : Regrown, w'' = grow (redrawn W p.d) p.os := Calls.regrown_of (rin_any s t _)
theorem cFrom (W : World) (s : BitVec 256) (d : Nat) (os : Array Obj) : Calls Tryd.prog 19 #[.agg #[.int .u64 (P.wrd s 0), .int .u64 (P.wrd s 1), .int .u64 (P.wrd s 2), .int .u64 (P.wrd s 3)]] (grow (redrawn W d) os) fun e w'' => e = .returned (.agg (P.truths s)) ∧ ∃ p : Regrown, w'' = grow (redrawn W p.d) p.os := Calls.regrown_of (from_any s _)
theorem owns_below {B : Nat} {e : TypeId} {k : Nat} {v : Value} {n : Nat} {xs : List Value} {w w' : World} (h : w.ownsRow B e k v n xs) (hb : Below w.heap.size w w') : w'.ownsRow B e k v n xs := by
  refine ⟨h.1, ?_⟩
  rcases h.2 with h2 | ⟨g, cap, cur, h1, h2, h3, h4⟩
  · exact .inl h2
  · exact .inr ⟨g, cap, cur, h1, h2, by rw [hb.block g (lt_of_block h3)]; exact h3, h4⟩
set_option maxRecDepth 100000 in
set_option maxHeartbeats 4000000 in
theorem tells_any (a b : BitVec 256) (n : Int) (w : World) (hT : Hid (Tab w)) : Calls Tryd.prog 4 #[.agg #[.int .u64 (P.wrd a 0), .int .u64 (P.wrd a 1), .int .u64 (P.wrd a 2), .int .u64 (P.wrd a 3)], .agg #[.int .u64 (P.wrd b 0), .int .u64 (P.wrd b 1), .int .u64 (P.wrd b 2), .int .u64 (P.wrd b 3)], .int .i64 n] w fun e w' => e = .returned (.bool true) ∧ Below w.heap.size w w' := by
  go_enter Tryd.func4, Tryd.ntmps4
  go_wp2_with fail
  refine (shown_any _ ?_).mono ?_
  · exact ((hT.out.on ((Below.refl _ _).alloc (Nat.le_refl _) _)).on ((Below.refl _ _).alloc (Nat.le_refl _) _))
  rintro e w1 ⟨rfl, hb⟩
  have hz : w.heap.size + 2 ≤ w1.heap.size := by have := hb.size; simp at this; omega
  have HB := Lib.hid (show Below w.heap.size w w1 from (((Below.refl w.heap.size w).alloc (by simp) (.cells #[.int .u64 (P.wrd a 0), .int .u64 (P.wrd a 1), .int .u64 (P.wrd a 2), .int .u64 (P.wrd a 3)] 25)).alloc (by simp <;> omega) (.cells #[.int .u64 (P.wrd b 0), .int .u64 (P.wrd b 1), .int .u64 (P.wrd b 2), .int .u64 (P.wrd b 3)] 25)).trans (hb.mono (by simp <;> omega)))
  have k0 : ∀ i, w1.cell? ⟨w.heap.size, i, none⟩ = #[.int .u64 (P.wrd a 0), .int .u64 (P.wrd a 1), .int .u64 (P.wrd a 2), .int .u64 (P.wrd a 3)][i]? := fun i => by rw [hb.cell (by show w.heap.size < _; simp <;> omega), World.cell?_alloc_past _ _ _ (by simp <;> omega), World.cell?_alloc_at _ _ _ _ rfl]
  have k1 : ∀ i, w1.cell? ⟨w.heap.size + 1, i, none⟩ = #[.int .u64 (P.wrd b 0), .int .u64 (P.wrd b 1), .int .u64 (P.wrd b 2), .int .u64 (P.wrd b 3)][i]? := fun i => by rw [hb.cell (by show w.heap.size + 1 < _; simp <;> omega), World.cell?_alloc_at _ _ _ _ (by simp)]
  have HK0 := Lib.hid (show Blk w1 (w.heap.size) a 25 by have h := ((Blk.new w a 25).on ((Below.refl _ _).alloc (Nat.le_refl _) (.cells #[.int .u64 (P.wrd b 0), .int .u64 (P.wrd b 1), .int .u64 (P.wrd b 2), .int .u64 (P.wrd b 3)] 25))).on hb; simpa using h)
  have HK1 := Lib.hid (show Blk w1 (w.heap.size + 1) b 25 by have h := (Blk.new (w.alloc (.cells #[.int .u64 (P.wrd a 0), .int .u64 (P.wrd a 1), .int .u64 (P.wrd a 2), .int .u64 (P.wrd a 3)] 25)) b 25).on hb; simpa using h)
  clear hb
  have h00 : w.heap.size < w1.heap.size := by omega
  have h01 : w.heap.size + 1 < w1.heap.size := by omega
  have k00 : w1.cell? ⟨w.heap.size, 0, none⟩ = some (.int .u64 (P.wrd a 0)) := (k0 0).trans rfl
  have k01 : w1.cell? ⟨w.heap.size, 1, none⟩ = some (.int .u64 (P.wrd a 1)) := (k0 1).trans rfl
  have k02 : w1.cell? ⟨w.heap.size, 2, none⟩ = some (.int .u64 (P.wrd a 2)) := (k0 2).trans rfl
  have k03 : w1.cell? ⟨w.heap.size, 3, none⟩ = some (.int .u64 (P.wrd a 3)) := (k0 3).trans rfl
  have k10 : w1.cell? ⟨w.heap.size + 1, 0, none⟩ = some (.int .u64 (P.wrd b 0)) := (k1 0).trans rfl
  have k11 : w1.cell? ⟨w.heap.size + 1, 1, none⟩ = some (.int .u64 (P.wrd b 1)) := (k1 1).trans rfl
  have k12 : w1.cell? ⟨w.heap.size + 1, 2, none⟩ = some (.int .u64 (P.wrd b 2)) := (k1 2).trans rfl
  have k13 : w1.cell? ⟨w.heap.size + 1, 3, none⟩ = some (.int .u64 (P.wrd b 3)) := (k1 3).trans rfl
  clear k0 k1
  go_wp2_with fail
  obtain ⟨W, hW⟩ : ∃ W : World, W = (w1.alloc (.cells #[.int .u64 (P.wrd a 0), .int .u64 (P.wrd a 1), .int .u64 (P.wrd a 2), .int .u64 (P.wrd a 3)] 26)) := ⟨_, rfl⟩
  have H0 := Lib.hid (show Blk W (w1.heap.size) a 26 by rw [hW]; have h := (Blk.new w1 a 26); simpa using h)
  have HR0 := Lib.hid (show Blk W (w.heap.size) a 25 by rw [hW]; exact HK0.out.on ((Below.refl w1.heap.size w1).alloc (by simp <;> omega) (.cells #[.int .u64 (P.wrd a 0), .int .u64 (P.wrd a 1), .int .u64 (P.wrd a 2), .int .u64 (P.wrd a 3)] 26)))
  have HR1 := Lib.hid (show Blk W (w.heap.size + 1) b 25 by rw [hW]; exact HK1.out.on ((Below.refl w1.heap.size w1).alloc (by simp <;> omega) (.cells #[.int .u64 (P.wrd a 0), .int .u64 (P.wrd a 1), .int .u64 (P.wrd a 2), .int .u64 (P.wrd a 3)] 26)))
  have HW := Lib.hid (show Below w.heap.size w W by rw [hW]; exact (HB.out.alloc (by omega) (.cells #[.int .u64 (P.wrd a 0), .int .u64 (P.wrd a 1), .int .u64 (P.wrd a 2), .int .u64 (P.wrd a 3)] 26)))
  have HT := Lib.hid (hT.out.on HW.out)
  rw [← hW]
  clear hW HB hz h00 h01 k00 k01 k02 k03 k10 k11 k12 k13
  have hz := fun w => zero_ref w
  refine (from_any _ _).mono ?_
  rintro e w2 ⟨rfl, hb⟩
  have HX1 := Lib.hid (HW.out.trans (hb.mono HW.out.size))
  have A1 := Lib.hid (H0.out.on hb)
  have P1 := Lib.hid (HR0.out.on hb)
  have Q1 := Lib.hid (HR1.out.on hb)
  clear hb H0 HR0 HR1 HW
  go_upto_region 4 with (refine wpList_store_row (o := ⟨none, _, _, _, _, _⟩) rfl 32 (.tmp 9) (.tmp 19) rfl w2.heap.size (P.truths a) rfl rfl 32 (P.truths 0#256) (heap_alloc_new w2 _) (ref_size _) (truths_both _ _) (truths_one _) ?_)
  obtain ⟨W3, hW3⟩ : ∃ X : World, X = (w2.alloc (.cells (P.truths 0#256) 32)).setRow w2.heap.size (P.truths a) := ⟨_, rfl⟩
  have hb : Below w2.heap.size w2 W3 := by rw [hW3]; exact below_setRow ((Below.refl _ _).alloc (Nat.le_refl _) _) (Nat.le_refl _) _
  have T3 := Lib.hid (show Tr W3 w2.heap.size a by rw [hW3]; exact (Tr.new w2 0#256).row a)
  rw [← hW3]
  have HX3 := Lib.hid (HX1.out.trans (hb.mono HX1.out.size))
  have A3 := Lib.hid (A1.out.on hb)
  have P3 := Lib.hid (P1.out.on hb)
  have Q3 := Lib.hid (Q1.out.on hb)
  have HT3 := Lib.hid (hT.out.on HX3.out)
  clear hW3 hb A1 P1 Q1 HX1 HT
  have c0 := A3.out.c0
  have c1 := A3.out.c1
  have c2 := A3.out.c2
  have c3 := A3.out.c3
  go_wp2_with fail
  refine (list_any _ _ HT3.out).mono ?_
  rintro e w4 ⟨va, rfl, ho, hb⟩
  have A4 := Lib.hid (A3.out.on hb)
  have P4 := Lib.hid (P3.out.on hb)
  have Q4 := Lib.hid (Q3.out.on hb)
  have T4 := Lib.hid (T3.out.on hb)
  have HT4 := Lib.hid (HT3.out.on hb)
  have HX4 := Lib.hid (HX3.out.trans (hb.mono HX3.out.size))
  have OA4 := Lib.hid ho
  have HGA := Lib.hid (fun (q : Nat) (hq : va.ownBlock = some q) => (ho.lt q hq).2)
  have LA4 := Lib.hid (ints_of_lists ho)
  have HB4 := Lib.hid hb
  clear ho hb c0 c1 c2 c3
  have c0 := A4.out.c0
  have c1 := A4.out.c1
  have c2 := A4.out.c2
  have c3 := A4.out.c3
  go_wp2_with fail
  refine (list_any _ _ HT4.out).mono ?_
  rintro e w5 ⟨vb, rfl, ho, hb⟩
  have A5 := Lib.hid (A4.out.on hb)
  have P5 := Lib.hid (P4.out.on hb)
  have Q5 := Lib.hid (Q4.out.on hb)
  have T5 := Lib.hid (T4.out.on hb)
  have HT5 := Lib.hid (HT4.out.on hb)
  have LA5 := Lib.hid (LA4.out.on hb)
  have HX5 := Lib.hid (HX4.out.trans (hb.mono HX4.out.size))
  have OB5 := Lib.hid ho
  have hz45 := Lib.hid hb.size
  have OA5 := Lib.hid (owns_below OA4.out hb)
  have HB5 := Lib.hid (HB4.out.trans (hb.mono HB4.out.size))
  have LB5 := Lib.hid (ints_of_lists ho)
  have hz5 := Lib.hid hb.size
  clear ho hb A4 P4 Q4 T4 HT4 HX4 LA4 OA4 c0 c1 c2 c3
  go_wp2_with (refine wpList_load_row (o := ⟨some 24, _, _, _, _, _⟩) rfl 32 (.tmp 9) rfl (w2.heap.size) rfl 32 (P.truths a) (0, 0) (.array 256 4) T5.out ref_under rfl (ref_size _) ?_)
  refine (rlist_any _ _).mono ?_
  rintro e w6 ⟨vc, rfl, ho, hb⟩
  have A6 := Lib.hid (A5.out.on hb)
  have P6 := Lib.hid (P5.out.on hb)
  have Q6 := Lib.hid (Q5.out.on hb)
  have T6 := Lib.hid (T5.out.on hb)
  have HT6 := Lib.hid (HT5.out.on hb)
  have LA6 := Lib.hid (LA5.out.on hb)
  have LB6 := Lib.hid (LB5.out.on hb)
  have HX6 := Lib.hid (HX5.out.trans (hb.mono HX5.out.size))
  have OC6 := Lib.hid ho
  have OA6 := Lib.hid (owns_below OA5.out hb)
  have OB6 := Lib.hid (owns_below OB5.out hb)
  have HB6 := Lib.hid (HB5.out.trans (hb.mono HB5.out.size))
  have LC6 := Lib.hid (ints_of_lists ho)
  have hz6 := Lib.hid (Nat.le_trans hz5.out hb.size)
  clear ho hb A5 P5 Q5 T5 HT5 HX5 LA5 LB5 OA5 OB5 HB5 hz5
  go_wp2_with fail
  refine (equal_any LA6.out LC6.out).mono ?_
  rintro e w7 ⟨rfl, hb⟩
  have A7 := Lib.hid (A6.out.on hb)
  have P7 := Lib.hid (P6.out.on hb)
  have Q7 := Lib.hid (Q6.out.on hb)
  have T7 := Lib.hid (T6.out.on hb)
  have HT7 := Lib.hid (HT6.out.on hb)
  have LA7 := Lib.hid (LA6.out.on hb)
  have LB7 := Lib.hid (LB6.out.on hb)
  have LC7 := Lib.hid (LC6.out.on hb)
  have HX7 := Lib.hid (HX6.out.trans (hb.mono HX6.out.size))
  have OA7 := Lib.hid (owns_below OA6.out hb)
  have OB7 := Lib.hid (owns_below OB6.out hb)
  have OC7 := Lib.hid (owns_below OC6.out hb)
  have HB7 := Lib.hid (HB6.out.trans (hb.mono HB6.out.size))
  have hz7 := Lib.hid (Nat.le_trans hz6.out hb.size)
  have hee : decide (P.casts (P.lst a) = P.casts (P.lst a)) = true := decide_eq_true rfl
  rw [hee]
  clear hee hb A6 P6 Q6 T6 HT6 HX6 LA6 LB6 LC6 OA6 OB6 OC6 HB6 hz6
  have HLE := Lib.hid (P.lst_length a)
  obtain ⟨m, hm⟩ : ∃ m, (P.lst a).length = m := ⟨_, rfl⟩
  obtain ⟨oa, ca, hva⟩ : ∃ oa ca, va = .slice oa m ca := by
    rcases OA7.out.2 with ⟨h1, h2⟩ | ⟨g, cap, cur, h1, _⟩
    · exact ⟨none, 0, by rw [h1, ← hm, h2]⟩
    · exact ⟨_, _, by rw [h1, hm]⟩
  subst hva
  have OA := Lib.hid (show w7.ownsRow W3.heap.size 3 1 (.slice oa m ca) m (P.vals (P.lst a)) by rw [← hm]; rw [hm]; exact hm ▸ OA7.out)
  have HM := Lib.hid hm
  have hm256 : m ≤ 256 := by rw [← hm]; exact HLE.out
  have HL2 := Lib.hid hm256
  clear hm hm256 OA7 LA7 LB7 LC7
  have hml : (m : Int) ≤ 256 := by have := HL2.out; omega
  go_wp2_with fail
  go_loopw [14] (fun i wr => ∃ (k : Nat) (xs : List Value), k ≤ m ∧ i = .int .i64 k ∧ wr.ownsRow W3.heap.size 3 1 (.slice oa m ca) m xs ∧ wr.ownsRow w4.heap.size 3 1 vb (P.lst a).length (P.vals (P.lst a)) ∧ wr.ownsRow w5.heap.size 3 1 vc (P.lst a).length (P.vals (P.lst a)) ∧ Below W3.heap.size W3 wr) (fun i _ => m - (intOf i).toNat)
  case atStart => exact ⟨0, _, Nat.zero_le _, rfl, OA.out, OB7.out, OC7.out, HB7.out⟩
  case round =>
    obtain ⟨k, xs, hk, rfl, h1, h2, h3, h4⟩ := hrel
    have R1 := Lib.hid h1
    have R2 := Lib.hid h2
    have R3 := Lib.hid h3
    have R4 := Lib.hid h4
    clear h1 h2 h3 h4
    by_cases hlt : k < m
    · have hk0 : (0 : Int) ≤ (k : Int) := Int.natCast_nonneg _
      obtain ⟨g, hoa, hg1, hg2⟩ : ∃ g, oa = some ⟨g, 0, none⟩ ∧ W3.heap.size ≤ g ∧ g < w4.heap.size := by
        rcases R1.out.2 with ⟨_, h0⟩ | ⟨g, cap, cur, h1, h2, _⟩
        · omega
        · obtain rfl : oa = some ⟨g, 0, none⟩ := by simpa using (Value.slice.inj h1).1
          exact ⟨g, rfl, h2, HGA.out g rfl⟩
      subst hoa
      have hf := R1.out.frozenAt k
      obtain ⟨u, hu⟩ : ∃ u, xs[k]? = some u := ⟨_, List.getElem?_eq_getElem (by have := R1.out.1; omega)⟩
      have hcell := (R1.out.cellAt k (by omega)).trans hu
      clear hu
      have hgs := hg1
      have HG1 := Lib.hid hg1
      have HG2 := Lib.hid hg2
      clear hg1 hg2 hgs
      go_wp2_with fail
      go_roundw
      case rel => exact ⟨k + 1, _, by omega, by go_num, (R1.out.stored k _).1, ownsRow_setCell_below R2.out HG2.out _, ownsRow_setCell_below R3.out (Nat.lt_of_lt_of_le HG2.out hz45.out) _, R4.out.setCell HG1.out _⟩
      case measure => simp [intOf]; omega
    · obtain rfl : k = m := by omega
      obtain ⟨i0, hi, hz0, hz1, hz2⟩ := info_parts int_info
      have HI1 := Lib.hid hi
      have HI2 := Lib.hid hz0
      have HI3 := Lib.hid hz1
      have HI4 := Lib.hid hz2
      clear hi hz0 hz1 hz2
      go_wp2_with (at_builtin; refine wpList_append_own _ rfl _ _ 22 rfl W3.heap.size 3 i0 (.int .i64 0) 1 8 Tryd.underlying22 HI1.out HI2.out HI3.out HI4.out rfl (by decide) _ _ _ rfl (R1.out.alloc _) ⟨wr.heap.size, 0, none⟩ 2 2 [.int .i64 300, .int .i64 300] rfl rfl ?c1 ?c2 ?c3 ?c4 ?c5 ?_)
      case c1 =>
        intro j u hj
        match j, hj with
        | 0, hj => simp at hj; subst hj; simp [Addr.add]
        | 1, hj => simp at hj; subst hj; simp [Addr.add]
      case c2 => intro u hu; simp at hu; rcases hu with rfl | rfl <;> rfl
      case c3 => have := HL2.out; unfold maxLen; omega
      case c4 => have := HL2.out; omega
      case c5 => have := R4.out.size; simp; omega
      intro v8 w8 hown hgrow _
      have hb : Below W3.heap.size W3 w8 := (R4.out.alloc R4.out.size _).grown hgrow (by have := R4.out.size; simp; omega) (fun q hq => (R1.out.lt q hq).1)
      have hsz8 : wr.heap.size + 1 ≤ w8.heap.size := by have := hgrow.size; simpa using this
      obtain ⟨o8, c8, rfl⟩ : ∃ o8 c8, v8 = .slice o8 (k + 2) c8 := by
        rcases hown.2 with ⟨_, h2⟩ | ⟨g, cap, cur, h1, _⟩
        · omega
        · exact ⟨_, _, h1⟩
      have hk2 := (R2.out.alloc (.cells #[.int .i64 300, .int .i64 300] 3)).kept hgrow (by
        cases hbl : vb.ownBlock with
        | none => exact .inl rfl
        | some q => right; intro e; have h1 := (R2.out.lt q hbl).1; have h2 := HGA.out q e.symm; omega)
      have hk3 := (R3.out.alloc (.cells #[.int .i64 300, .int .i64 300] 3)).kept hgrow (by
        cases hbl : vc.ownBlock with
        | none => exact .inl rfl
        | some q => right; intro e; have h1 := (R3.out.lt q hbl).1; have h2 := HGA.out q e.symm; have h3 := hz45.out; omega)
      have LB8 := Lib.hid (ints_of_lists hk2)
      have LC8 := Lib.hid (ints_of_lists hk3)
      obtain ⟨ac, cc, hvc⟩ : ∃ ac cc, vc = .slice ac k cc := by
        rcases hk3.2 with ⟨h1, h2⟩ | ⟨g, cap, cur, h1, _⟩
        · exact ⟨none, 0, by rw [h1, ← HM.out, h2]⟩
        · exact ⟨_, _, by rw [h1, HM.out]⟩
      subst hvc
      have A8 := Lib.hid (A3.out.on hb)
      have P8 := Lib.hid (P3.out.on hb)
      have Q8 := Lib.hid (Q3.out.on hb)
      have T8 := Lib.hid (T3.out.on hb)
      have HT8 := Lib.hid (HT3.out.on hb)
      have HX8 := Lib.hid (HX3.out.trans (hb.mono HX3.out.size))
      clear hown hgrow hb hsz8 hk2 hk3 A3 P3 Q3 T3 HT3 HX3 A7 P7 Q7 T7 HT7 HX7 HB4 HB7 OB7 OC7 OA R1 R2 R3 R4
      go_wp2_with fail
      refine (equal_any LB8.out LC8.out).mono ?_
      rintro e w9 ⟨rfl, hb⟩
      have hee : decide (P.casts (P.lst a) = P.casts (P.lst a)) = true := decide_eq_true rfl
      rw [hee]
      have A9 := Lib.hid (A8.out.on hb)
      have P9 := Lib.hid (P8.out.on hb)
      have Q9 := Lib.hid (Q8.out.on hb)
      have T9 := Lib.hid (T8.out.on hb)
      have HT9 := Lib.hid (HT8.out.on hb)
      have HX9 := Lib.hid (HX8.out.trans (hb.mono HX8.out.size))
      clear hee hb LB8 LC8 A8 P8 Q8 T8 HT8 HX8
      have k0 := fun d os => (A9.out.grown d os).c0
      have k1 := fun d os => (A9.out.grown d os).c1
      have k2 := fun d os => (A9.out.grown d os).c2
      have k3 := fun d os => (A9.out.grown d os).c3
      have p0 := fun d os => (P9.out.grown d os).c0
      have p1 := fun d os => (P9.out.grown d os).c1
      have p2 := fun d os => (P9.out.grown d os).c2
      have p3 := fun d os => (P9.out.grown d os).c3
      have q0 := fun d os => (Q9.out.grown d os).c0
      have q1 := fun d os => (Q9.out.grown d os).c1
      have q2 := fun d os => (Q9.out.grown d os).c2
      have q3 := fun d os => (Q9.out.grown d os).c3
      have es := fun w => set_eq a a w
      go_wp2_with fail
      refine wp_region_quiet_below (by kernel_rfl) (by kernel_rfl) ?_
      repeat (first | (go_big_quiet_want; refine quiet_load_ref _ rfl _ _ rfl T9.out.all ?_; go_big_quiet_on; simp only [Act.put, List.setIfInBounds_toArray, List.set_cons_succ, List.set_cons_zero]) | go_big_quiet_step (first | (go_at_call 22; exact cHas _ _ _ _ _) | (go_at_call 24; exact cLen _ _ _ _) | (go_at_call 26; exact cLeast _ _ HT9.out _ _) | (go_at_call 28; exact cIn _ _ _ _ _) | (go_at_call 23; exact cRHas _ _ _ _ _) | (go_at_call 25; exact cRLen _ _ _ _) | (go_at_call 27; exact cRLeast _ _ _ _) | (go_at_call 29; exact cRIn _ _ _ _ _) | (go_at_call 19; exact cFrom _ _ _ _)) | quiet_step (first | (go_at_call 22; exact cHas _ _ _ _ _) | (go_at_call 24; exact cLen _ _ _ _) | (go_at_call 26; exact cLeast _ _ HT9.out _ _) | (go_at_call 28; exact cIn _ _ _ _ _) | (go_at_call 23; exact cRHas _ _ _ _ _) | (go_at_call 25; exact cRLen _ _ _ _) | (go_at_call 27; exact cRLeast _ _ _ _) | (go_at_call 29; exact cRIn _ _ _ _ _) | (go_at_call 19; exact cFrom _ _ _ _)))
      refine wpQuiet_nil ?_
      intro _ hw'
      obtain ⟨⟨dq, osq⟩, hw''⟩ := hw'
      subst hw''
      have hb := below_regrown w9 dq osq
      have HXX := Lib.hid (HX9.out.trans (hb.mono HX9.out.size))
      go_wp2_with fail
      go_ret
      exact ⟨rfl, HXX.out⟩
end W
end Go.Proofs.YtoopjgajpooehaaDoor
