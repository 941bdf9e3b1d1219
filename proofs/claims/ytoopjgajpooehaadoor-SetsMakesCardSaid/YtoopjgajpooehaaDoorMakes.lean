/- Every Full and Of, against the document's: the walk of the law, for every number and list, in whatever memory. -/
import Derived.Test.YtoopjgajpooehaaDoorEqual
import Derived.Test.YtoopjgajpooehaaDoorRefWords
import Derived.Test.YtoopjgajpooehaaDoorRefFull
import Derived.Test.YtoopjgajpooehaaDoorRefOf
import Derived.Test.YtoopjgajpooehaaDoorShow
import Derived.Laws.AppendOwnNone
namespace Go.Proofs.YtoopjgajpooehaaDoor
open Go.RowKit Go.Sort
namespace W

theorem cRFull (W : World) (n : Int) (d : Nat) (os : Array Obj) : Calls Tryd.prog 17 #[.int .i64 n] (grow (redrawn W d) os) fun e w'' => e = .returned (.agg (P.truths (P.full n))) ∧ ∃ p : Regrown, w'' = grow (redrawn W p.d) p.os := Calls.regrown_of (rfull_any n _)
theorem cROf (W : World) (v : Value) (zs : List Int) (h : Ints W v zs) (d : Nat) (os : Array Obj) : Calls Tryd.prog 18 #[v] (grow (redrawn W d) os) fun e w'' => e = .returned (.agg (P.truths (P.ofL zs))) ∧ ∃ p : Regrown, w'' = grow (redrawn W p.d) p.os := Calls.regrown_of (rof_any (h.on (below_regrown W d os)))
theorem cSameTrue (W : World) (s : BitVec 256) (d : Nat) (os : Array Obj) : Calls Tryd.prog 16 #[.agg #[.int .u64 (P.wrd s 0), .int .u64 (P.wrd s 1), .int .u64 (P.wrd s 2), .int .u64 (P.wrd s 3)], .agg (P.truths s)] (grow (redrawn W d) os) fun e w'' => e = .returned (.bool true) ∧ ∃ p : Regrown, w'' = grow (redrawn W p.d) p.os := by
  have h := same_any s s (grow (redrawn W d) os)
  rw [show decide (s = s) = true from decide_eq_true rfl] at h
  exact Calls.regrown_of h
/-- A list as it may come in: none at all, or a place with its numbers. -/
def Came (w : World) (v : Value) (zs : List Int) : Prop :=
  (v = .slice none 0 0 ∧ zs = []) ∨ ∃ (x : Addr) (cap : Nat), v = .slice (some x) zs.length cap ∧ ∀ j, j < zs.length → w.cell? (x.add j) = some (.int .i64 (zs.getD j 0))
theorem append_none {P : Program} {w : World} {ops : Array Oper} {rest : List Oper} {o : Oper} {a : Act} {Q : Exit → Act → World → Prop} (hgd : o.guard = none) (s x : Operand) (t : TypeId)
    (ho : o.op = .call { callee := .builtin .append, args := #[s, x], argTypes := #[t, t] })
    (base : Nat) (e : TypeId) (i : TypeInfo) (size : Nat) (ht : P.underlying t = some (.slice e)) (hi : P.info? e = some i)
    (v : Value) (n : Nat) (xs : List Value) (hs : a.eval s = v) (hown : w.ownsRow base e size v n xs) (hx : a.eval x = .slice none 0 0)
    (h : ∀ w', Hid (w' = w) → wpList P ops Q rest (a.put o.dst v) w') : wpList P ops Q (o :: rest) a w :=
  wpList_append_own_none hgd s x t ho base e i size ht hi v n xs hs hown hx (h w (Lib.hid rfl))
def vints (zs : List Int) : List Value := zs.map fun z => .int .i64 z
set_option maxRecDepth 100000 in
set_option maxHeartbeats 2000000 in
theorem makes_some (n : Int) (x : Addr) (cap : Nat) (zs : List Int) (w : World) (hT : Hid (Tab w)) (hv : Hid (Ints w (.slice (some x) zs.length cap) zs))
    (hx : Hid (∀ j, j < zs.length → w.cell? (x.add j) = some (.int .i64 (zs.getD j 0)))) (hz : zs.length * 8 ≤ 140737488351232) :
    Calls Tryd.prog 3 #[.int .i64 n, .slice (some x) zs.length cap] w fun e w' => e = .returned (.bool true) ∧ Below w.heap.size w w' := by
  obtain ⟨i0, hi, hz0, hz1, hz2⟩ := info_parts int_info
  go_enter Tryd.func3, Tryd.ntmps3
  go_wp2_with fail
  refine (shown_any _ hT.out).mono ?_
  rintro e w1 ⟨rfl, hb⟩
  have HW1 := Lib.hid hb
  have HT1 := Lib.hid (hT.out.on hb)
  clear hb
  have own0 := Lib.hid (show (w1.alloc (.cells #[] 3)).ownsRow w1.heap.size 3 1 (.slice (some ⟨w1.heap.size, 0, none⟩) 0 0) 0 [] from ⟨rfl, .inr ⟨w1.heap.size, 0, #[], rfl, Nat.le_refl _, heap_alloc_new w1 _, Nat.le_refl _, by decide, rfl, rfl⟩⟩)
  have hxx := Lib.hid (show ∀ j u, (vints zs)[j]? = some u → (w1.alloc (.cells #[] 3)).cell? (x.add j) = some u by
    intro j u hu
    unfold vints at hu
    rw [List.getElem?_map] at hu
    cases hg : zs[j]? with
    | none => rw [hg] at hu; cases hu
    | some z =>
      rw [hg] at hu
      obtain rfl : Value.int .i64 z = u := by simpa using hu
      have hj : j < zs.length := (List.getElem?_eq_some_iff.1 hg).1
      have hc := hx.out j hj
      have hb2 := (HW1.out.alloc HW1.out.size (.cells #[] 3)).cell (block_lt_of_cell hc)
      rw [hb2, hc]
      simp [List.getD, hg])
  go_wp2_with (at_builtin; refine wpList_append_own _ rfl _ _ 22 rfl w1.heap.size 3 i0 (.int .i64 0) 1 8 Tryd.underlying22 hi hz0 hz1 hz2 rfl (by decide) _ _ _ rfl own0.out x zs.length cap (vints zs) rfl ?c1 hxx.out ?c2 ?c3 ?c4 ?c5 ?_)
  case c1 => unfold vints; simp
  case c2 => intro u hu; unfold vints at hu; obtain ⟨z, _, rfl⟩ := List.mem_map.1 hu; rfl
  case c3 => unfold maxLen; omega
  case c4 => omega
  case c5 => simp
  intro v2 w2 hown hgrow _
  have HO2 := Lib.hid hown
  have HW2 := Lib.hid (show Below w1.heap.size w1 w2 from ((Below.refl _ _).alloc (Nat.le_refl _) _).grown hgrow (by simp) (fun q hq => (own0.out.lt q hq).1))
  clear hown hgrow own0 hxx
  go_wp2_with (at_builtin; refine wpList_append_own _ rfl _ _ 22 rfl w1.heap.size 3 i0 (.int .i64 0) 1 8 Tryd.underlying22 hi hz0 hz1 hz2 rfl (by decide) _ _ _ rfl (HO2.out.alloc _) ⟨w2.heap.size, 0, none⟩ 2 2 [.int .i64 7, .int .i64 8] rfl rfl ?c1 ?c2 ?c3 ?c4 ?c5 ?_)
  case c1 =>
    intro j u hj
    match j, hj with
    | 0, hj => simp at hj; subst hj; simp [Addr.add]
    | 1, hj => simp at hj; subst hj; simp [Addr.add]
  case c2 => intro u hu; simp at hu; rcases hu with rfl | rfl <;> rfl
  case c3 => unfold maxLen; omega
  case c4 => omega
  case c5 => have := HW2.out.size; simp; omega
  intro v3 w3 hown hgrow _
  have HW3 := Lib.hid (show Below w1.heap.size w1 w3 from (HW2.out.alloc HW2.out.size _).grown hgrow (by have := HW2.out.size; simp; omega) (fun q hq => (HO2.out.lt q hq).1))
  obtain ⟨g, cap3, rfl, hg1, hg2, hcap, HC3⟩ : ∃ g cap3, v3 = .slice (some ⟨g, 0, none⟩) (zs.length + 2) cap3 ∧ w1.heap.size ≤ g ∧ g < w3.heap.size ∧ zs.length + 2 ≤ cap3 ∧ Hid (∀ j, j < zs.length + 2 → w3.cell? ⟨g, j, none⟩ = (vints zs ++ [.int .i64 7, .int .i64 8])[j]?) := by
    rcases hown.2 with ⟨_, h0⟩ | ⟨g, cap3, cur, h1, h2, h3, h4, h5, h6⟩
    · omega
    · subst h1
      refine ⟨g, cap3, rfl, h2, (hown.lt g rfl).2, h4, Lib.hid fun j hj => ?_⟩
      exact hown.cellAt j (by omega)
  clear hown hgrow HW2 HO2
  have HI3 := Lib.hid (show Ints w3 (.slice (some ⟨g, 0, none⟩) zs.length cap3) zs from ⟨some ⟨g, 0, none⟩, cap3, rfl, by unfold maxLen; omega, .inr ⟨g, 0, rfl, hg2, fun j hj => by
    rw [Nat.zero_add, HC3.out j (by omega), List.getElem?_append_left (by unfold vints; simpa using hj)]
    unfold vints
    simp [List.getD, hj]⟩⟩)
  have h7 := Lib.hid (show w3.cell? ⟨g, zs.length, none⟩ = some (.int .i64 7) by
    rw [HC3.out _ (by omega), List.getElem?_append_right (by unfold vints; simp)]
    unfold vints
    simp)
  have h8 := Lib.hid (show w3.cell? ⟨g, zs.length + 1, none⟩ = some (.int .i64 8) by
    rw [HC3.out _ (by omega), List.getElem?_append_right (by unfold vints; simp)]
    unfold vints
    simp)
  have HW3' := Lib.hid (HW1.out.trans (HW3.out.mono HW1.out.size))
  have HT3 := Lib.hid (HT1.out.on HW3.out)
  clear HC3 HW3 HT1 HW1
  go_wp2_with fail
  refine (full_any _ _).mono ?_
  rintro e w4 ⟨rfl, hb⟩
  go_wp2_with fail
  obtain ⟨W5, hW5⟩ : ∃ X : World, X = w4.alloc (.cells #[.int .u64 (P.wrd (P.full n) 0), .int .u64 (P.wrd (P.full n) 1), .int .u64 (P.wrd (P.full n) 2), .int .u64 (P.wrd (P.full n) 3)] 26) := ⟨_, rfl⟩
  have HA5 := Lib.hid (show Blk W5 w4.heap.size (P.full n) 26 by rw [hW5]; exact Blk.new _ _ _)
  have hb5 : Below w3.heap.size w3 W5 := by rw [hW5]; exact hb.alloc hb.size _
  rw [← hW5]
  have HI5 := Lib.hid (HI3.out.on hb5)
  have HW5 := Lib.hid (HW3'.out.trans (hb5.mono HW3'.out.size))
  have HB5 := Lib.hid hb5
  clear hW5 hb hb5 HI3 HW3'
  refine (of_ints HI5.out).mono ?_
  rintro e w6 ⟨rfl, hb⟩
  go_wp2_with fail
  obtain ⟨W7, hW7⟩ : ∃ X : World, X = w6.alloc (.cells #[.int .u64 (P.wrd (P.ofL zs) 0), .int .u64 (P.wrd (P.ofL zs) 1), .int .u64 (P.wrd (P.ofL zs) 2), .int .u64 (P.wrd (P.ofL zs) 3)] 26) := ⟨_, rfl⟩
  have HB7 := Lib.hid (show Blk W7 w6.heap.size (P.ofL zs) 26 by rw [hW7]; exact Blk.new _ _ _)
  have hb7 : Below W5.heap.size W5 W7 := by rw [hW7]; exact hb.alloc hb.size _
  rw [← hW7]
  have HA7 := Lib.hid (HA5.out.on hb7)
  have HI7 := Lib.hid (HI5.out.on hb7)
  have HW7 := Lib.hid (HW5.out.trans (hb7.mono HW5.out.size))
  have HX7 := Lib.hid (HB5.out.trans (hb7.mono HB5.out.size))
  have HL7 := Lib.hid (hv.out.on HW7.out)
  clear hW7 hb hb7 HA5 HI5 HW5 HB5
  refine (equal_any HI7.out HL7.out).mono ?_
  rintro e w8 ⟨rfl, hb⟩
  have hee : decide (zs = zs) = true := decide_eq_true rfl
  rw [hee]
  have HX8 := Lib.hid (HX7.out.trans (hb.mono HX7.out.size))
  have HW8 := Lib.hid (HW7.out.trans (hb.mono HW7.out.size))
  have HA8 := Lib.hid (HA7.out.on hb)
  have HB8 := Lib.hid (HB7.out.on hb)
  have g7 := (HX8.out.cell (p := ⟨g, zs.length, none⟩) hg2).trans h7.out
  have g8 := (HX8.out.cell (p := ⟨g, zs.length + 1, none⟩) hg2).trans h8.out
  clear hb hee HX7 HW7 HA7 HB7 HL7 HI7
  go_wp2_with fail
  have HL8 := Lib.hid (hv.out.on HW8.out)
  clear g7 g8 HX8 h7 h8 HT3 hT
  have es1 : decide (P.full n = P.full n) = true := decide_eq_true rfl
  have es2 : decide (P.ofL zs = P.ofL zs) = true := decide_eq_true rfl
  have k0 := fun d os => (HA8.out.grown d os).c0
  have k1 := fun d os => (HA8.out.grown d os).c1
  have k2 := fun d os => (HA8.out.grown d os).c2
  have k3 := fun d os => (HA8.out.grown d os).c3
  have l0 := fun d os => (HB8.out.grown d os).c0
  have l1 := fun d os => (HB8.out.grown d os).c1
  have l2 := fun d os => (HB8.out.grown d os).c2
  have l3 := fun d os => (HB8.out.grown d os).c3
  refine wp_region_quiet_below (by kernel_rfl) (by kernel_rfl) ?_
  repeat (first | go_big_quiet_step (first | (go_at_call 17; exact cRFull _ _ _ _) | (go_at_call 16; exact cSameTrue _ _ _ _)) | quiet_step (first | (go_at_call 17; exact cRFull _ _ _ _) | (go_at_call 16; exact cSameTrue _ _ _ _)))
  refine wpQuiet_nil ?_
  intro _ hw'
  obtain ⟨⟨dq, osq⟩, hw''⟩ := hw'
  subst hw''
  have hb := below_regrown w8 dq osq
  obtain ⟨w9, hWN⟩ : ∃ X : World, X = grow (redrawn w8 dq) osq := ⟨_, rfl⟩
  rw [← hWN] at hb ⊢
  clear hWN
  have HA9 := Lib.hid (HA8.out.on hb)
  have HB9 := Lib.hid (HB8.out.on hb)
  have HW9 := Lib.hid (HW8.out.trans (hb.mono HW8.out.size))
  clear hb HA8 HB8 HW8 k0 k1 k2 k3 l0 l1 l2 l3
  go_wp2_with fail
  have k0 := fun d os => (HA9.out.grown d os).c0
  have k1 := fun d os => (HA9.out.grown d os).c1
  have k2 := fun d os => (HA9.out.grown d os).c2
  have k3 := fun d os => (HA9.out.grown d os).c3
  have l0 := fun d os => (HB9.out.grown d os).c0
  have l1 := fun d os => (HB9.out.grown d os).c1
  have l2 := fun d os => (HB9.out.grown d os).c2
  have l3 := fun d os => (HB9.out.grown d os).c3
  refine wp_region_quiet_below (by kernel_rfl) (by kernel_rfl) ?_
  repeat (first | go_big_quiet_step (first | (go_at_call 18; exact cROf _ _ _ (hv.out.on HW9.out) _ _) | (go_at_call 16; exact cSameTrue _ _ _ _)) | quiet_step (first | (go_at_call 18; exact cROf _ _ _ (hv.out.on HW9.out) _ _) | (go_at_call 16; exact cSameTrue _ _ _ _)))
  refine wpQuiet_nil ?_
  intro _ hw'
  obtain ⟨⟨dq, osq⟩, hw''⟩ := hw'
  subst hw''
  have hb := below_regrown w9 dq osq
  obtain ⟨w10, hWN⟩ : ∃ X : World, X = grow (redrawn w9 dq) osq := ⟨_, rfl⟩
  rw [← hWN] at hb ⊢
  clear hWN
  have HA10 := Lib.hid (HA9.out.on hb)
  have HB10 := Lib.hid (HB9.out.on hb)
  have HW10 := Lib.hid (HW9.out.trans (hb.mono HW9.out.size))
  clear hb HA9 HB9 HW9 k0 k1 k2 k3 l0 l1 l2 l3
  go_wp2_with fail
  go_ret
  exact ⟨rfl, HW10.out⟩
set_option maxRecDepth 100000 in
set_option maxHeartbeats 2000000 in
theorem makes_none (n : Int) (zs : List Int) (w : World) (hT : Hid (Tab w)) (hv : Hid (Ints w (.slice none zs.length 0) zs))
    (HZ : Hid (zs = [])) (hz : zs.length * 8 ≤ 140737488351232) :
    Calls Tryd.prog 3 #[.int .i64 n, .slice none zs.length 0] w fun e w' => e = .returned (.bool true) ∧ Below w.heap.size w w' := by
  obtain ⟨i0, hi, hz0, hz1, hz2⟩ := info_parts int_info
  go_enter Tryd.func3, Tryd.ntmps3
  go_wp2_with fail
  refine (shown_any _ hT.out).mono ?_
  rintro e w1 ⟨rfl, hb⟩
  have HW1 := Lib.hid hb
  have HT1 := Lib.hid (hT.out.on hb)
  clear hb
  have own0 := Lib.hid (show (w1.alloc (.cells #[] 3)).ownsRow w1.heap.size 3 1 (.slice (some ⟨w1.heap.size, 0, none⟩) 0 0) 0 [] from ⟨rfl, .inr ⟨w1.heap.size, 0, #[], rfl, Nat.le_refl _, heap_alloc_new w1 _, Nat.le_refl _, by decide, rfl, rfl⟩⟩)
  go_wp2_with (at_builtin; refine append_none rfl _ _ 22 rfl w1.heap.size 3 i0 1 Tryd.underlying22 hi _ _ _ rfl own0.out (by rw [HZ.out]; rfl) ?_)
  intro w2 hw2h
  have hw2 := hw2h.out
  clear hw2h
  rw [← hw2] at own0
  have HO2 := Lib.hid (show w2.ownsRow w1.heap.size 3 1 (.slice (some ⟨w1.heap.size, 0, none⟩) 0 0) zs.length (vints zs) by rw [HZ.out]; exact own0.out)
  have HW2 := Lib.hid (show Below w1.heap.size w1 w2 by rw [hw2]; exact (Below.refl _ _).alloc (Nat.le_refl _) _)
  clear own0 hw2
  go_wp2_with (at_builtin; refine wpList_append_own _ rfl _ _ 22 rfl w1.heap.size 3 i0 (.int .i64 0) 1 8 Tryd.underlying22 hi hz0 hz1 hz2 rfl (by decide) _ _ _ rfl (HO2.out.alloc _) ⟨w2.heap.size, 0, none⟩ 2 2 [.int .i64 7, .int .i64 8] rfl rfl ?c1 ?c2 ?c3 ?c4 ?c5 ?_)
  case c1 =>
    intro j u hj
    match j, hj with
    | 0, hj => simp at hj; subst hj; simp [Addr.add]
    | 1, hj => simp at hj; subst hj; simp [Addr.add]
  case c2 => intro u hu; simp at hu; rcases hu with rfl | rfl <;> rfl
  case c3 => unfold maxLen; omega
  case c4 => omega
  case c5 => have := HW2.out.size; simp; omega
  intro v3 w3 hown hgrow _
  have HW3 := Lib.hid (show Below w1.heap.size w1 w3 from (HW2.out.alloc HW2.out.size _).grown hgrow (by have := HW2.out.size; simp; omega) (fun q hq => (HO2.out.lt q hq).1))
  obtain ⟨g, cap3, rfl, hg1, hg2, hcap, HC3⟩ : ∃ g cap3, v3 = .slice (some ⟨g, 0, none⟩) (zs.length + 2) cap3 ∧ w1.heap.size ≤ g ∧ g < w3.heap.size ∧ zs.length + 2 ≤ cap3 ∧ Hid (∀ j, j < zs.length + 2 → w3.cell? ⟨g, j, none⟩ = (vints zs ++ [.int .i64 7, .int .i64 8])[j]?) := by
    rcases hown.2 with ⟨_, h0⟩ | ⟨g, cap3, cur, h1, h2, h3, h4, h5, h6⟩
    · omega
    · subst h1
      refine ⟨g, cap3, rfl, h2, (hown.lt g rfl).2, h4, Lib.hid fun j hj => ?_⟩
      exact hown.cellAt j (by omega)
  clear hown hgrow HW2 HO2
  have HI3 := Lib.hid (show Ints w3 (.slice (some ⟨g, 0, none⟩) zs.length cap3) zs from ⟨some ⟨g, 0, none⟩, cap3, rfl, by unfold maxLen; omega, .inr ⟨g, 0, rfl, hg2, fun j hj => by
    rw [Nat.zero_add, HC3.out j (by omega), List.getElem?_append_left (by unfold vints; simpa using hj)]
    unfold vints
    simp [List.getD, hj]⟩⟩)
  have h7 := Lib.hid (show w3.cell? ⟨g, zs.length, none⟩ = some (.int .i64 7) by
    rw [HC3.out _ (by omega), List.getElem?_append_right (by unfold vints; simp)]
    unfold vints
    simp)
  have h8 := Lib.hid (show w3.cell? ⟨g, zs.length + 1, none⟩ = some (.int .i64 8) by
    rw [HC3.out _ (by omega), List.getElem?_append_right (by unfold vints; simp)]
    unfold vints
    simp)
  have HW3' := Lib.hid (HW1.out.trans (HW3.out.mono HW1.out.size))
  have HT3 := Lib.hid (HT1.out.on HW3.out)
  clear HC3 HW3 HT1 HW1
  go_wp2_with fail
  refine (full_any _ _).mono ?_
  rintro e w4 ⟨rfl, hb⟩
  go_wp2_with fail
  obtain ⟨W5, hW5⟩ : ∃ X : World, X = w4.alloc (.cells #[.int .u64 (P.wrd (P.full n) 0), .int .u64 (P.wrd (P.full n) 1), .int .u64 (P.wrd (P.full n) 2), .int .u64 (P.wrd (P.full n) 3)] 26) := ⟨_, rfl⟩
  have HA5 := Lib.hid (show Blk W5 w4.heap.size (P.full n) 26 by rw [hW5]; exact Blk.new _ _ _)
  have hb5 : Below w3.heap.size w3 W5 := by rw [hW5]; exact hb.alloc hb.size _
  rw [← hW5]
  have HI5 := Lib.hid (HI3.out.on hb5)
  have HW5 := Lib.hid (HW3'.out.trans (hb5.mono HW3'.out.size))
  have HB5 := Lib.hid hb5
  clear hW5 hb hb5 HI3 HW3'
  refine (of_ints HI5.out).mono ?_
  rintro e w6 ⟨rfl, hb⟩
  go_wp2_with fail
  obtain ⟨W7, hW7⟩ : ∃ X : World, X = w6.alloc (.cells #[.int .u64 (P.wrd (P.ofL zs) 0), .int .u64 (P.wrd (P.ofL zs) 1), .int .u64 (P.wrd (P.ofL zs) 2), .int .u64 (P.wrd (P.ofL zs) 3)] 26) := ⟨_, rfl⟩
  have HB7 := Lib.hid (show Blk W7 w6.heap.size (P.ofL zs) 26 by rw [hW7]; exact Blk.new _ _ _)
  have hb7 : Below W5.heap.size W5 W7 := by rw [hW7]; exact hb.alloc hb.size _
  rw [← hW7]
  have HA7 := Lib.hid (HA5.out.on hb7)
  have HI7 := Lib.hid (HI5.out.on hb7)
  have HW7 := Lib.hid (HW5.out.trans (hb7.mono HW5.out.size))
  have HX7 := Lib.hid (HB5.out.trans (hb7.mono HB5.out.size))
  have HL7 := Lib.hid (hv.out.on HW7.out)
  clear hW7 hb hb7 HA5 HI5 HW5 HB5
  refine (equal_any HI7.out HL7.out).mono ?_
  rintro e w8 ⟨rfl, hb⟩
  have hee : decide (zs = zs) = true := decide_eq_true rfl
  rw [hee]
  have HX8 := Lib.hid (HX7.out.trans (hb.mono HX7.out.size))
  have HW8 := Lib.hid (HW7.out.trans (hb.mono HW7.out.size))
  have HA8 := Lib.hid (HA7.out.on hb)
  have HB8 := Lib.hid (HB7.out.on hb)
  have g7 := (HX8.out.cell (p := ⟨g, zs.length, none⟩) hg2).trans h7.out
  have g8 := (HX8.out.cell (p := ⟨g, zs.length + 1, none⟩) hg2).trans h8.out
  clear hb hee HX7 HW7 HA7 HB7 HL7 HI7
  go_wp2_with fail
  have HL8 := Lib.hid (hv.out.on HW8.out)
  clear g7 g8 HX8 h7 h8 HT3 hT
  have es1 : decide (P.full n = P.full n) = true := decide_eq_true rfl
  have es2 : decide (P.ofL zs = P.ofL zs) = true := decide_eq_true rfl
  have k0 := fun d os => (HA8.out.grown d os).c0
  have k1 := fun d os => (HA8.out.grown d os).c1
  have k2 := fun d os => (HA8.out.grown d os).c2
  have k3 := fun d os => (HA8.out.grown d os).c3
  have l0 := fun d os => (HB8.out.grown d os).c0
  have l1 := fun d os => (HB8.out.grown d os).c1
  have l2 := fun d os => (HB8.out.grown d os).c2
  have l3 := fun d os => (HB8.out.grown d os).c3
  refine wp_region_quiet_below (by kernel_rfl) (by kernel_rfl) ?_
  repeat (first | go_big_quiet_step (first | (go_at_call 17; exact cRFull _ _ _ _) | (go_at_call 16; exact cSameTrue _ _ _ _)) | quiet_step (first | (go_at_call 17; exact cRFull _ _ _ _) | (go_at_call 16; exact cSameTrue _ _ _ _)))
  refine wpQuiet_nil ?_
  intro _ hw'
  obtain ⟨⟨dq, osq⟩, hw''⟩ := hw'
  subst hw''
  have hb := below_regrown w8 dq osq
  obtain ⟨w9, hWN⟩ : ∃ X : World, X = grow (redrawn w8 dq) osq := ⟨_, rfl⟩
  rw [← hWN] at hb ⊢
  clear hWN
  have HA9 := Lib.hid (HA8.out.on hb)
  have HB9 := Lib.hid (HB8.out.on hb)
  have HW9 := Lib.hid (HW8.out.trans (hb.mono HW8.out.size))
  clear hb HA8 HB8 HW8 k0 k1 k2 k3 l0 l1 l2 l3
  go_wp2_with fail
  have k0 := fun d os => (HA9.out.grown d os).c0
  have k1 := fun d os => (HA9.out.grown d os).c1
  have k2 := fun d os => (HA9.out.grown d os).c2
  have k3 := fun d os => (HA9.out.grown d os).c3
  have l0 := fun d os => (HB9.out.grown d os).c0
  have l1 := fun d os => (HB9.out.grown d os).c1
  have l2 := fun d os => (HB9.out.grown d os).c2
  have l3 := fun d os => (HB9.out.grown d os).c3
  refine wp_region_quiet_below (by kernel_rfl) (by kernel_rfl) ?_
  repeat (first | go_big_quiet_step (first | (go_at_call 18; exact cROf _ _ _ (hv.out.on HW9.out) _ _) | (go_at_call 16; exact cSameTrue _ _ _ _)) | quiet_step (first | (go_at_call 18; exact cROf _ _ _ (hv.out.on HW9.out) _ _) | (go_at_call 16; exact cSameTrue _ _ _ _)))
  refine wpQuiet_nil ?_
  intro _ hw'
  obtain ⟨⟨dq, osq⟩, hw''⟩ := hw'
  subst hw''
  have hb := below_regrown w9 dq osq
  obtain ⟨w10, hWN⟩ : ∃ X : World, X = grow (redrawn w9 dq) osq := ⟨_, rfl⟩
  rw [← hWN] at hb ⊢
  clear hWN
  have HA10 := Lib.hid (HA9.out.on hb)
  have HB10 := Lib.hid (HB9.out.on hb)
  have HW10 := Lib.hid (HW9.out.trans (hb.mono HW9.out.size))
  clear hb HA9 HB9 HW9 k0 k1 k2 k3 l0 l1 l2 l3
  go_wp2_with fail
  go_ret
  exact ⟨rfl, HW10.out⟩
theorem makes_any (n : Int) (v : Value) (zs : List Int) (w : World) (hT : Tab w) (hv : Ints w v zs) (hc : Came w v zs) (hz : zs.length * 8 ≤ 140737488351232) :
    Calls Tryd.prog 3 #[.int .i64 n, v] w fun e w' => e = .returned (.bool true) ∧ Below w.heap.size w w' := by
  rcases hc with ⟨rfl, rfl⟩ | ⟨x, cap, rfl, hx⟩
  · exact makes_none n [] w (Lib.hid hT) (Lib.hid hv) (Lib.hid rfl) hz
  · exact makes_some n x cap zs w (Lib.hid hT) (Lib.hid hv) (Lib.hid hx) hz
end W
end Go.Proofs.YtoopjgajpooehaaDoor
