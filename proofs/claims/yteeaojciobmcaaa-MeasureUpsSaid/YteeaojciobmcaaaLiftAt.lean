/- A lift at a place of the lifter. -/
import Derived.Test.YteeaojciobmcaaaLifter
import Derived.Test.YteeaojciobmcaaaTupEq
import Derived.Deep.Cut
import Derived.Lib.Hide
import Derived.Deep.QuietTactic
import Derived.BigQuiet
namespace Go.Proofs.Yteeaojciobmcaaa
open Go.RowKit
namespace W

section
variable {wb : World} {N n qL pt pB pp pw qo ko : Nat} {s0 s1 s2 : Value} {bt : P.Tup} {O : List Nat} {B : List (List Int)} {L : List Value} {l : List P.Tup} {m : Nat → Int} {Wt : Nat → Bool} {w : World}
theorem Lm.tcell (h : Lm wb N n qL pt pB pp pw qo ko s0 s1 s2 bt O B L l m Wt w) {x : Nat} (hx : x < n) {t : P.Tup} (ht : l.getD x .zero = t) (j : Nat) (u : Value) (hu : (tl t)[j]? = some u) : w.cell? ⟨pt, x * 5 + j, none⟩ = some u := by
  refine h.tups.cell _ u ?_
  have hj : j < 5 := (List.getElem?_eq_some_iff.1 hu).1
  unfold flatT
  rw [List.getElem?_toArray, flatL_at l x j (by rw [h.llen]; exact hx) hj, ht]
  exact hu
/-- A tuple is stored beside. -/
theorem Lm.fresh (h : Lm wb N n qL pt pB pp pw qo ko s0 s1 s2 bt O B L l m Wt w) {q : Nat} (hq : N ≤ q) (t : P.Tup) (hr : ∀ (j : Nat) (v : Value), L[j]? = some v → v.ownBlock ≠ some q) : Lm wb N n qL pt pB pp pw qo ko s0 s1 s2 bt O B L l m Wt (((((w.setCell ⟨q, 0, none⟩ (.bool t.top)).setCell ⟨q, 1, none⟩ (.int .i64 t.a)).setCell ⟨q, 2, none⟩ (.int .i64 t.b)).setCell ⟨q, 3, none⟩ (.int .i64 t.c)).setCell ⟨q, 4, none⟩ (.int .i64 t.d)) := by
  have far : ∀ b, b < N → b ≠ q := fun b hb => by omega
  have hx := h.his
  have hs : w.grownBy (((((w.setCell ⟨q, 0, none⟩ (.bool t.top)).setCell ⟨q, 1, none⟩ (.int .i64 t.a)).setCell ⟨q, 2, none⟩ (.int .i64 t.b)).setCell ⟨q, 3, none⟩ (.int .i64 t.c)).setCell ⟨q, 4, none⟩ (.int .i64 t.d)) (some q) := ((((grown_set w ⟨q, 0, none⟩ (.bool t.top)).trans (grown_set _ ⟨q, 1, none⟩ (.int .i64 t.a))).trans (grown_set _ ⟨q, 2, none⟩ (.int .i64 t.b))).trans (grown_set _ ⟨q, 3, none⟩ (.int .i64 t.c))).trans (grown_set _ ⟨q, 4, none⟩ (.int .i64 t.d))
  have bx : ∀ {b : Nat} {ty : TypeId} {cs : Array Value}, Box w b ty cs → b < N → Box (((((w.setCell ⟨q, 0, none⟩ (.bool t.top)).setCell ⟨q, 1, none⟩ (.int .i64 t.a)).setCell ⟨q, 2, none⟩ (.int .i64 t.b)).setCell ⟨q, 3, none⟩ (.int .i64 t.c)).setCell ⟨q, 4, none⟩ (.int .i64 t.d)) b ty cs := fun hb hl => hb.grown hs (fun e => by injection e with e; omega)
  refine ⟨bx h.lbox hx.1, bx h.tups hx.2.1, bx h.head hx.2.2.1, h.rows.kept hs (fun j v hv => .inr (hr j v hv)), own_kept h.ord hs (.inr fun e => by have e : some qo = some q := e; injection e with e; omega), bx h.plc hx.2.2.2.1, bx h.wts hx.2.2.2.2.1, h.low.trans (below_mono_grown hs h.low.size fun k e => ?_), Nat.le_trans h.big hs.size, h.los, h.his, h.apart, h.llen, h.blen⟩
  injection e with e
  have := h.los.1
  omega
end
/-- What a lift at place k, where position x stands, makes of the lifter. -/
def LiftedTo (g : P.G) (_O : List Nat) (B : List (List Int)) (m : Nat → Int) (l : List P.Tup) (Wt : Nat → Bool) (k x : Nat) (l' : List P.Tup) (Wt' : Nat → Bool) (first : Nat) : Prop :=
  (P.Rest g l x ∧ l' = l ∧ first = k ∧ ∀ y, Wt' y = if y = k then false else Wt y) ∨
  (¬ P.Rest g l x ∧ l' = l.set x (g.choose l x).2 ∧ first ≤ k ∧ (∀ y, y < first → Wt' y = true → Wt y = true) ∧ ∀ y, Wt' y = false → (y = k ∨ Wt y = false) ∧ ∀ z ∈ B.getD x [], m z.toNat ≠ (y : Int))
set_option maxRecDepth 100000 in
set_option maxHeartbeats 4000000 in
theorem liftAt_any (g : P.G) (hr : g.Right) (n : Nat) (hn : g.owner.length = n) (wb : World) (N qL pt pB pp pw qo ko ba oa ka bb ob kb bc_ oc kc : Nat) (O : List Nat) (L : List Value) (l : List P.Tup) (m : Nat → Int) (Wt : Nat → Bool) (B : List (List Int)) (hB : B = P.prv n (P.pairs g O))
    (hv : GameV wb (.agg #[.slice (some ⟨ba, oa, none⟩) n ka, .slice (some ⟨bb, ob, none⟩) n kb, .slice (some ⟨bc_, oc, none⟩) n kc]) g) (hO : P.Order n O) (hm : ∀ (i x : Nat), O[i]? = some x → m x = i) (hlow : ∀ j k, k < 4 → -9223372036854775808 ≤ ct (l.getD j .zero) k) (k x : Nat) (hx : O[k]? = some x) (w : World) (h : Lm wb N n qL pt pB pp pw qo ko (.slice (some ⟨ba, oa, none⟩) n ka) (.slice (some ⟨bb, ob, none⟩) n kb) (.slice (some ⟨bc_, oc, none⟩) n kc) g.tups O B L l m Wt w) :
    Calls Try.prog 45 #[.pointer (some ⟨qL, 0, none⟩), .int .i64 (k : Int)] w fun e w' => ∃ first l' Wt', e = .returned (.int .i64 (first : Nat)) ∧ Lm wb N n qL pt pB pp pw qo ko (.slice (some ⟨ba, oa, none⟩) n ka) (.slice (some ⟨bb, ob, none⟩) n kb) (.slice (some ⟨bc_, oc, none⟩) n kc) g.tups O B L l' m Wt' w' ∧ LiftedTo g O B m l Wt k x l' Wt' first := by
  have hmany := hr.many
  have h0 := hr.pos
  rw [hn] at hmany h0
  have hxn : x < n := (hO.2 x).1 (List.mem_of_getElem? hx)
  have hkn : k < n := by
    have := (List.getElem?_eq_some_iff.1 hx).1
    rw [hO.len] at this
    exact this
  have hki : (k : Int) < (n : Int) := by omega
  have hk0 : (0 : Int) ≤ (k : Int) := Int.natCast_nonneg _
  have co : w.cell? ⟨qo, k, none⟩ = some (.int .i64 (x : Int)) := by
    rw [h.ord.cellAt k (by omega)]
    unfold nv
    rw [List.getElem?_map, hx]
    rfl
  have HLL := Lib.hid (show l.length = g.owner.length by rw [h.llen, hn])
  have HV := Lib.hid hv
  have HR := Lib.hid hr
  have HN := Lib.hid hn
  have HO := Lib.hid hO
  have HM := Lib.hid hm
  have HX := Lib.hid hx
  have HXN := Lib.hid hxn
  have HKN := Lib.hid hkn
  have HB := Lib.hid hB
  have HLOW := Lib.hid hlow
  have lc9 : w.cell? ⟨qL, 9, none⟩ = some (.slice (some ⟨qo, 0, none⟩) n ko) := h.lbox.cell 9 _ rfl
  have lc11 : w.cell? ⟨qL, 11, none⟩ = some (.slice (some ⟨pw, 0, none⟩) n n) := h.lbox.cell 11 _ rfl
  have wc := h.wts.cell k _ (bl_at hkn)
  have wf := h.wts.frozen k
  have HL0 := Lib.hid h
  clear hr hn hO hm hx hxn hB hlow h hv hkn
  go_enter Try.func45, Try.ntmps45
  go_wp2_with fail
  have HL := Lib.hid (HL0.out.setW k false)
  clear lc9 lc11 wc wf co HL0
  generalize (w.setCell ⟨pw, k, none⟩ (.bool false)) = w1 at HL ⊢
  have BIG := Lib.hid HL.out.big
  refine Rt.wp_region_tail 1 (fun idx => match idx with | 0 => (fun v _ _ => v = (.pointer (some ⟨qL, 0, none⟩))) | 1 => (fun v _ _ => v = (.pointer (some ⟨qL, 0, none⟩))) | 2 => (fun v _ _ => v = (.pointer (some ⟨qL, 0, none⟩))) | 3 => (fun v _ _ => v = .agg #[.slice (some ⟨ba, oa, none⟩) n ka, .slice (some ⟨bb, ob, none⟩) n kb, .slice (some ⟨bc_, oc, none⟩) n kc]) | 4 => (fun v _ _ => v = (.pointer (some ⟨qL, 0, none⟩))) | 5 => (fun v _ _ => v = (.pointer (some ⟨qL, 0, none⟩))) | 6 => (fun v _ _ => v = (.pointer (some ⟨qL, 3, none⟩))) | 7 => (fun v _ _ => v = .agg #[.int .i64 g.tups.a, .int .i64 g.tups.b, .int .i64 g.tups.c, .int .i64 g.tups.d]) | 8 => (fun v _ _ => v = (.pointer (some ⟨qL, 0, none⟩))) | 9 => (fun v _ _ => v = (.pointer (some ⟨qL, 0, none⟩))) | 10 => (fun v _ _ => v = (.pointer (some ⟨qL, 7, none⟩))) | 11 => (fun v _ _ => v = (.slice (some ⟨pt, 0, none⟩) n n)) | 12 => (fun v _ _ => v = (.int .i64 (x : Int))) | 13 => (fun v _ _ => v = .agg (tc (g.lift l x))) | 14 => (fun v _ w' => ∃ q, v = .pointer (some ⟨q, 0, none⟩) ∧ w1.heap.size ≤ q ∧ Box w' q 26 (tc .zero)) | _ => fun _ _ _ => True) (fun _ _ _ _ => True) (Rk.allK) 99 (by kernel_rfl) (by rfl) (by kernel_rfl) (by rfl) ?_ ?_ ?_ ?_
  · refine ⟨?_, ?_, ?_, ?_, ?_, ?_, ?_, ?_, ?_, ?_, ?_, ?_, ?_, ?_, ?_, trivial⟩
    · intro A w' K vals h hn hT hgk hK0
      have r0 : A.tmps[0]?.getD undef = .pointer (some ⟨qL, 0, none⟩) := Rg.slot h.1
      clear h hn hT hgk
      simp [Oper.wp, execOp, go_sem, r0]
      exact hK0 _ _ (Rk.Keeps.refl _ _) rfl trivial
    · intro A w' K vals h hn hT hgk hK0
      have r0 : A.tmps[23]?.getD undef = vals 0 := Rg.slot h.1
      have s0 : vals 0 = .pointer (some ⟨qL, 0, none⟩) := hn.1
      clear h hn hT hgk
      simp [Oper.wp, execOp, go_sem, r0, s0]
      exact hK0 _ _ (Rk.Keeps.refl _ _) rfl trivial
    · intro A w' K vals h hn hT hgk hK0
      have r0 : A.tmps[24]?.getD undef = vals 1 := Rg.slot h.1
      have s0 : vals 1 = .pointer (some ⟨qL, 0, none⟩) := hn.1
      clear h hn hT hgk
      simp [Oper.wp, execOp, go_sem, r0, s0]
      exact hK0 _ _ (Rk.Keeps.refl _ _) rfl trivial
    · intro A w' K vals h hn hT hgk hK0
      have r0 : A.tmps[25]?.getD undef = vals 2 := Rg.slot (h.1)
      have r1 : vals 2 = (.pointer (some ⟨qL, 0, none⟩)) := hn.1
      have hbx := (HL.out.on (below_of_grown (Rk.grown_of hgk))).lbox
      have c0 : w'.cell? ⟨qL, 0, none⟩ = some (.slice (some ⟨ba, oa, none⟩) n ka) := hbx.cell 0 _ rfl
      have c1 : w'.cell? ⟨qL, 1, none⟩ = some (.slice (some ⟨bb, ob, none⟩) n kb) := hbx.cell 1 _ rfl
      have c2 : w'.cell? ⟨qL, 2, none⟩ = some (.slice (some ⟨bc_, oc, none⟩) n kc) := hbx.cell 2 _ rfl
      clear h hn hT hgk hbx
      simp [Oper.wp, execOp, go_sem, r0, r1, c0, c1, c2]
      exact hK0 _ _ (Rk.Keeps.refl _ _) rfl trivial
    · intro A w' K vals h hn hT hgk hK0
      have r0 : A.tmps[0]?.getD undef = .pointer (some ⟨qL, 0, none⟩) := Rg.slot h.1
      clear h hn hT hgk
      simp [Oper.wp, execOp, go_sem, r0]
      exact hK0 _ _ (Rk.Keeps.refl _ _) rfl trivial
    · intro A w' K vals h hn hT hgk hK0
      have r0 : A.tmps[27]?.getD undef = vals 4 := Rg.slot h.1
      have s0 : vals 4 = .pointer (some ⟨qL, 0, none⟩) := hn.1
      clear h hn hT hgk
      simp [Oper.wp, execOp, go_sem, r0, s0]
      exact hK0 _ _ (Rk.Keeps.refl _ _) rfl trivial
    · intro A w' K vals h hn hT hgk hK0
      have r0 : A.tmps[28]?.getD undef = vals 5 := Rg.slot h.1
      have s0 : vals 5 = .pointer (some ⟨qL, 0, none⟩) := hn.1
      clear h hn hT hgk
      simp [Oper.wp, execOp, go_sem, r0, s0]
      exact hK0 _ _ (Rk.Keeps.refl _ _) rfl trivial
    · intro A w' K vals h hn hT hgk hK0
      have r0 : A.tmps[29]?.getD undef = vals 6 := Rg.slot (h.1)
      have r1 : vals 6 = (.pointer (some ⟨qL, 3, none⟩)) := hn.1
      have hbx := (HL.out.on (below_of_grown (Rk.grown_of hgk))).lbox
      have c0 : w'.cell? ⟨qL, 3, none⟩ = some (.int .i64 g.tups.a) := hbx.cell 3 _ rfl
      have c1 : w'.cell? ⟨qL, 4, none⟩ = some (.int .i64 g.tups.b) := hbx.cell 4 _ rfl
      have c2 : w'.cell? ⟨qL, 5, none⟩ = some (.int .i64 g.tups.c) := hbx.cell 5 _ rfl
      have c3 : w'.cell? ⟨qL, 6, none⟩ = some (.int .i64 g.tups.d) := hbx.cell 6 _ rfl
      clear h hn hT hgk hbx
      simp [Oper.wp, execOp, go_sem, r0, r1, c0, c1, c2, c3]
      exact hK0 _ _ (Rk.Keeps.refl _ _) rfl trivial
    · intro A w' K vals h hn hT hgk hK0
      have r0 : A.tmps[0]?.getD undef = .pointer (some ⟨qL, 0, none⟩) := Rg.slot h.1
      clear h hn hT hgk
      simp [Oper.wp, execOp, go_sem, r0]
      exact hK0 _ _ (Rk.Keeps.refl _ _) rfl trivial
    · intro A w' K vals h hn hT hgk hK0
      have r0 : A.tmps[31]?.getD undef = vals 8 := Rg.slot h.1
      have s0 : vals 8 = .pointer (some ⟨qL, 0, none⟩) := hn.1
      clear h hn hT hgk
      simp [Oper.wp, execOp, go_sem, r0, s0]
      exact hK0 _ _ (Rk.Keeps.refl _ _) rfl trivial
    · intro A w' K vals h hn hT hgk hK0
      have r0 : A.tmps[32]?.getD undef = vals 9 := Rg.slot h.1
      have s0 : vals 9 = .pointer (some ⟨qL, 0, none⟩) := hn.1
      clear h hn hT hgk
      simp [Oper.wp, execOp, go_sem, r0, s0]
      exact hK0 _ _ (Rk.Keeps.refl _ _) rfl trivial
    · intro A w' K vals h hn hT hgk hK0
      have r0 : A.tmps[33]?.getD undef = vals 10 := Rg.slot (h.1)
      have r1 : vals 10 = (.pointer (some ⟨qL, 7, none⟩)) := hn.1
      have hbx := (HL.out.on (below_of_grown (Rk.grown_of hgk))).lbox
      have c0 : w'.cell? ⟨qL, 7, none⟩ = some (.slice (some ⟨pt, 0, none⟩) n n) := hbx.cell 7 _ rfl
      clear h hn hT hgk hbx
      simp [Oper.wp, execOp, go_sem, r0, r1, c0]
      exact hK0 _ _ (Rk.Keeps.refl _ _) rfl trivial
    · intro A w' K vals h hn hT hgk hK0
      have r0 : A.tmps[5]?.getD undef = .int .i64 (x : Int) := Rg.slot h.1
      clear h hn hT hgk
      simp [Oper.wp, execOp, go_sem, r0]
      exact hK0 _ _ (Rk.Keeps.refl _ _) rfl trivial
    · intro A w' K vals h hn hT hgk hK0
      have r0 : A.tmps[26]?.getD undef = vals 3 := Rg.slot h.2.1
      have r1 : A.tmps[30]?.getD undef = vals 7 := Rg.slot h.2.2.1
      have r2 : A.tmps[34]?.getD undef = vals 11 := Rg.slot h.2.2.2.1
      have r3 : A.tmps[35]?.getD undef = vals 12 := Rg.slot h.2.2.2.2.1
      have s0 : vals 3 = .agg #[.slice (some ⟨ba, oa, none⟩) n ka, .slice (some ⟨bb, ob, none⟩) n kb, .slice (some ⟨bc_, oc, none⟩) n kc] := hn.1
      have s1 : vals 7 = .agg #[.int .i64 g.tups.a, .int .i64 g.tups.b, .int .i64 g.tups.c, .int .i64 g.tups.d] := hn.2.1
      have s2 : vals 11 = (.slice (some ⟨pt, 0, none⟩) n n) := hn.2.2.1
      have s3 : vals 12 = (.int .i64 (x : Int)) := hn.2.2.2.1
      have HL' := Lib.hid (HL.out.on (below_of_grown (Rk.grown_of hgk)))
      clear h hn hT hgk
      simp [Oper.wp, go_sem, r0, r1, r2, r3, s0, s1, s2, s3]
      have hV : TupsV w' (.slice (some ⟨pt, 0, none⟩) n n) l := by
        have := HL'.out.tups.tups (by rw [HL'.out.llen]; omega) n
        rw [HL'.out.llen] at this
        exact this
      refine (lift_any g HR.out l HLL.out HLOW.out x (by rw [HN.out]; exact HXN.out) _ _ w' (HV.out.on HL'.out.low) hV).mono ?_
      rintro e w'' ⟨rfl, hb⟩
      exact hK0 _ _ (Rk.keep_of (grown_of_below hb _)) rfl trivial
    · intro A w' K vals h hn hT hgk hK0
      have hsz := hgk.size
      clear h hn hT
      simp [Oper.wp, execOp, go_sem]
      exact hK0 _ _ (Rk.keep_of (World.grownBy_alloc _ _ _)) ⟨_, rfl, hsz, Box.new _ _ _⟩ trivial
  · refine ⟨?_, ?_, ?_, ?_, ?_, ?_, ?_, ?_, ?_, ?_, ?_, ?_, ?_, ?_, ?_, trivial⟩
    · exact fun _ _ _ _ _ _ h => h
    · exact fun _ _ _ _ _ _ h => h
    · exact fun _ _ _ _ _ _ h => h
    · exact fun _ _ _ _ _ _ h => h
    · exact fun _ _ _ _ _ _ h => h
    · exact fun _ _ _ _ _ _ h => h
    · exact fun _ _ _ _ _ _ h => h
    · exact fun _ _ _ _ _ _ h => h
    · exact fun _ _ _ _ _ _ h => h
    · exact fun _ _ _ _ _ _ h => h
    · exact fun _ _ _ _ _ _ h => h
    · exact fun _ _ _ _ _ _ h => h
    · exact fun _ _ _ _ _ _ h => h
    · exact fun _ _ _ _ _ _ h => h
    · exact fun _ _ _ _ _ h ⟨q, h1, h2, hb⟩ => ⟨q, h1, h2, hb.keep (Rk.grown_of h)⟩
  · exact fun _ _ _ _ _ _ h => h
  · intro vals w2 G hg hS hG
    have s13 : vals 13 = .agg (tc (g.lift l x)) := hS.2.2.2.2.2.2.2.2.2.2.2.2.2.1
    obtain ⟨qm, s14, hqm, hbm⟩ : ∃ q, vals 14 = .pointer (some ⟨q, 0, none⟩) ∧ w1.heap.size ≤ q ∧ Box w2 q 26 (tc .zero) := hS.2.2.2.2.2.2.2.2.2.2.2.2.2.2.1
    clear hS
    have hb := below_of_grown (Rk.grown_of hg)
    have HL2 := Lib.hid (HL.out.on hb)
    have hrq : ∀ (j : Nat) (v : Value), L[j]? = some v → v.ownBlock ≠ some qm := fun j v hv e => by
      have := (HL.out.rows.low hv qm e).2
      omega
    clear hb hg HL
    obtain ⟨u, hu⟩ : ∃ u, g.lift l x = u := ⟨_, rfl⟩
    rw [hu] at s13
    have HUE := Lib.hid hu
    clear hu
    unfold tc at s13
    have qc0 : w2.cell? ⟨qm, 0, none⟩ = some (.bool false) := hbm.cell 0 _ rfl
    have qc1 : w2.cell? ⟨qm, 1, none⟩ = some (.int .i64 0) := hbm.cell 1 _ rfl
    have qc2 : w2.cell? ⟨qm, 2, none⟩ = some (.int .i64 0) := hbm.cell 2 _ rfl
    have qc3 : w2.cell? ⟨qm, 3, none⟩ = some (.int .i64 0) := hbm.cell 3 _ rfl
    have qc4 : w2.cell? ⟨qm, 4, none⟩ = some (.int .i64 0) := hbm.cell 4 _ rfl
    have qf0 : w2.frozen? ⟨qm, 0, none⟩ = false := hbm.frozen 0
    have qf1 : w2.frozen? ⟨qm, 1, none⟩ = false := hbm.frozen 1
    have qf2 : w2.frozen? ⟨qm, 2, none⟩ = false := hbm.frozen 2
    have qf3 : w2.frozen? ⟨qm, 3, none⟩ = false := hbm.frozen 3
    have qf4 : w2.frozen? ⟨qm, 4, none⟩ = false := hbm.frozen 4
    have hlq : N ≤ qm := Nat.le_trans BIG.out hqm
    refine hG ?_
    clear hG
    simp [Rg.putAll, s13, s14]
    clear s13 s14
    go_wp2_with fail
    clear qc0 qc1 qc2 qc3 qc4 qf0 qf1 qf2 qf3 qf4
    have BQm := Lib.hid (hbm.stT u)
    have hbo : Below w2.heap.size w2 w2 := Below.refl _ _
    have HL3 := Lib.hid (HL2.out.fresh (q := qm) (by omega) u hrq)
    clear HL2 hbm hqm hbo hrq
    generalize (((((w2.setCell ⟨qm, 0, none⟩ (.bool u.top)).setCell ⟨qm, 1, none⟩ (.int .i64 u.a)).setCell ⟨qm, 2, none⟩ (.int .i64 u.b)).setCell ⟨qm, 3, none⟩ (.int .i64 u.c)).setCell ⟨qm, 4, none⟩ (.int .i64 u.d)) = w3 at BQm HL3 ⊢
    have HL := HL3
    clear HL3
    have HLQ := Lib.hid hlq
    clear hlq
    obtain ⟨t, ht⟩ : ∃ t, l.getD x .zero = t := ⟨_, rfl⟩
    have HT := Lib.hid ht
    clear ht
    go_wp2_with fail
    refine Rt.wp_region_tail 1 (fun idx => match idx with | 0 => (fun v _ _ => v = .agg (tc u)) | 1 => (fun v _ _ => v = (.pointer (some ⟨qL, 0, none⟩))) | 2 => (fun v _ _ => v = (.pointer (some ⟨qL, 0, none⟩))) | 3 => (fun v _ _ => v = (.pointer (some ⟨qL, 7, none⟩))) | 4 => (fun v _ _ => v = (.slice (some ⟨pt, 0, none⟩) n n)) | 5 => (fun v _ _ => v = (.int .i64 (x : Int))) | 6 => (fun v _ _ => v = (.pointer (some ⟨pt, x * 5, none⟩))) | 7 => (fun v _ _ => v = .agg (tc t)) | _ => fun _ _ _ => True) (fun _ _ _ _ => True) (Rk.allK) 99 (by kernel_rfl) (by rfl) (by kernel_rfl) (by rfl) ?_ ?_ ?_ ?_
    · refine ⟨?_, ?_, ?_, ?_, ?_, ?_, ?_, ?_, trivial⟩
      · intro A w' K vals h hn hT hgk hK0
        have r0 : A.tmps[6]?.getD undef = .pointer (some ⟨qm, 0, none⟩) := Rg.slot (h.1)
        have hbx := BQm.out.keep (Rk.grown_of hgk)
        have c0 : w'.cell? ⟨qm, 0, none⟩ = some (.bool u.top) := hbx.cell 0 _ rfl
        have c1 : w'.cell? ⟨qm, 1, none⟩ = some (.int .i64 u.a) := hbx.cell 1 _ rfl
        have c2 : w'.cell? ⟨qm, 2, none⟩ = some (.int .i64 u.b) := hbx.cell 2 _ rfl
        have c3 : w'.cell? ⟨qm, 3, none⟩ = some (.int .i64 u.c) := hbx.cell 3 _ rfl
        have c4 : w'.cell? ⟨qm, 4, none⟩ = some (.int .i64 u.d) := hbx.cell 4 _ rfl
        clear hbx
        clear h hn hT hgk
        simp [Oper.wp, execOp, go_sem, r0, c0, c1, c2, c3, c4]
        exact hK0 _ _ (Rk.Keeps.refl _ _) rfl trivial
      · intro A w' K vals h hn hT hgk hK0
        have r0 : A.tmps[0]?.getD undef = .pointer (some ⟨qL, 0, none⟩) := Rg.slot h.1
        clear h hn hT hgk
        simp [Oper.wp, execOp, go_sem, r0]
        exact hK0 _ _ (Rk.Keeps.refl _ _) rfl trivial
      · intro A w' K vals h hn hT hgk hK0
        have r0 : A.tmps[38]?.getD undef = vals 1 := Rg.slot h.1
        have s0 : vals 1 = .pointer (some ⟨qL, 0, none⟩) := hn.1
        clear h hn hT hgk
        simp [Oper.wp, execOp, go_sem, r0, s0]
        exact hK0 _ _ (Rk.Keeps.refl _ _) rfl trivial
      · intro A w' K vals h hn hT hgk hK0
        have r0 : A.tmps[39]?.getD undef = vals 2 := Rg.slot h.1
        have s0 : vals 2 = .pointer (some ⟨qL, 0, none⟩) := hn.1
        clear h hn hT hgk
        simp [Oper.wp, execOp, go_sem, r0, s0]
        exact hK0 _ _ (Rk.Keeps.refl _ _) rfl trivial
      · intro A w' K vals h hn hT hgk hK0
        have r0 : A.tmps[40]?.getD undef = vals 3 := Rg.slot (h.1)
        have r1 : vals 3 = (.pointer (some ⟨qL, 7, none⟩)) := hn.1
        have hbx := (HL.out.on (below_of_grown (Rk.grown_of hgk))).lbox
        have c0 : w'.cell? ⟨qL, 7, none⟩ = some (.slice (some ⟨pt, 0, none⟩) n n) := hbx.cell 7 _ rfl
        clear h hn hT hgk hbx
        simp [Oper.wp, execOp, go_sem, r0, r1, c0]
        exact hK0 _ _ (Rk.Keeps.refl _ _) rfl trivial
      · intro A w' K vals h hn hT hgk hK0
        have r0 : A.tmps[5]?.getD undef = .int .i64 (x : Int) := Rg.slot h.1
        clear h hn hT hgk
        simp [Oper.wp, execOp, go_sem, r0]
        exact hK0 _ _ (Rk.Keeps.refl _ _) rfl trivial
      · intro A w' K vals h hn hT hgk hK0
        have r0 : A.tmps[41]?.getD undef = vals 4 := Rg.slot h.1
        have s0 : vals 4 = .slice (some ⟨pt, 0, none⟩) n n := hn.1
        have r1 : A.tmps[42]?.getD undef = vals 5 := Rg.slot h.2.1
        have s1 : vals 5 = .int .i64 (x : Int) := hn.2.1
        clear h hn hT hgk
        simp [Oper.wp, execOp, go_sem, r0, r1, s0, s1, HXN.out]
        exact hK0 _ _ (Rk.Keeps.refl _ _) rfl trivial
      · intro A w' K vals h hn hT hgk hK0
        have r0 : A.tmps[43]?.getD undef = vals 6 := Rg.slot (h.1)
        have r1 : vals 6 = (.pointer (some ⟨pt, x * 5, none⟩)) := hn.1
        have hL' := (HL.out.on (below_of_grown (Rk.grown_of hgk)))
        have c0 : w'.cell? ⟨pt, x * 5, none⟩ = some (.bool t.top) := hL'.tcell HXN.out HT.out 0 _ rfl
        have c1 : w'.cell? ⟨pt, x * 5 + 1, none⟩ = some (.int .i64 t.a) := hL'.tcell HXN.out HT.out 1 _ rfl
        have c2 : w'.cell? ⟨pt, x * 5 + 2, none⟩ = some (.int .i64 t.b) := hL'.tcell HXN.out HT.out 2 _ rfl
        have c3 : w'.cell? ⟨pt, x * 5 + 3, none⟩ = some (.int .i64 t.c) := hL'.tcell HXN.out HT.out 3 _ rfl
        have c4 : w'.cell? ⟨pt, x * 5 + 4, none⟩ = some (.int .i64 t.d) := hL'.tcell HXN.out HT.out 4 _ rfl
        clear hL'
        clear h hn hT hgk
        simp [Oper.wp, execOp, go_sem, r0, r1, c0, c1, c2, c3, c4]
        exact hK0 _ _ (Rk.Keeps.refl _ _) rfl trivial
    · refine ⟨?_, ?_, ?_, ?_, ?_, ?_, ?_, ?_, trivial⟩
      · exact fun _ _ _ _ _ _ h => h
      · exact fun _ _ _ _ _ _ h => h
      · exact fun _ _ _ _ _ _ h => h
      · exact fun _ _ _ _ _ _ h => h
      · exact fun _ _ _ _ _ _ h => h
      · exact fun _ _ _ _ _ _ h => h
      · exact fun _ _ _ _ _ _ h => h
      · exact fun _ _ _ _ _ _ h => h
    · exact fun _ _ _ _ _ _ h => h
    · intro vals w4 G hg hS hG
      have s0 : vals 0 = .agg #[.bool u.top, .int .i64 u.a, .int .i64 u.b, .int .i64 u.c, .int .i64 u.d] := hS.1
      have s7 : vals 7 = .agg #[.bool t.top, .int .i64 t.a, .int .i64 t.b, .int .i64 t.c, .int .i64 t.d] := hS.2.2.2.2.2.2.2.1
      clear hS
      have hb := below_of_grown (Rk.grown_of hg)
      have HL4 := Lib.hid (HL.out.on hb)
      have BQ4 := Lib.hid (BQm.out.keep (Rk.grown_of hg))
      clear hb hg HL BQm
      have HL := HL4
      have BQm := BQ4
      clear HL4 BQ4
      have he := fun w => tup_eql u t w
      unfold tc at he
      refine hG ?_
      clear hG
      simp [Rg.putAll, s0, s7]
      clear s0 s7
      by_cases hut : u = t
      · have fe : decide (u = t) = true := decide_eq_true hut
        have HD := Lib.hid (show LiftedTo g O B m l Wt k x l (fun y => if y = k then false else Wt y) k from .inl ⟨by
          refine P.lift_iff.1 ?_
          rw [HUE.out, HT.out, hut], rfl, rfl, fun y => rfl⟩)
        clear hut
        go_wp2_with fail
        go_ret
        exact ⟨_, _, _, rfl, HL.out, HD.out⟩
      · have fe : decide (u = t) = false := decide_eq_false hut
        have HNR := Lib.hid (show ¬ P.Rest g l x from fun h => hut (by
          have := P.lift_same h
          rw [HUE.out, HT.out] at this
          exact this))
        clear hut
        go_wp2_with fail
        clear he fe
        refine Rt.wp_region_tail 2 (fun idx => match idx with | 0 => (fun v _ _ => v = (.pointer (some ⟨qL, 0, none⟩))) | 1 => (fun v _ _ => v = (.pointer (some ⟨qL, 0, none⟩))) | 2 => (fun v _ _ => v = (.pointer (some ⟨qL, 7, none⟩))) | 3 => (fun v _ _ => v = (.slice (some ⟨pt, 0, none⟩) n n)) | 4 => (fun v _ _ => v = (.int .i64 (x : Int))) | 5 => (fun v _ _ => v = .agg (tc u)) | _ => fun _ _ _ => True) (fun _ _ _ _ => True) (Rk.allK) 99 (by kernel_rfl) (by rfl) (by kernel_rfl) (by rfl) ?_ ?_ ?_ ?_
        · refine ⟨?_, ?_, ?_, ?_, ?_, ?_, trivial⟩
          · intro A w' K vals h hn hT hgk hK0
            have r0 : A.tmps[0]?.getD undef = .pointer (some ⟨qL, 0, none⟩) := Rg.slot h.1
            clear h hn hT hgk
            simp [Oper.wp, execOp, go_sem, r0]
            exact hK0 _ _ (Rk.Keeps.refl _ _) rfl trivial
          · intro A w' K vals h hn hT hgk hK0
            have r0 : A.tmps[47]?.getD undef = vals 0 := Rg.slot h.1
            have s0 : vals 0 = .pointer (some ⟨qL, 0, none⟩) := hn.1
            clear h hn hT hgk
            simp [Oper.wp, execOp, go_sem, r0, s0]
            exact hK0 _ _ (Rk.Keeps.refl _ _) rfl trivial
          · intro A w' K vals h hn hT hgk hK0
            have r0 : A.tmps[48]?.getD undef = vals 1 := Rg.slot h.1
            have s0 : vals 1 = .pointer (some ⟨qL, 0, none⟩) := hn.1
            clear h hn hT hgk
            simp [Oper.wp, execOp, go_sem, r0, s0]
            exact hK0 _ _ (Rk.Keeps.refl _ _) rfl trivial
          · intro A w' K vals h hn hT hgk hK0
            have r0 : A.tmps[49]?.getD undef = vals 2 := Rg.slot (h.1)
            have r1 : vals 2 = (.pointer (some ⟨qL, 7, none⟩)) := hn.1
            have hbx := (HL.out.on (below_of_grown (Rk.grown_of hgk))).lbox
            have c0 : w'.cell? ⟨qL, 7, none⟩ = some (.slice (some ⟨pt, 0, none⟩) n n) := hbx.cell 7 _ rfl
            clear h hn hT hgk hbx
            simp [Oper.wp, execOp, go_sem, r0, r1, c0]
            exact hK0 _ _ (Rk.Keeps.refl _ _) rfl trivial
          · intro A w' K vals h hn hT hgk hK0
            have r0 : A.tmps[5]?.getD undef = .int .i64 (x : Int) := Rg.slot h.1
            clear h hn hT hgk
            simp [Oper.wp, execOp, go_sem, r0]
            exact hK0 _ _ (Rk.Keeps.refl _ _) rfl trivial
          · intro A w' K vals h hn hT hgk hK0
            have r0 : A.tmps[6]?.getD undef = .pointer (some ⟨qm, 0, none⟩) := Rg.slot (h.1)
            have hbx := BQm.out.keep (Rk.grown_of hgk)
            have c0 : w'.cell? ⟨qm, 0, none⟩ = some (.bool u.top) := hbx.cell 0 _ rfl
            have c1 : w'.cell? ⟨qm, 1, none⟩ = some (.int .i64 u.a) := hbx.cell 1 _ rfl
            have c2 : w'.cell? ⟨qm, 2, none⟩ = some (.int .i64 u.b) := hbx.cell 2 _ rfl
            have c3 : w'.cell? ⟨qm, 3, none⟩ = some (.int .i64 u.c) := hbx.cell 3 _ rfl
            have c4 : w'.cell? ⟨qm, 4, none⟩ = some (.int .i64 u.d) := hbx.cell 4 _ rfl
            clear hbx
            clear h hn hT hgk
            simp [Oper.wp, execOp, go_sem, r0, c0, c1, c2, c3, c4]
            exact hK0 _ _ (Rk.Keeps.refl _ _) rfl trivial
        · refine ⟨?_, ?_, ?_, ?_, ?_, ?_, trivial⟩
          · exact fun _ _ _ _ _ _ h => h
          · exact fun _ _ _ _ _ _ h => h
          · exact fun _ _ _ _ _ _ h => h
          · exact fun _ _ _ _ _ _ h => h
          · exact fun _ _ _ _ _ _ h => h
          · exact fun _ _ _ _ _ _ h => h
        · exact fun _ _ _ _ _ _ h => h
        · intro vals w5 G hg hS hG
          have s3 : vals 3 = (.slice (some ⟨pt, 0, none⟩) n n) := hS.2.2.2.1
          have s4 : vals 4 = (.int .i64 (x : Int)) := hS.2.2.2.2.1
          have s5 : vals 5 = .agg #[.bool u.top, .int .i64 u.a, .int .i64 u.b, .int .i64 u.c, .int .i64 u.d] := hS.2.2.2.2.2.1
          clear hS
          have hb := below_of_grown (Rk.grown_of hg)
          have HL5 := Lib.hid (HL.out.on hb)
          clear hb hg HL BQm
          have tc0 : w5.cell? ⟨pt, x * 5, none⟩ = some (.bool t.top) := HL5.out.tcell HXN.out HT.out 0 _ rfl
          have tf0 : w5.frozen? ⟨pt, x * 5, none⟩ = false := HL5.out.tups.frozen _
          have tc1 : w5.cell? ⟨pt, x * 5 + 1, none⟩ = some (.int .i64 t.a) := HL5.out.tcell HXN.out HT.out 1 _ rfl
          have tf1 : w5.frozen? ⟨pt, x * 5 + 1, none⟩ = false := HL5.out.tups.frozen _
          have tc2 : w5.cell? ⟨pt, x * 5 + 2, none⟩ = some (.int .i64 t.b) := HL5.out.tcell HXN.out HT.out 2 _ rfl
          have tf2 : w5.frozen? ⟨pt, x * 5 + 2, none⟩ = false := HL5.out.tups.frozen _
          have tc3 : w5.cell? ⟨pt, x * 5 + 3, none⟩ = some (.int .i64 t.c) := HL5.out.tcell HXN.out HT.out 3 _ rfl
          have tf3 : w5.frozen? ⟨pt, x * 5 + 3, none⟩ = false := HL5.out.tups.frozen _
          have tc4 : w5.cell? ⟨pt, x * 5 + 4, none⟩ = some (.int .i64 t.d) := HL5.out.tcell HXN.out HT.out 4 _ rfl
          have tf4 : w5.frozen? ⟨pt, x * 5 + 4, none⟩ = false := HL5.out.tups.frozen _
          refine hG ?_
          clear hG
          simp [Rg.putAll, s3, s4, s5]
          clear s3 s4 s5
          have hxi : (x : Int) < (n : Int) := by have := HXN.out; omega
          have hx0 : (0 : Int) ≤ (x : Int) := Int.natCast_nonneg _
          go_upto_region 7 with (fail)
          clear tc0 tf0 tc1 tf1 tc2 tf2 tc3 tf3 tc4 tf4
          have HL6 := Lib.hid (HL5.out.setT x HXN.out u)
          clear HL5
          obtain ⟨l6, hl6⟩ : ∃ l6, l.set x u = l6 := ⟨_, rfl⟩
          rw [hl6] at HL6
          have HUC : Hid (u = (g.choose l x).2) := Lib.hid (by rw [← HUE.out]; exact P.lift_eq HNR.out)
          have HL6E : Hid (l6 = l.set x (g.choose l x).2) := Lib.hid (by rw [← hl6, HUC.out])
          clear hl6
          generalize (((((w5.setCell ⟨pt, x * 5, none⟩ (.bool u.top)).setCell ⟨pt, x * 5 + 1, none⟩ (.int .i64 u.a)).setCell ⟨pt, x * 5 + 2, none⟩ (.int .i64 u.b)).setCell ⟨pt, x * 5 + 3, none⟩ (.int .i64 u.c)).setCell ⟨pt, x * 5 + 4, none⟩ (.int .i64 u.d)) = w6 at HL6 ⊢
          have hbx : B[x]? = some (B.getD x []) := by
            rw [List.getD_eq_getElem?_getD, List.getElem?_eq_getElem (by rw [HB.out, P.prv_len]; exact HXN.out)]
            rfl
          have hbm := fun z => P.prv_mem (g := g) (O := O) HXN.out z
          rw [← HB.out] at hbm
          have hbl : (B.getD x []).length ≤ 40000 := by
            rw [HB.out]
            refine Nat.le_trans (P.prv_row_len HXN.out) (Nat.le_trans (P.pairs_len fun y hy => ?_) (by rw [HO.out.len]; omega))
            have hyn := (HO.out.2 y).1 hy
            have h2 := (HR.out.at y (by rw [HN.out]; exact hyn)).2.2.2.2
            rw [HN.out] at h2
            exact P.rise_len h2 hmany
          obtain ⟨bs, hbs⟩ : ∃ bs, B.getD x [] = bs := ⟨_, rfl⟩
          rw [hbs] at hbx hbm hbl
          have HBS := Lib.hid hbs
          have HBX := Lib.hid hbx
          have HBM := Lib.hid hbm
          clear hbs hbm
          obtain ⟨v, hLx, hov⟩ := HL6.out.rows.rows x bs hbx
          obtain ⟨vo, vk, rfl, -⟩ := own_at hov
          have HLX := Lib.hid hLx
          clear hbx hLx hov
          have lc8 : w6.cell? ⟨qL, 8, none⟩ = some (.slice (some ⟨pB, 0, none⟩) n n) := HL6.out.lbox.cell 8 _ rfl
          have bc0 : w6.cell? ⟨pB, x, none⟩ = some (.slice vo bs.length vk) := HL6.out.head.cell x _ (by rw [List.getElem?_toArray]; exact HLX.out)
          go_wp2_with fail
          clear lc8 bc0
          go_loopw [7, 63] (fun fv iv wr => ∃ (j first : Nat) (Wj : Nat → Bool), j ≤ bs.length ∧ fv = .int .i64 (first : Int) ∧ iv = .int .i64 (j : Int) ∧ first ≤ k ∧ Lm wb N n qL pt pB pp pw qo ko (.slice (some ⟨ba, oa, none⟩) n ka) (.slice (some ⟨bb, ob, none⟩) n kb) (.slice (some ⟨bc_, oc, none⟩) n kc) g.tups O B L l6 m Wj wr ∧ (∀ y, y < first → Wj y = true → Wt y = true) ∧ (∀ y, Wj y = false → (y = k ∨ Wt y = false) ∧ ∀ z ∈ bs.take j, m z.toNat ≠ (y : Int))) (fun _ iv _ => bs.length - (intOf iv).toNat)
          case atStart =>
            refine ⟨0, k, _, Nat.zero_le _, rfl, rfl, Nat.le_refl _, HL6.out, fun y hy h => ?_, fun y h => ⟨?_, fun z hz => nomatch hz⟩⟩
            · have h : (if y = k then false else Wt y) = true := h
              rw [if_neg (by omega)] at h
              exact h
            · have h : (if y = k then false else Wt y) = false := h
              by_cases e : y = k
              · exact .inl e
              · rw [if_neg e] at h
                exact .inr h
          case round =>
            obtain ⟨j, first, Wj, hj, rfl, rfl, hfk, hL, h1, h2⟩ := hrel
            have HL := Lib.hid hL
            have H1 := Lib.hid h1
            have H2 := Lib.hid h2
            clear hL h1 h2
            have hj0 : (0 : Int) ≤ (j : Int) := Int.natCast_nonneg _
            by_cases hlt : j < bs.length
            · have fj : decide ((j : Int) < (bs.length : Int)) = true := decide_eq_true (by omega)
              have hji : (j : Int) < (bs.length : Int) := by omega
              obtain ⟨v2, hv2, hov⟩ := HL.out.rows.rows x bs HBX.out
              obtain rfl : Value.slice vo bs.length vk = v2 := by
                have h3 := HLX.out
                rw [h3] at hv2
                injection hv2
              obtain ⟨gb, gk, e9, -, -, hcl, -⟩ := own_form hov (by omega)
              obtain ⟨rfl, rfl⟩ : vo = some ⟨gb, 0, none⟩ ∧ vk = gk := by injection e9 with h3 h4 h5; exact ⟨h3, h5⟩
              obtain ⟨z, hz⟩ : ∃ z, bs[j] = z := ⟨_, rfl⟩
              have hzm : z ∈ bs := by rw [← hz]; exact List.getElem_mem hlt
              obtain ⟨a, haO, -, hza⟩ := (HBM.out z).1 hzm
              subst hza
              have han : a < n := (HO.out.2 a).1 haO
              obtain ⟨i, hi⟩ := List.getElem?_of_mem haO
              have hin : i < n := by
                have := (List.getElem?_eq_some_iff.1 hi).1
                rw [HO.out.len] at this
                exact this
              have hma : m a = (i : Int) := HM.out i a hi
              have htake : bs.take (j + 1) = bs.take j ++ [(a : Int)] := by
                rw [List.take_succ_eq_append_getElem hlt, hz]
              have HTK := Lib.hid htake
              have HMA := Lib.hid hma
              have HAN := Lib.hid han
              have HIN := Lib.hid hin
              have cz : wr.cell? ⟨gb, j, none⟩ = some (.int .i64 (a : Int)) := hcl j _ (by rw [List.getElem?_map, List.getElem?_eq_getElem hlt, hz]; rfl)
              clear hv2 hov hcl e9 hz hzm haO han hi hin hma htake
              go_wp2_with fail
              clear cz
              refine Rt.wp_region_tail 2 (fun idx => match idx with | 0 => (fun v _ _ => v = (.pointer (some ⟨qL, 0, none⟩))) | 1 => (fun v _ _ => v = (.pointer (some ⟨qL, 0, none⟩))) | 2 => (fun v _ _ => v = (.pointer (some ⟨qL, 11, none⟩))) | 3 => (fun v _ _ => v = (.slice (some ⟨pw, 0, none⟩) n n)) | 4 => (fun v _ _ => v = (.pointer (some ⟨qL, 0, none⟩))) | 5 => (fun v _ _ => v = (.pointer (some ⟨qL, 0, none⟩))) | 6 => (fun v _ _ => v = (.pointer (some ⟨qL, 10, none⟩))) | 7 => (fun v _ _ => v = (.slice (some ⟨pp, 0, none⟩) n n)) | 8 => (fun v _ _ => v = (.int .i64 (a : Int))) | 9 => (fun v _ _ => v = (.pointer (some ⟨pp, a, none⟩))) | 10 => (fun v _ _ => v = (.int .i64 (i : Int))) | _ => fun _ _ _ => True) (fun _ _ _ _ => True) (Rk.allK) 99 (by kernel_rfl) (by rfl) (by kernel_rfl) (by rfl) ?_ ?_ ?_ ?_
              · refine ⟨?_, ?_, ?_, ?_, ?_, ?_, ?_, ?_, ?_, ?_, ?_, trivial⟩
                · intro A w' K vals h hn hT hgk hK0
                  have r0 : A.tmps[0]?.getD undef = .pointer (some ⟨qL, 0, none⟩) := Rg.slot h.1
                  clear h hn hT hgk
                  simp [Oper.wp, execOp, go_sem, r0]
                  exact hK0 _ _ (Rk.Keeps.refl _ _) rfl trivial
                · intro A w' K vals h hn hT hgk hK0
                  have r0 : A.tmps[67]?.getD undef = vals 0 := Rg.slot h.1
                  have s0 : vals 0 = .pointer (some ⟨qL, 0, none⟩) := hn.1
                  clear h hn hT hgk
                  simp [Oper.wp, execOp, go_sem, r0, s0]
                  exact hK0 _ _ (Rk.Keeps.refl _ _) rfl trivial
                · intro A w' K vals h hn hT hgk hK0
                  have r0 : A.tmps[68]?.getD undef = vals 1 := Rg.slot h.1
                  have s0 : vals 1 = .pointer (some ⟨qL, 0, none⟩) := hn.1
                  clear h hn hT hgk
                  simp [Oper.wp, execOp, go_sem, r0, s0]
                  exact hK0 _ _ (Rk.Keeps.refl _ _) rfl trivial
                · intro A w' K vals h hn hT hgk hK0
                  have r0 : A.tmps[69]?.getD undef = vals 2 := Rg.slot (h.1)
                  have r1 : vals 2 = (.pointer (some ⟨qL, 11, none⟩)) := hn.1
                  have hbx := (HL.out.on (below_of_grown (Rk.grown_of hgk))).lbox
                  have c0 : w'.cell? ⟨qL, 11, none⟩ = some (.slice (some ⟨pw, 0, none⟩) n n) := hbx.cell 11 _ rfl
                  clear h hn hT hgk hbx
                  simp [Oper.wp, execOp, go_sem, r0, r1, c0]
                  exact hK0 _ _ (Rk.Keeps.refl _ _) rfl trivial
                · intro A w' K vals h hn hT hgk hK0
                  have r0 : A.tmps[0]?.getD undef = .pointer (some ⟨qL, 0, none⟩) := Rg.slot h.1
                  clear h hn hT hgk
                  simp [Oper.wp, execOp, go_sem, r0]
                  exact hK0 _ _ (Rk.Keeps.refl _ _) rfl trivial
                · intro A w' K vals h hn hT hgk hK0
                  have r0 : A.tmps[71]?.getD undef = vals 4 := Rg.slot h.1
                  have s0 : vals 4 = .pointer (some ⟨qL, 0, none⟩) := hn.1
                  clear h hn hT hgk
                  simp [Oper.wp, execOp, go_sem, r0, s0]
                  exact hK0 _ _ (Rk.Keeps.refl _ _) rfl trivial
                · intro A w' K vals h hn hT hgk hK0
                  have r0 : A.tmps[72]?.getD undef = vals 5 := Rg.slot h.1
                  have s0 : vals 5 = .pointer (some ⟨qL, 0, none⟩) := hn.1
                  clear h hn hT hgk
                  simp [Oper.wp, execOp, go_sem, r0, s0]
                  exact hK0 _ _ (Rk.Keeps.refl _ _) rfl trivial
                · intro A w' K vals h hn hT hgk hK0
                  have r0 : A.tmps[73]?.getD undef = vals 6 := Rg.slot (h.1)
                  have r1 : vals 6 = (.pointer (some ⟨qL, 10, none⟩)) := hn.1
                  have hbx := (HL.out.on (below_of_grown (Rk.grown_of hgk))).lbox
                  have c0 : w'.cell? ⟨qL, 10, none⟩ = some (.slice (some ⟨pp, 0, none⟩) n n) := hbx.cell 10 _ rfl
                  clear h hn hT hgk hbx
                  simp [Oper.wp, execOp, go_sem, r0, r1, c0]
                  exact hK0 _ _ (Rk.Keeps.refl _ _) rfl trivial
                · intro A w' K vals h hn hT hgk hK0
                  have r0 : A.tmps[9]?.getD undef = .int .i64 (a : Int) := Rg.slot h.1
                  clear h hn hT hgk
                  simp [Oper.wp, execOp, go_sem, r0]
                  exact hK0 _ _ (Rk.Keeps.refl _ _) rfl trivial
                · intro A w' K vals h hn hT hgk hK0
                  have r0 : A.tmps[74]?.getD undef = vals 7 := Rg.slot h.1
                  have s0 : vals 7 = .slice (some ⟨pp, 0, none⟩) n n := hn.1
                  have r1 : A.tmps[75]?.getD undef = vals 8 := Rg.slot h.2.1
                  have s1 : vals 8 = .int .i64 (a : Int) := hn.2.1
                  clear h hn hT hgk
                  simp [Oper.wp, execOp, go_sem, r0, r1, s0, s1, HAN.out]
                  exact hK0 _ _ (Rk.Keeps.refl _ _) rfl trivial
                · intro A w' K vals h hn hT hgk hK0
                  have r0 : A.tmps[76]?.getD undef = vals 9 := Rg.slot (h.1)
                  have r1 : vals 9 = (.pointer (some ⟨pp, a, none⟩)) := hn.1
                  have c : w'.cell? ⟨pp, a, none⟩ = some (.int .i64 (i : Int)) := by rw [← HMA.out]; exact (HL.out.on (below_of_grown (Rk.grown_of hgk))).plc.cell a _ (im_at HAN.out)
                  clear h hn hT hgk
                  simp [Oper.wp, execOp, go_sem, r0, r1, c]
                  exact hK0 _ _ (Rk.Keeps.refl _ _) rfl trivial
              · refine ⟨?_, ?_, ?_, ?_, ?_, ?_, ?_, ?_, ?_, ?_, ?_, trivial⟩
                · exact fun _ _ _ _ _ _ h => h
                · exact fun _ _ _ _ _ _ h => h
                · exact fun _ _ _ _ _ _ h => h
                · exact fun _ _ _ _ _ _ h => h
                · exact fun _ _ _ _ _ _ h => h
                · exact fun _ _ _ _ _ _ h => h
                · exact fun _ _ _ _ _ _ h => h
                · exact fun _ _ _ _ _ _ h => h
                · exact fun _ _ _ _ _ _ h => h
                · exact fun _ _ _ _ _ _ h => h
                · exact fun _ _ _ _ _ _ h => h
              · exact fun _ _ _ _ _ _ h => h
              · intro vals w7 G hg hS hG
                have s3 : vals 3 = (.slice (some ⟨pw, 0, none⟩) n n) := hS.2.2.2.1
                have s10 : vals 10 = (.int .i64 (i : Int)) := hS.2.2.2.2.2.2.2.2.2.2.1
                clear hS
                have hb := below_of_grown (Rk.grown_of hg)
                have HL7 := Lib.hid (HL.out.on hb)
                clear hb hg HL
                have c0 := HL7.out.wts.cell i _ (bl_at HIN.out)
                have f0 := HL7.out.wts.frozen i
                refine hG ?_
                clear hG
                simp [Rg.putAll, s3, s10]
                clear s3 s10
                have hi0 : (0 : Int) ≤ (i : Int) := Int.natCast_nonneg _
                have hii : (i : Int) < (n : Int) := by have := HIN.out; omega
                have ha0 : (0 : Int) ≤ (a : Int) := Int.natCast_nonneg _
                have hai : (a : Int) < (n : Int) := by have := HAN.out; omega
                have HL8 := Lib.hid (HL7.out.setW i true)
                have lc10 : (w7.setCell ⟨pw, i, none⟩ (.bool true)).cell? ⟨qL, 10, none⟩ = some (.slice (some ⟨pp, 0, none⟩) n n) := HL8.out.lbox.cell 10 _ rfl
                have pc0 : (w7.setCell ⟨pw, i, none⟩ (.bool true)).cell? ⟨pp, a, none⟩ = some (.int .i64 (i : Int)) := by rw [← HMA.out]; exact HL8.out.plc.cell a _ (im_at HAN.out)
                clear HL7
                go_wp2_with fail
                clear lc10 pc0 c0 f0
                go_roundw
                case rel =>
                  refine ⟨j + 1, (if i < first then i else first), _, by omega, by split <;> rfl, by first | rfl | go_num, by split <;> omega, HL8.out, fun y hy h => ?_, fun y h => ?_⟩
                  · have h : (if y = i then true else Wj y) = true := h
                    by_cases e : y = i
                    · exfalso
                      split at hy <;> omega
                    · rw [if_neg e] at h
                      exact H1.out y (by split at hy <;> omega) h
                  · have h : (if y = i then true else Wj y) = false := h
                    by_cases e : y = i
                    · rw [if_pos e] at h
                      cases h
                    · rw [if_neg e] at h
                      obtain ⟨h3, h4⟩ := H2.out y h
                      refine ⟨h3, fun z hz => ?_⟩
                      rw [HTK.out] at hz
                      rcases List.mem_append.1 hz with hz | hz
                      · exact h4 z hz
                      · rw [List.mem_singleton] at hz
                        rw [hz, Int.toNat_natCast, HMA.out]
                        omega
                case measure => simp [intOf]; omega
            · have fj : decide ((j : Int) < (bs.length : Int)) = false := decide_eq_false (by omega)
              have htj : bs.take j = bs := List.take_of_length_le (by omega)
              have HD := Lib.hid (show LiftedTo g O B m l Wt k x l6 Wj first from .inr ⟨HNR.out, HL6E.out, hfk, H1.out, fun y hy => by
                have h := H2.out y hy
                rw [htj] at h
                rw [HBS.out]
                exact h⟩)
              clear htj
              go_wp2_with fail
              go_ret
              exact ⟨_, _, _, rfl, HL.out, HD.out⟩
end W
end Go.Proofs.Yteeaojciobmcaaa
