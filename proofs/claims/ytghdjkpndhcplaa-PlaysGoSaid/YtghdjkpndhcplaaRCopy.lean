/- The document's copy of a game: every list is the call's own, and no two share memory. -/
import Derived.Test.YtghdjkpndhcplaaCopy
namespace Go.Proofs.Ytghdjkpndhcplaa
open Go.RowKit
namespace W

theorem apart_new {w : World} {lo : Nat} {u v : Value} {xs : List Int} {ys : List Value} {ao : Option Addr} (hu : OwnI w lo u xs) (hv : (ys = [] ∧ v = .slice ao 0 0) ∨ (ys ≠ [] ∧ v.ownBlock = some w.heap.size)) : Apart [u, v] := by
  have h1 : Apart [u] := fun i j a b hi hj hne => by
    match i, j, hi, hj with
    | 0, 0, _, _ => exact absurd rfl hne
  refine h1.snoc v fun i a hi q hq e => ?_
  match i, hi with
  | 0, hi =>
    simp at hi
    subst hi
    have h2 := own_lt hu q (hold_own e)
    rcases hv with ⟨_, rfl⟩ | ⟨_, hv⟩
    · simp [hold] at hq
    · rw [hold_own hq] at hv
      injection hv with hv
      omega
structure Rel2 (W : World) (n q : Nat) (A B : Value) (g : P.G) (i : Value) (wr : World) (k : Nat) (c : Value) (L : List Value) : Prop where
  le : k ≤ n
  eq : i = .int .i64 k
  box : Box wr q 25 #[A, B, c]
  own : OwnG wr W.heap.size A B c L ⟨g.owner, g.prio, g.moves.take k⟩
  below : Below W.heap.size W wr
theorem take_push {ms : List (List Int)} {k : Nat} {l : List Int} (h : ms[k]? = some l) : ms.take k ++ [l] = ms.take (k + 1) := by
  rw [List.take_add_one, h]
  rfl
theorem Ints.fits1 {w : World} {v : Value} {zs : List Int} (h : Ints w v zs) : zs.length ≤ 17592186043904 := by
  obtain ⟨_, _, _, h1, _⟩ := h
  exact h1
set_option maxRecDepth 100000 in
set_option maxHeartbeats 1000000 in
theorem rcopy_any (g : P.G) (v : Value) (w : World) (hv : GameV w v g) : Calls Try.prog 7 #[v] w (Copied w g) := by
  have HV := Lib.hid hv
  obtain ⟨a, b, c, rfl, ha, hb, ⟨co, cc, rfl, hzc, hc⟩⟩ := hv
  have HA := Lib.hid ha
  have HB := Lib.hid hb
  have HC := Lib.hid hc
  clear ha hb hc
  obtain ⟨n, hn⟩ : ∃ n, g.moves.length = n := ⟨_, rfl⟩
  rw [hn] at hzc HV
  rw [hn]
  have HN := Lib.hid hn
  clear hn
  go_enter Try.func7, Try.ntmps7
  go_wp2_with fail
  have B0 : Box ((w.alloc (.cells #[a, b, .slice co n cc] 25)).alloc (.cells #[.slice none 0 0, .slice none 0 0, .slice none 0 0] 25)) w.heap.size 25 #[a, b, .slice co n cc] := (Box.new w _ _).alloc _
  have B1 : Box ((w.alloc (.cells #[a, b, .slice co n cc] 25)).alloc (.cells #[.slice none 0 0, .slice none 0 0, .slice none 0 0] 25)) (w.heap.size + 1) 25 #[.slice none 0 0, .slice none 0 0, .slice none 0 0] := by
    have := Box.new (w.alloc (.cells #[a, b, .slice co n cc] 25)) 25 #[.slice none 0 0, .slice none 0 0, .slice none 0 0]
    simpa using this
  have hb0 : Below w.heap.size w ((w.alloc (.cells #[a, b, .slice co n cc] 25)).alloc (.cells #[.slice none 0 0, .slice none 0 0, .slice none 0 0] 25)) := ((Below.refl _ w).alloc (Nat.le_refl _) _).alloc (by simp) _
  have hs0 : ((w.alloc (.cells #[a, b, .slice co n cc] 25)).alloc (.cells #[.slice none 0 0, .slice none 0 0, .slice none 0 0] 25)).heap.size = w.heap.size + 1 + 1 := by simp
  generalize ((w.alloc (.cells #[a, b, .slice co n cc] 25)).alloc (.cells #[.slice none 0 0, .slice none 0 0, .slice none 0 0] 25)) = W at B0 B1 hb0 hs0 ⊢
  have HB0 := Lib.hid B0
  have HB1 := Lib.hid B1
  have HG := Lib.hid hb0
  have HS := Lib.hid hs0
  clear B0 B1 hb0 hs0
  refine Rg.wp_region_lit (fun idx => match idx with | 0 => (fun v _ w' => ∃ ao, v = .slice ao 0 0 ∧ w'.ownsRow W.heap.size 3 1 v 0 []) | 1 => (fun v _ _ => v = (.pointer (some ⟨w.heap.size, 0, none⟩))) | 2 => (fun v _ _ => v = a) | 3 => (fun v _ w' => OwnI w' W.heap.size v g.owner) | 4 => (fun v _ w' => ∃ ao, v = .slice ao 0 0 ∧ w'.ownsRow W.heap.size 3 1 v 0 []) | 5 => (fun v _ _ => v = (.pointer (some ⟨w.heap.size, 1, none⟩))) | 6 => (fun v _ _ => v = b) | 7 => (fun v ds w' => OwnI w' W.heap.size v g.prio ∧ Apart [ds.getD 2 undef, v]) | 8 => (fun v ds _ => v = .agg #[ds.getD 0 undef, ds.getD 1 undef, (.slice none 0 0)]) | 9 => (fun v _ w' => ∃ q, v = .pointer (some ⟨q, 0, none⟩) ∧ W.heap.size ≤ q ∧ Box w' q 25 #[.slice none 0 0, .slice none 0 0, .slice none 0 0]) | _ => fun _ _ _ => True) (none) 99 (by kernel_rfl) (by rfl) (by kernel_rfl) (by rfl) ?_ ?_ ?_
  · refine ⟨?_, ?_, ?_, ?_, ?_, ?_, ?_, ?_, ?_, ?_, trivial⟩
    · intro A w' K vals h hn hg hK
      clear h hn
      simp [Oper.wp, execOp, go_sem]
      exact hK _ _ (World.grownBy_alloc _ _ _) ⟨_, rfl, World.ownsRow_made w' #[] 0 hg.size (by decide) rfl⟩
    · intro A w' K vals h hn hg hK
      have r0 : A.tmps[1]?.getD undef = (.pointer (some ⟨w.heap.size, 0, none⟩)) := Rg.slot (h.1)
      clear h hn hg
      simp [Oper.wp, execOp, go_sem, r0]
      exact hK _ _ (Rg.grown_refl _ _) rfl
    · intro A w' K vals h hn hg hK
      have r0 : A.tmps[6]?.getD undef = vals 1 := Rg.slot h.1
      have r1 : vals 1 = (.pointer (some ⟨w.heap.size, 0, none⟩)) := hn.1
      have c : w'.cell? ⟨w.heap.size, 0, none⟩ = some a := (HB0.out.keep hg).cell _ _ rfl
      clear h hn
      simp [Oper.wp, execOp, go_sem, r0, r1, c]
      exact hK _ _ (Rg.grown_refl _ _) rfl
    · intro A w' K vals h hn hg hK
      have r0 : A.tmps[5]?.getD undef = vals 0 := Rg.slot h.1
      have r1 : A.tmps[7]?.getD undef = vals 2 := Rg.slot h.2.1
      have r2 : vals 2 = a := hn.2.1
      obtain ⟨ao, e0, own⟩ : ∃ ao, vals 0 = .slice ao 0 0 ∧ w'.ownsRow W.heap.size 3 1 (vals 0) 0 [] := hn.1
      clear h hn
      rw [e0] at own
      have hin : Ints w' a g.owner := (HA.out.on HG.out).grown hg
      have hf := hin.fits1
      obtain ⟨v', w'', hrun, hown, hgr, hat⟩ := run_append_new elInt 22 own hin.row (one_ints g.owner) (by simp; omega) (by simp; omega) hg.size
      refine op_append rfl (by simp [Act.eval, r0, e0]) (by simp [Act.eval, r1, r2]) hrun (hK _ _ (Rg.grown_weak hgr) ?_)
      have hown' : OwnI w'' W.heap.size v' g.owner := by unfold OwnI; simpa using hown
      exact hown'
    · intro A w' K vals h hn hg hK
      clear h hn
      simp [Oper.wp, execOp, go_sem]
      exact hK _ _ (World.grownBy_alloc _ _ _) ⟨_, rfl, World.ownsRow_made w' #[] 0 hg.size (by decide) rfl⟩
    · intro A w' K vals h hn hg hK
      have r0 : A.tmps[1]?.getD undef = (.pointer (some ⟨w.heap.size, 0, none⟩)) := Rg.slot (h.1)
      clear h hn hg
      simp [Oper.wp, execOp, go_sem, r0]
      exact hK _ _ (Rg.grown_refl _ _) rfl
    · intro A w' K vals h hn hg hK
      have r0 : A.tmps[10]?.getD undef = vals 5 := Rg.slot h.1
      have r1 : vals 5 = (.pointer (some ⟨w.heap.size, 1, none⟩)) := hn.1
      have c : w'.cell? ⟨w.heap.size, 1, none⟩ = some b := (HB0.out.keep hg).cell _ _ rfl
      clear h hn
      simp [Oper.wp, execOp, go_sem, r0, r1, c]
      exact hK _ _ (Rg.grown_refl _ _) rfl
    · intro A w' K vals h hn hg hK
      have r0 : A.tmps[9]?.getD undef = vals 4 := Rg.slot h.1
      have r1 : A.tmps[11]?.getD undef = vals 6 := Rg.slot h.2.1
      have r2 : vals 6 = b := hn.2.1
      obtain ⟨ao, e0, own⟩ : ∃ ao, vals 4 = .slice ao 0 0 ∧ w'.ownsRow W.heap.size 3 1 (vals 4) 0 [] := hn.1
      have n3 : OwnI w' W.heap.size (vals 3) g.owner := hn.2.2.1
      clear h hn
      rw [e0] at own
      have hin : Ints w' b g.prio := (HB.out.on HG.out).grown hg
      have hf := hin.fits1
      obtain ⟨v', w'', hrun, hown, hgr, hat⟩ := run_append_new elInt 22 own hin.row (one_ints g.prio) (by simp; omega) (by simp; omega) hg.size
      refine op_append rfl (by simp [Act.eval, r0, e0]) (by simp [Act.eval, r1, r2]) hrun (hK _ _ (Rg.grown_weak hgr) ?_)
      have hown' : OwnI w'' W.heap.size v' g.prio := by unfold OwnI; simpa using hown
      exact ⟨hown', apart_new n3 hat⟩
    · intro A w' K vals h hn hg hK
      have r0 : A.tmps[8]?.getD undef = vals 3 := Rg.slot h.1
      have r1 : A.tmps[12]?.getD undef = vals 7 := Rg.slot h.2.1
      have n2 : OwnI w' W.heap.size (vals 3) g.owner := hn.1
      have n5 : OwnI w' W.heap.size (vals 7) g.prio := hn.2.1.1
      obtain ⟨a2, c2, e2, -⟩ := own_at n2
      obtain ⟨a5, c5, e5, -⟩ := own_at n5
      clear h hn n2 n5
      simp [Oper.wp, execOp, go_sem, r0, r1, e2, e5]
      refine hK _ _ (Rg.grown_refl _ _) ?_
      show _ = Value.agg #[vals 3, vals 7, _]
      rw [e2, e5]
    · intro A w' K vals h hn hg hK
      clear h hn
      simp [Oper.wp, execOp, go_sem]
      exact hK _ _ (World.grownBy_alloc _ _ _) ⟨_, rfl, hg.size, Box.new _ _ _⟩
  · refine ⟨?_, ?_, ?_, ?_, ?_, ?_, ?_, ?_, ?_, ?_, trivial⟩
    · exact fun _ _ _ _ _ h ⟨ao, hv, ho⟩ => ⟨ao, hv, own_grown ho h⟩
    · exact fun _ _ _ _ _ _ h => h
    · exact fun _ _ _ _ _ _ h => h
    · exact fun _ _ _ _ _ h ho => own_grown ho h
    · exact fun _ _ _ _ _ h ⟨ao, hv, ho⟩ => ⟨ao, hv, own_grown ho h⟩
    · exact fun _ _ _ _ _ _ h => h
    · exact fun _ _ _ _ _ _ h => h
    · exact fun _ _ _ _ _ h ho => ⟨own_grown ho.1 h, ho.2⟩
    · exact fun _ _ _ _ _ _ h => h
    · exact fun _ _ _ _ _ h ⟨q, hv, hq, hb⟩ => ⟨q, hv, hq, hb.keep h⟩
  · intro vals w1 G hg hS hG
    have s3 : OwnI w1 W.heap.size (vals 3) g.owner := hS.2.2.2.1
    have s7 : OwnI w1 W.heap.size (vals 7) g.prio := hS.2.2.2.2.2.2.2.1.1
    have sA : Apart [vals 3, vals 7] := hS.2.2.2.2.2.2.2.1.2
    have s8 : vals 8 = .agg #[vals 3, vals 7, (.slice none 0 0)] := hS.2.2.2.2.2.2.2.2.1
    obtain ⟨q, s9, hq, hbx⟩ : ∃ q, vals 9 = .pointer (some ⟨q, 0, none⟩) ∧ W.heap.size ≤ q ∧ Box w1 q 25 #[.slice none 0 0, .slice none 0 0, .slice none 0 0] := hS.2.2.2.2.2.2.2.2.2.1
    clear hS
    obtain ⟨a3, k3, e3, -⟩ := own_at s3
    obtain ⟨a7, k7, e7, -⟩ := own_at s7
    rw [e3, e7] at s8 sA
    rw [e3] at s3
    rw [e7] at s7
    have qc0 : w1.cell? ⟨q, 0, none⟩ = some (.slice none 0 0) := hbx.cell 0 _ rfl
    have qc1 : w1.cell? ⟨q, 1, none⟩ = some (.slice none 0 0) := hbx.cell 1 _ rfl
    have qc2 : w1.cell? ⟨q, 2, none⟩ = some (.slice none 0 0) := hbx.cell 2 _ rfl
    have qf0 : w1.frozen? ⟨q, 0, none⟩ = false := hbx.frozen 0
    have qf1 : w1.frozen? ⟨q, 1, none⟩ = false := hbx.frozen 1
    have qf2 : w1.frozen? ⟨q, 2, none⟩ = false := hbx.frozen 2
    refine hG ?_
    clear hG
    simp [List.dropLast, Rg.putAll, Oper.wp, execOp, go_sem, s8, s9, e3, e7, qc0, qc1, qc2, qf0, qf1, qf2]
    have h0 : OwnG w1 W.heap.size (.slice a3 g.owner.length k3) (.slice a7 g.prio.length k7) (.slice none 0 0) [] ⟨g.owner, g.prio, []⟩ := ⟨s3, s7, World.ownsRow_nil _ _ _ _, fun j l hl => by simp at hl, sA⟩
    have h1 := ((h0.set hbx (by decide) (by decide) 0 (.slice a3 g.owner.length k3)).set (hbx.set 0 (.slice a3 g.owner.length k3)) (by decide) (by decide) 1 (.slice a7 g.prio.length k7)).set ((hbx.set 0 (.slice a3 g.owner.length k3)).set 1 (.slice a7 g.prio.length k7)) (by decide) (by decide) 2 (.slice none 0 0)
    have hb1 := ((hbx.set 0 (.slice a3 g.owner.length k3)).set 1 (.slice a7 g.prio.length k7)).set 2 (.slice none 0 0)
    have hbel : Below W.heap.size W (((w1.setCell ⟨q, 0, none⟩ (.slice a3 g.owner.length k3)).setCell ⟨q, 1, none⟩ (.slice a7 g.prio.length k7)).setCell ⟨q, 2, none⟩ (.slice none 0 0)) := (((below_of_grown hg).setCell (by show W.heap.size ≤ q; exact hq) _).setCell (by show W.heap.size ≤ q; exact hq) _).setCell (by show W.heap.size ≤ q; exact hq) _
    generalize (((w1.setCell ⟨q, 0, none⟩ (.slice a3 g.owner.length k3)).setCell ⟨q, 1, none⟩ (.slice a7 g.prio.length k7)).setCell ⟨q, 2, none⟩ (.slice none 0 0)) = W1 at h1 hb1 hbel ⊢
    have H1 := Lib.hid h1
    have HBX := Lib.hid hb1
    have HBL := Lib.hid hbel
    have HQ := Lib.hid hq
    clear qc0 qc1 qc2 qf0 qf1 qf2 s8 s9 e3 e7 s3 s7 sA hbx h0 h1 hb1 hbel hq hg
    go_wp2_with fail
    go_loopw [4] (fun i wr => ∃ k c L, Rel2 W n q (.slice a3 g.owner.length k3) (.slice a7 g.prio.length k7) g i wr k c L) (fun i _ => n - (intOf i).toNat)
    case atStart => exact ⟨0, _, _, Nat.zero_le _, rfl, HBX.out, H1.out, HBL.out⟩
    case round =>
      obtain ⟨k, c, L, hR⟩ := hrel
      have hk := hR.le
      obtain rfl := hR.eq
      have hj0 : (0 : Int) ≤ (k : Int) := Int.natCast_nonneg _
      have HR := Lib.hid hR
      clear hR
      have HALL := Lib.hid (HG.out.trans (HR.out.below.mono (by have := HS.out; omega)))
      have B0 := HB0.out.grown (World.grownBy.mk HR.out.below.os HR.out.below.tape HR.out.below.output HR.out.below.size (fun k hk _ => HR.out.below.block k hk) : W.grownBy wr none) (by simp)
      have pc0 : wr.cell? ⟨w.heap.size, 0, none⟩ = some a := B0.cell 0 _ rfl
      have pc1 : wr.cell? ⟨w.heap.size, 1, none⟩ = some b := B0.cell 1 _ rfl
      have pc2 : wr.cell? ⟨w.heap.size, 2, none⟩ = some (.slice co n cc) := B0.cell 2 _ rfl
      have BB0 := Lib.hid B0
      clear B0
      by_cases hlt : k < n
      · have fj : decide ((k : Int) < (n : Int)) = true := decide_eq_true (by omega)
        have hkl : k < g.moves.length := by rw [HN.out]; exact hlt
        obtain ⟨bc, oc, rfl, lc, kc⟩ := HC.out.resolve_left (fun e => by rw [e] at hkl; exact absurd hkl (Nat.not_lt_zero k))
        obtain ⟨x, cx, hx⟩ := kc k hkl
        have hl : g.moves[k]? = some (g.moves.getD k []) := by rw [List.getD_eq_getElem?_getD, List.getElem?_eq_getElem hkl]; rfl
        generalize g.moves.getD k [] = l at hx hl
        have HL := Lib.hid hl
        have HX := Lib.hid hx
        have HCX := Lib.hid ((HALL.out.cell (p := ⟨bc, oc + k, none⟩) lc).trans cx)
        have HLC := Lib.hid lc
        have htl : (g.moves.take k).length = k := by rw [List.length_take]; omega
        have HT := Lib.hid htl
        have hrow : ∀ p, c.ownBlock = some p → p < wr.heap.size := fun p hp => (own_lt HR.out.own.head p hp).2
        have HROW := Lib.hid hrow
        clear hkl cx hx hl kc lc htl hrow
        go_wp2_with fail
        clear pc0 pc1 pc2
        refine Rg.wp_region_lit (fun idx => match idx with | 0 => (fun v _ _ => v = (.pointer (some ⟨q, 2, none⟩))) | 1 => (fun v _ _ => v = c) | 2 => (fun v _ w' => ∃ ao, v = .slice ao 0 0 ∧ w'.ownsRow wr.heap.size 3 1 v 0 []) | 3 => (fun v _ _ => v = (.pointer (some ⟨w.heap.size, 2, none⟩))) | 4 => (fun v _ _ => v = (.slice (some ⟨bc, oc, none⟩) n cc)) | 5 => (fun v _ _ => v = (.int .i64 (k : Int))) | 6 => (fun v _ _ => v = (.pointer (some ⟨bc, oc + k, none⟩))) | 7 => (fun v _ _ => v = x) | 8 => (fun v _ w' => OwnI w' wr.heap.size v l) | 9 => (fun v ds w' => ∃ p, v = .slice (some ⟨p, 0, none⟩) 1 1 ∧ wr.heap.size ≤ p ∧ p < w'.heap.size ∧ w'.cell? ⟨p, 0, none⟩ = some (ds.getD 0 undef)) | 10 => (fun v ds w' => w'.ownsRow W.heap.size 22 1 v (k + 1) (L ++ [ds.getD 2 undef])) | 11 => (fun v _ _ => v = (.pointer (some ⟨q, 2, none⟩))) | _ => fun _ _ _ => True) (c.ownBlock) 10 (by kernel_rfl) (by rfl) (by kernel_rfl) (by rfl) ?_ ?_ ?_
        · refine ⟨?_, ?_, ?_, ?_, ?_, ?_, ?_, ?_, ?_, ?_, ?_, ?_, trivial⟩
          · intro A w' K vals h hn hg hK
            have r0 : A.tmps[3]?.getD undef = (.pointer (some ⟨q, 0, none⟩)) := Rg.slot (h.1)
            clear h hn hg
            simp [Oper.wp, execOp, go_sem, r0]
            exact hK _ _ (Rg.grown_refl _ _) rfl
          · intro A w' K vals h hn hg hK
            have r0 : A.tmps[21]?.getD undef = vals 0 := Rg.slot h.1
            have r1 : vals 0 = (.pointer (some ⟨q, 2, none⟩)) := hn.1
            have c : w'.cell? ⟨q, 2, none⟩ = some c := (HR.out.box.grown hg (fun e => own_box HR.out.own.head HR.out.box (by decide) e.symm)).cell _ _ rfl
            clear h hn
            simp [Oper.wp, execOp, go_sem, r0, r1, c]
            exact hK _ _ (Rg.grown_refl _ _) rfl
          · intro A w' K vals h hn hg hK
            clear h hn
            simp [Oper.wp, execOp, go_sem]
            exact hK _ _ (World.grownBy_alloc _ _ _) ⟨_, rfl, World.ownsRow_made w' #[] 0 hg.size (by decide) rfl⟩
          · intro A w' K vals h hn hg hK
            have r0 : A.tmps[1]?.getD undef = (.pointer (some ⟨w.heap.size, 0, none⟩)) := Rg.slot (h.1)
            clear h hn hg
            simp [Oper.wp, execOp, go_sem, r0]
            exact hK _ _ (Rg.grown_refl _ _) rfl
          · intro A w' K vals h hn hg hK
            have r0 : A.tmps[24]?.getD undef = vals 3 := Rg.slot h.1
            have r1 : vals 3 = (.pointer (some ⟨w.heap.size, 2, none⟩)) := hn.1
            have c : w'.cell? ⟨w.heap.size, 2, none⟩ = some (.slice (some ⟨bc, oc, none⟩) n cc) := (BB0.out.grown hg (fun e => own_box HR.out.own.head BB0.out (by decide) e.symm)).cell _ _ rfl
            clear h hn
            simp [Oper.wp, execOp, go_sem, r0, r1, c]
            exact hK _ _ (Rg.grown_refl _ _) rfl
          · intro A w' K vals h hn hg hK
            have r0 : A.tmps[4]?.getD undef = (.int .i64 (k : Int)) := Rg.slot (h.1)
            clear h hn hg
            simp [Oper.wp, execOp, go_sem, r0]
            exact hK _ _ (Rg.grown_refl _ _) rfl
          · intro A w' K vals h hn hg hK
            have r0 : A.tmps[25]?.getD undef = vals 4 := Rg.slot h.1
            have r1 : A.tmps[26]?.getD undef = vals 5 := Rg.slot h.2.1
            have r2 : vals 4 = (.slice (some ⟨bc, oc, none⟩) n cc) := hn.1
            have r3 : vals 5 = (.int .i64 (k : Int)) := hn.2.1
            clear h hn hg
            simp [Oper.wp, execOp, go_sem, r0, r1, r2, r3, hlt]
            exact hK _ _ (Rg.grown_refl _ _) rfl
          · intro A w' K vals h hn hg hK
            have r0 : A.tmps[27]?.getD undef = vals 6 := Rg.slot h.1
            have r1 : vals 6 = (.pointer (some ⟨bc, oc + k, none⟩)) := hn.1
            have c : w'.cell? ⟨bc, oc + k, none⟩ = some x := hg.cell HCX.out (by intro e; have := HROW.out bc e.symm; have h2 := own_lt HR.out.own.head bc e.symm; have := HLC.out; have := HS.out; omega)
            clear h hn
            simp [Oper.wp, execOp, go_sem, r0, r1, c]
            exact hK _ _ (Rg.grown_refl _ _) rfl
          · intro A w' K vals h hn hg hK
            have r0 : A.tmps[23]?.getD undef = vals 2 := Rg.slot h.1
            have r1 : A.tmps[28]?.getD undef = vals 7 := Rg.slot h.2.1
            have r2 : vals 7 = x := hn.2.1
            obtain ⟨ao, e0, own⟩ : ∃ ao, vals 2 = .slice ao 0 0 ∧ w'.ownsRow wr.heap.size 3 1 (vals 2) 0 [] := hn.1
            clear h hn
            rw [e0] at own
            have hin : Ints w' x l := HX.out.on (HALL.out.trans (below_mono_grown hg (by have := HALL.out.size; omega) (fun p hp => by have := (own_lt HR.out.own.head p hp).1; have := HG.out.size; omega)))
            have hf := hin.fits1
            obtain ⟨v', w'', hrun, hown, hgr, hat⟩ := run_append_new elInt 22 own hin.row (one_ints l) (by simp; omega) (by simp; omega) hg.size
            refine op_append rfl (by simp [Act.eval, r0, e0]) (by simp [Act.eval, r1, r2]) hrun (hK _ _ (Rg.grown_weak hgr) ?_)
            have hown' : OwnI w'' wr.heap.size v' l := by unfold OwnI; simpa using hown
            exact hown'
          · intro A w' K vals h hn hg hK
            have r0 : A.tmps[29]?.getD undef = vals 8 := Rg.slot h.1
            have n8 : OwnI w' wr.heap.size (vals 8) l := hn.1
            obtain ⟨a8, k8, e8, -⟩ := own_at n8
            clear h hn n8
            simp [Oper.wp, execOp, go_sem, r0, e8]
            refine hK _ _ (Rg.grown_weak (World.grownBy_alloc _ _ _)) ⟨w'.heap.size, rfl, hg.size, by simp, ?_⟩
            show _ = some (vals 8)
            rw [e8]
            simp
          · intro A w' K vals h hn hg hK
            have r0 : A.tmps[22]?.getD undef = vals 1 := Rg.slot h.1
            have r1 : A.tmps[30]?.getD undef = vals 9 := Rg.slot h.2.1
            have r2 : vals 1 = c := hn.1
            obtain ⟨p, e9, hp, hlt9, c9⟩ : ∃ p, vals 9 = .slice (some ⟨p, 0, none⟩) 1 1 ∧ wr.heap.size ≤ p ∧ p < w'.heap.size ∧ w'.cell? ⟨p, 0, none⟩ = some (vals 8) := hn.2.1
            have n8 : OwnI w' wr.heap.size (vals 8) l := hn.2.2.1
            obtain ⟨a8, k8, e8, -⟩ := own_at n8
            clear h hn n8
            have hg : wr.grownBy w' none := hg
            have own : w'.ownsRow W.heap.size 22 1 c k L := by
              have := own_grown HR.out.own.head hg
              rw [HT.out] at this
              exact this
            have hrow9 : Row w' (.slice (some ⟨p, 0, none⟩) 1 1) [vals 8] := ⟨_, _, rfl, .inr ⟨p, 0, rfl, hlt9, fun j u hu => by
              match j, hu with
              | 0, hu => simp at hu; subst hu; exact c9⟩⟩
            obtain ⟨v', w'', hrun, hown, hgr, hat⟩ := run_append elInts 23 own hrow9 (by intro u hu; simp at hu; subst hu; rw [e8]; rfl) (by simp; omega) (by simp; omega) (Nat.le_trans HR.out.below.size hg.size)
            refine op_append rfl (by simp [Act.eval, r0, r2]) (by simp [Act.eval, r1, e9]) hrun (hK _ _ hgr ?_)
            exact hown
          · intro A w' K vals h hn hg hK
            have r0 : A.tmps[3]?.getD undef = (.pointer (some ⟨q, 0, none⟩)) := Rg.slot (h.1)
            clear h hn hg
            simp [Oper.wp, execOp, go_sem, r0]
            exact hK _ _ (Rg.grown_refl _ _) rfl
        · refine ⟨?_, ?_, ?_, ?_, ?_, ?_, ?_, ?_, ?_, ?_, ?_, ?_, trivial⟩
          · exact fun _ _ _ _ _ _ h => h
          · exact fun _ _ _ _ _ _ h => h
          · exact fun _ _ _ _ _ h ⟨ao, hv, ho⟩ => ⟨ao, hv, own_past ho h HROW.out⟩
          · exact fun _ _ _ _ _ _ h => h
          · exact fun _ _ _ _ _ _ h => h
          · exact fun _ _ _ _ _ _ h => h
          · exact fun _ _ _ _ _ _ h => h
          · exact fun _ _ _ _ _ _ h => h
          · exact fun _ _ _ _ _ h ho => own_past ho h HROW.out
          · exact fun _ _ _ _ _ h ⟨p, hv, hp, hl, hc⟩ => ⟨p, hv, hp, Nat.lt_of_lt_of_le hl h.size, h.cell hc (fun e => by have := HROW.out p e.symm; omega)⟩
          · exact fun _ _ _ _ _ h ho => own_grown ho h
          · exact fun _ _ _ _ _ _ h => h
        · intro vals w2 G hg hS hG
          have s8 : OwnI w2 wr.heap.size (vals 8) l := hS.2.2.2.2.2.2.2.2.1
          have s10 : w2.ownsRow W.heap.size 22 1 (vals 10) (k + 1) (L ++ [vals 8]) := hS.2.2.2.2.2.2.2.2.2.2.1
          have s11 : vals 11 = .pointer (some ⟨q, 2, none⟩) := hS.2.2.2.2.2.2.2.2.2.2.2.1
          clear hS
          obtain ⟨a10, k10, e10, -⟩ := own_at s10
          have hpush := HR.out.own.push hg rfl HR.out.below.size s8 (by rw [HT.out]; exact s10)
          have hbq := HR.out.box.grown hg (fun e => own_box HR.out.own.head HR.out.box (by decide) e.symm)
          have qc2 : w2.cell? ⟨q, 2, none⟩ = some c := hbq.cell 2 _ rfl
          have qf2 : w2.frozen? ⟨q, 2, none⟩ = false := hbq.frozen 2
          rw [take_push HL.out, e10] at hpush
          have HREL := Lib.hid (show Rel2 W n q (.slice a3 g.owner.length k3) (.slice a7 g.prio.length k7) g (.int .i64 ((k + 1 : Nat) : Int)) (w2.setCell ⟨q, 2, none⟩ (.slice a10 (k + 1) k10)) (k + 1) (.slice a10 (k + 1) k10) (L ++ [vals 8]) from
            ⟨by omega, rfl, hbq.set 2 _, hpush.set hbq (by decide) (by decide) 2 _, (HR.out.below.trans (below_mono_grown hg HR.out.below.size (fun p hp => (own_lt HR.out.own.head p hp).1))).setCell (by show W.heap.size ≤ q; exact HQ.out) _⟩)
          clear hpush hbq s8 s10 hg
          refine hG ?_
          clear hG
          simp [List.dropLast, Rg.putAll, Oper.wp, execOp, go_sem, s11, e10, qc2, qf2]
          clear qc2 qf2 s11 e10
          go_wp2_with fail
          go_roundw
          case rel => exact ⟨k + 1, _, _, HREL.out⟩
          case measure => simp [intOf]; omega
      · have fj : decide ((k : Int) < (n : Int)) = false := decide_eq_false (by omega)
        have hown := HR.out.own
        rw [List.take_of_length_le (show g.moves.length ≤ k by rw [HN.out]; omega)] at hown
        obtain ⟨ao, kc, rfl, -⟩ := own_at hown.head
        have hbq := HR.out.box
        have B1 := HB1.out.grown (World.grownBy.mk HR.out.below.os HR.out.below.tape HR.out.below.output HR.out.below.size (fun k hk _ => HR.out.below.block k hk) : W.grownBy wr none) (by simp)
        have qc0 : wr.cell? ⟨q, 0, none⟩ = some (.slice a3 g.owner.length k3) := hbq.cell 0 _ rfl
        have qc1 : wr.cell? ⟨q, 1, none⟩ = some (.slice a7 g.prio.length k7) := hbq.cell 1 _ rfl
        have qc2 : wr.cell? ⟨q, 2, none⟩ = some (.slice ao g.moves.length kc) := hbq.cell 2 _ rfl
        have rc0 : wr.cell? ⟨(w.heap.size + 1), 0, none⟩ = some (.slice none 0 0) := B1.cell 0 _ rfl
        have rc1 : wr.cell? ⟨(w.heap.size + 1), 1, none⟩ = some (.slice none 0 0) := B1.cell 1 _ rfl
        have rc2 : wr.cell? ⟨(w.heap.size + 1), 2, none⟩ = some (.slice none 0 0) := B1.cell 2 _ rfl
        have rf0 : wr.frozen? ⟨(w.heap.size + 1), 0, none⟩ = false := B1.frozen 0
        have rf1 : wr.frozen? ⟨(w.heap.size + 1), 1, none⟩ = false := B1.frozen 1
        have rf2 : wr.frozen? ⟨(w.heap.size + 1), 2, none⟩ = false := B1.frozen 2
        have HO1 := Lib.hid hown
        have HB2 := Lib.hid B1
        have HP := Lib.hid (Copied.mk (((HO1.out.set HB2.out (by decide) (by decide) 0 _).set (HB2.out.set 0 _) (by decide) (by decide) 1 _).set ((HB2.out.set 0 _).set 1 _) (by decide) (by decide) 2 _ |>.low (by have := HS.out; omega)) ((((HALL.out).setCell (p := ⟨w.heap.size + 1, 0, none⟩) (by show w.heap.size ≤ w.heap.size + 1; omega) (.slice a3 g.owner.length k3)).setCell (p := ⟨w.heap.size + 1, 1, none⟩) (by show w.heap.size ≤ w.heap.size + 1; omega) (.slice a7 g.prio.length k7)).setCell (p := ⟨w.heap.size + 1, 2, none⟩) (by show w.heap.size ≤ w.heap.size + 1; omega) (.slice ao g.moves.length kc)))
        clear hown hbq B1
        go_wp2_with fail
        refine bodyPost_ret (v := .agg #[.slice a3 g.owner.length k3, .slice a7 g.prio.length k7, .slice ao g.moves.length kc]) (by simp [results, Try.results7, go_sem, rc0, rc1, rc2]) rfl HP.out
end W
end Go.Proofs.Ytghdjkpndhcplaa
