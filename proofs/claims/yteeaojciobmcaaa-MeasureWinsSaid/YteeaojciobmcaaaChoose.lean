/- What a position's moves make of it: the program's choose. -/
import Derived.Test.YteeaojciobmcaaaBounds
import Derived.Test.YteeaojciobmcaaaUpA
import Derived.Test.YteeaojciobmcaaaHep
import Derived.Test.YteeaojciobmcaaaReg
import Derived.Test.YteeaojciobmcaaaSam
import Derived.Test.YteeaojciobmcaaaGrowR
import Derived.Deep.Cut
import Derived.Lib.Hide
import Derived.Deep.QuietTactic
import Derived.BigQuiet
namespace Go.Proofs.Yteeaojciobmcaaa
open Go.RowKit
namespace W

theorem far_stT {w : World} {b q : Nat} {ty : TypeId} {cs : Array Value} (h : Box w b ty cs) (hq : b ≠ q) (t : P.Tup) : Box (((((w.setCell ⟨q, 0, none⟩ (.bool t.top)).setCell ⟨q, 1, none⟩ (.int .i64 t.a)).setCell ⟨q, 2, none⟩ (.int .i64 t.b)).setCell ⟨q, 3, none⟩ (.int .i64 t.c)).setCell ⟨q, 4, none⟩ (.int .i64 t.d)) b ty cs := ((((h.far hq _).far hq _).far hq _).far hq _).far hq _
theorem tups_le (g : P.G) (hr : g.Right) (k : Nat) : ct g.tups k ≤ 17592186043904 := by
  have h1 := hr.prio
  have h2 := hr.many
  have c1 : g.prio.count 1 ≤ g.prio.length := List.count_le_length
  have c3 : g.prio.count 3 ≤ g.prio.length := List.count_le_length
  have c5 : g.prio.count 5 ≤ g.prio.length := List.count_le_length
  have c7 : g.prio.count 7 ≤ g.prio.length := List.count_le_length
  unfold ct P.G.tups
  split <;> simp only <;> omega
set_option maxRecDepth 100000 in
set_option maxHeartbeats 6000000 in
theorem choose_any (g : P.G) (hr : g.Right) (l : List P.Tup) (hll : l.length = g.owner.length) (hlow : ∀ j k, k < 4 → -9223372036854775808 ≤ ct (l.getD j .zero) k) (i : Nat) (hi : i < g.owner.length) (v vl : Value) (w : World) (hv : GameV w v g) (hV : TupsV w vl l) :
    Calls Try.prog 46 #[v, .agg (bc g.tups), vl, .int .i64 (i : Int)] w fun e w' => e = .returned (.tuple #[.int .i64 (g.choose l i).1, .agg (tc (g.choose l i).2)]) ∧ Below w.heap.size w w' := by
  have hop := hr.prio
  have hmp := hr.moves
  have hmany := hr.many
  have h0 := hr.pos
  obtain ⟨n, hn⟩ : ∃ n, g.owner.length = n := ⟨_, rfl⟩
  rw [hn] at hop hmp hmany h0 hi hll
  obtain ⟨ba, oa, ka, bb, ob, kb, bc_, oc, kc, rfl, hca, hcb, hcc⟩ := hv.open_ hn hop hmp h0
  obtain ⟨bl, ol, kl, rfl, hbl, hcl⟩ := hV.open_ hll h0
  have HCL := Lib.hid hcl
  have HR := Lib.hid hr
  have HN := Lib.hid hn
  have HLOW := Lib.hid hlow
  have hat := hr.at i (by rw [hn]; exact hi)
  have hco := hca w (Below.refl _ _) i hi
  have hcp := hcb w (Below.refl _ _) i hi
  obtain ⟨xv, hcx, hxv⟩ := hcc w (Below.refl _ _) i hi
  clear hca hcb hcc hcl hr hn hop hmp hv hV hlow
  obtain ⟨ms, hms⟩ : ∃ ms, g.moves.getD i [] = ms := ⟨_, rfl⟩
  obtain ⟨zo, hzo⟩ : ∃ z, g.owner.getD i 0 = z := ⟨_, rfl⟩
  obtain ⟨zp, hzp⟩ : ∃ z, g.prio.getD i 0 = z := ⟨_, rfl⟩
  rw [hms] at hxv hat
  rw [hzo] at hco hat
  rw [hzp] at hcp hat
  obtain ⟨ho01, hp0, hp7, hne, hrise⟩ := hat
  rw [HN.out] at hrise
  obtain ⟨mo, mk, rfl, hlen, hmc⟩ := hxv
  obtain ⟨bm, om, rfl, hbm, hmc⟩ := hmc.resolve_left hne
  have HRISE := Lib.hid hrise
  have HMS := Lib.hid hms
  have HZO := Lib.hid hzo
  have HZP := Lib.hid hzp
  have HMC := Lib.hid hmc
  have LBC := Lib.hid (cell_lt hcx)
  have LBA := Lib.hid (cell_lt hco)
  have LBP := Lib.hid (cell_lt hcp)
  have HCX := Lib.hid hcx
  have HCO := Lib.hid hco
  have HCP := Lib.hid hcp
  have LBM := Lib.hid hbm
  have LBL := Lib.hid hbl
  have hi0 : (0 : Int) ≤ (i : Int) := Int.natCast_nonneg _
  have hii : (i : Int) < (n : Int) := by omega
  have HP07 := Lib.hid (And.intro hp0 hp7)
  have HO01 := Lib.hid ho01
  clear hne hrise hms hzo hzp hmc hcx hco hcp hbm hbl hp0 hp7 ho01
  go_enter Try.func46, Try.ntmps46
  have hbW : Below w.heap.size w ((((w.alloc (.cells #[.slice (some ⟨ba, oa, none⟩) n ka, .slice (some ⟨bb, ob, none⟩) n kb, .slice (some ⟨bc_, oc, none⟩) n kc] 33)).alloc (.cells (bc g.tups) 22)).alloc (.cells #[.bool false, .int .i64 0, .int .i64 0, .int .i64 0, .int .i64 0] 26)).alloc (.cells #[.bool false, .int .i64 0, .int .i64 0, .int .i64 0, .int .i64 0] 26)) := ((((Below.refl _ w).alloc (Nat.le_refl _) _).alloc (by simp) _).alloc (by simp; omega) _).alloc (by simp; omega) _
  have cx := (hbW.cell (p := ⟨bc_, oc + i, none⟩) LBC.out).trans HCX.out
  clear hbW
  go_wp2_with fail
  rw [show #[.bool false, .int .i64 0, .int .i64 0, .int .i64 0, .int .i64 0] = tc .zero from rfl]
  clear cx
  have bx0 : Box ((((w.alloc (.cells #[.slice (some ⟨ba, oa, none⟩) n ka, .slice (some ⟨bb, ob, none⟩) n kb, .slice (some ⟨bc_, oc, none⟩) n kc] 33)).alloc (.cells (bc g.tups) 22)).alloc (.cells (tc .zero) 26)).alloc (.cells (tc .zero) 26)) (w.heap.size) 33 #[.slice (some ⟨ba, oa, none⟩) n ka, .slice (some ⟨bb, ob, none⟩) n kb, .slice (some ⟨bc_, oc, none⟩) n kc] := Box.alloc (Box.alloc (Box.alloc (Box.new w 33 #[.slice (some ⟨ba, oa, none⟩) n ka, .slice (some ⟨bb, ob, none⟩) n kb, .slice (some ⟨bc_, oc, none⟩) n kc]) (.cells (bc g.tups) 22)) (.cells (tc .zero) 26)) (.cells (tc .zero) 26)
  have bx1 : Box ((((w.alloc (.cells #[.slice (some ⟨ba, oa, none⟩) n ka, .slice (some ⟨bb, ob, none⟩) n kb, .slice (some ⟨bc_, oc, none⟩) n kc] 33)).alloc (.cells (bc g.tups) 22)).alloc (.cells (tc .zero) 26)).alloc (.cells (tc .zero) 26)) (w.heap.size + 1) 22 (bc g.tups) := by
    have := Box.alloc (Box.alloc (Box.new (w.alloc (.cells #[.slice (some ⟨ba, oa, none⟩) n ka, .slice (some ⟨bb, ob, none⟩) n kb, .slice (some ⟨bc_, oc, none⟩) n kc] 33)) 22 (bc g.tups)) (.cells (tc .zero) 26)) (.cells (tc .zero) 26)
    simpa using this
  have bx2 : Box ((((w.alloc (.cells #[.slice (some ⟨ba, oa, none⟩) n ka, .slice (some ⟨bb, ob, none⟩) n kb, .slice (some ⟨bc_, oc, none⟩) n kc] 33)).alloc (.cells (bc g.tups) 22)).alloc (.cells (tc .zero) 26)).alloc (.cells (tc .zero) 26)) (w.heap.size + 1 + 1) 26 (tc .zero) := by
    have := Box.alloc (Box.new ((w.alloc (.cells #[.slice (some ⟨ba, oa, none⟩) n ka, .slice (some ⟨bb, ob, none⟩) n kb, .slice (some ⟨bc_, oc, none⟩) n kc] 33)).alloc (.cells (bc g.tups) 22)) 26 (tc .zero)) (.cells (tc .zero) 26)
    simpa using this
  have bx3 : Box ((((w.alloc (.cells #[.slice (some ⟨ba, oa, none⟩) n ka, .slice (some ⟨bb, ob, none⟩) n kb, .slice (some ⟨bc_, oc, none⟩) n kc] 33)).alloc (.cells (bc g.tups) 22)).alloc (.cells (tc .zero) 26)).alloc (.cells (tc .zero) 26)) (w.heap.size + 1 + 1 + 1) 26 (tc .zero) := by
    have := Box.new (((w.alloc (.cells #[.slice (some ⟨ba, oa, none⟩) n ka, .slice (some ⟨bb, ob, none⟩) n kb, .slice (some ⟨bc_, oc, none⟩) n kc] 33)).alloc (.cells (bc g.tups) 22)).alloc (.cells (tc .zero) 26)) 26 (tc .zero)
    simpa using this
  have hbq : Below w.heap.size w ((((w.alloc (.cells #[.slice (some ⟨ba, oa, none⟩) n ka, .slice (some ⟨bb, ob, none⟩) n kb, .slice (some ⟨bc_, oc, none⟩) n kc] 33)).alloc (.cells (bc g.tups) 22)).alloc (.cells (tc .zero) 26)).alloc (.cells (tc .zero) 26)) := ((((Below.refl _ w).alloc (Nat.le_refl _) _).alloc (by simp) _).alloc (by simp; omega) _).alloc (by simp; omega) _
  have lt0 : w.heap.size < w.heap.size + 1 := Nat.lt_succ_self _
  have lt1 : w.heap.size + 1 < w.heap.size + 1 + 1 := Nat.lt_succ_self _
  have lt2 : w.heap.size + 1 + 1 < w.heap.size + 1 + 1 + 1 := Nat.lt_succ_self _
  have hle0 : w.heap.size ≤ w.heap.size := Nat.le_refl _
  generalize ((((w.alloc (.cells #[.slice (some ⟨ba, oa, none⟩) n ka, .slice (some ⟨bb, ob, none⟩) n kb, .slice (some ⟨bc_, oc, none⟩) n kc] 33)).alloc (.cells (bc g.tups) 22)).alloc (.cells (tc .zero) 26)).alloc (.cells (tc .zero) 26)) = w0 at bx0 bx1 bx2 bx3 hbq  ⊢
  have BQg := Lib.hid bx0
  have BQn := Lib.hid bx1
  have BQr := Lib.hid bx2
  have BQb := Lib.hid bx3
  have W := Lib.hid hbq
  have LTgn := Lib.hid lt0
  have LTnr := Lib.hid lt1
  have LTrb := Lib.hid lt2
  have LEg := Lib.hid hle0
  clear hbq hle0 bx0 bx1 bx2 bx3 lt0 lt1 lt2
  generalize w.heap.size + 1 + 1 + 1 = qb at BQb LTrb ⊢
  generalize w.heap.size + 1 + 1 = qr at BQr LTrb LTnr ⊢
  generalize w.heap.size + 1 = qn at BQn LTnr LTgn ⊢
  obtain ⟨qg, hqg⟩ : ∃ qg, w.heap.size = qg := ⟨_, rfl⟩
  rw [hqg] at BQg LTgn ⊢
  have LEg : Hid (w.heap.size ≤ qg) := Lib.hid (by omega)
  clear hqg
  have LEn := Lib.hid (Nat.le_trans LEg.out (Nat.le_of_lt LTgn.out))
  have LEr := Lib.hid (Nat.le_trans LEn.out (Nat.le_of_lt LTnr.out))
  have LEb := Lib.hid (Nat.le_trans LEr.out (Nat.le_of_lt LTrb.out))
  go_loopw [10, 23] (fun mv iv wr => ∃ (j : Nat) (m : Int × P.Tup), j ≤ ms.length ∧ iv = .int .i64 (j : Int) ∧ mv = .int .i64 m.1 ∧ g.choose l i = P.pick g.tups zo zp l (ms.drop j) m ∧ -1 ≤ m.1 ∧ Box wr qg 33 #[.slice (some ⟨ba, oa, none⟩) n ka, .slice (some ⟨bb, ob, none⟩) n kb, .slice (some ⟨bc_, oc, none⟩) n kc] ∧ Box wr qn 22 (bc g.tups) ∧ Box wr qr 26 (tc .zero) ∧ Box wr qb 26 (tc m.2) ∧ Below w.heap.size w wr) (fun _ iv _ => ms.length - (intOf iv).toNat)
  case atStart => exact ⟨0, (-1, .zero), Nat.zero_le _, rfl, rfl, by rw [P.G.choose, HZO.out, HZP.out, HMS.out]; rfl, Int.le_refl _, BQg.out, BQn.out, BQr.out, BQb.out, W.out⟩
  case round =>
    obtain ⟨j, m, hj, rfl, rfl, hpk, hm1, b1, b2, b3, b4, hb⟩ := hrel
    replace BQg := Lib.hid b1
    replace BQn := Lib.hid b2
    replace BQr := Lib.hid b3
    replace BQb := Lib.hid b4
    replace W := Lib.hid hb
    have HM1 := Lib.hid hm1
    clear b1 b2 b3 b4 hb hm1
    have hj0 : (0 : Int) ≤ (j : Int) := Int.natCast_nonneg _
    by_cases hlt : j < ms.length
    · have fj : decide ((j : Int) < (ms.length : Int)) = true := decide_eq_true (by omega)
      have hji : (j : Int) < (ms.length : Int) := by omega
      have hcell := HMC.out j hlt
      have hmb := P.rise_bounds HRISE.out (ms.getD j 0) (by rw [List.getD_eq_getElem?_getD, List.getElem?_eq_getElem hlt]; exact List.getElem_mem hlt)
      have hdrop : ms.drop j = ms.getD j 0 :: ms.drop (j + 1) := by
        rw [List.drop_eq_getElem_cons hlt, List.getD_eq_getElem?_getD, List.getElem?_eq_getElem hlt]
        rfl
      obtain ⟨mz, hmz⟩ : ∃ mz, ms.getD j 0 = mz := ⟨_, rfl⟩
      rw [hmz] at hcell hmb hdrop
      obtain ⟨mn, rfl⟩ := Int.eq_ofNat_of_zero_le (show 0 ≤ mz by omega)
      have hmn : mn < n := by omega
      have hmi : (mn : Int) < (n : Int) := by omega
      have hm0 : (0 : Int) ≤ (mn : Int) := Int.natCast_nonneg _
      have cm := (W.out.cell (p := ⟨bm, om + j, none⟩) LBM.out).trans hcell
      obtain ⟨t, ht⟩ : ∃ t, l.getD mn .zero = t := ⟨_, rfl⟩
      obtain ⟨u, hu⟩ : ∃ u, P.Tup.up g.tups zp t = u := ⟨_, rfl⟩
      rw [hdrop, P.pick, P.tget_nat, ht, hu] at hpk
      have HPK := Lib.hid hpk
      have HU := Lib.hid hu
      have HTL := Lib.hid (show ∀ k, k < 4 → -9223372036854775808 ≤ ct t k from fun k hk => by rw [← ht]; exact HLOW.out mn k hk)
      have hcl := HCL.out wr W.out mn hmn
      rw [ht] at hcl
      have CL0 := Lib.hid (hcl 0 _ rfl)
      have CL1 := Lib.hid (hcl 1 _ rfl)
      have CL2 := Lib.hid (hcl 2 _ rfl)
      have CL3 := Lib.hid (hcl 3 _ rfl)
      have CL4 := Lib.hid (hcl 4 _ rfl)
      have CP := Lib.hid ((W.out.cell (p := ⟨bb, ob + i, none⟩) LBP.out).trans HCP.out)
      have CO := Lib.hid ((W.out.cell (p := ⟨ba, oa + i, none⟩) LBA.out).trans HCO.out)
      clear hcell hmb hdrop hmz ht hu hpk hcl
      go_wp2_with fail
      clear cm
      refine Rt.wp_region_tail 1 (fun idx => match idx with | 0 => (fun v _ _ => v = .agg (bc g.tups)) | 1 => (fun v _ _ => v = (.pointer (some ⟨qg, 1, none⟩))) | 2 => (fun v _ _ => v = (.slice (some ⟨bb, ob, none⟩) n kb)) | 3 => (fun v _ _ => v = (.int .i64 (i : Int))) | 4 => (fun v _ _ => v = (.pointer (some ⟨bb, ob + i, none⟩))) | 5 => (fun v _ _ => v = (.int .i64 zp)) | 6 => (fun v _ _ => v = (.slice (some ⟨bl, ol, none⟩) n kl)) | 7 => (fun v _ _ => v = (.int .i64 (mn : Int))) | 8 => (fun v _ _ => v = (.pointer (some ⟨bl, ol + mn * 5, none⟩))) | 9 => (fun v _ _ => v = .agg (tc t)) | 10 => (fun v _ _ => v = .agg (tc u)) | 11 => (fun v _ w' => ∃ p, v = .pointer (some ⟨p, 0, none⟩) ∧ Box w' p 26 (tc .zero) ∧ wr.heap.size ≤ p) | _ => fun _ _ _ => True) (fun _ _ _ _ => True) (Rk.allK) 99 (by kernel_rfl) (by rfl) (by kernel_rfl) (by rfl) ?_ ?_ ?_ ?_
      · refine ⟨?_, ?_, ?_, ?_, ?_, ?_, ?_, ?_, ?_, ?_, ?_, ?_, trivial⟩
        · intro A w' K vals h hn hT hgk hK0
          have hg : wr.grownBy w' none := Rk.grown_of hgk
          have hK := fun v u (h1 : w'.grownBy u none) h2 => hK0 v u (Rk.keep_of h1) h2 trivial
          clear hT hgk hK0
          have r0 : A.tmps[5]?.getD undef = .pointer (some ⟨qn, 0, none⟩) := Rg.slot h.1
          have bs := BQn.out.keep hg
          have cc0 : w'.cell? ⟨qn, 0, none⟩ = some (.int .i64 g.tups.a) := bs.cell 0 _ rfl
          have cc1 : w'.cell? ⟨qn, 1, none⟩ = some (.int .i64 g.tups.b) := bs.cell 1 _ rfl
          have cc2 : w'.cell? ⟨qn, 2, none⟩ = some (.int .i64 g.tups.c) := bs.cell 2 _ rfl
          have cc3 : w'.cell? ⟨qn, 3, none⟩ = some (.int .i64 g.tups.d) := bs.cell 3 _ rfl
          clear h hn hg bs
          simp [Oper.wp, execOp, go_sem, r0, cc0, cc1, cc2, cc3]
          exact hK _ _ (Rg.grown_refl _ _) rfl
        · intro A w' K vals h hn hT hgk hK0
          have hg : wr.grownBy w' none := Rk.grown_of hgk
          have hK := fun v u (h1 : w'.grownBy u none) h2 => hK0 v u (Rk.keep_of h1) h2 trivial
          clear hT hgk hK0
          have r0 : A.tmps[4]?.getD undef = (.pointer (some ⟨qg, 0, none⟩)) := Rg.slot (h.1)
          clear h hn hg
          simp [Oper.wp, execOp, go_sem, r0]
          exact hK _ _ (Rg.grown_refl _ _) rfl
        · intro A w' K vals h hn hT hgk hK0
          have hg : wr.grownBy w' none := Rk.grown_of hgk
          have hK := fun v u (h1 : w'.grownBy u none) h2 => hK0 v u (Rk.keep_of h1) h2 trivial
          clear hT hgk hK0
          have r0 : A.tmps[28]?.getD undef = vals 1 := Rg.slot h.1
          have r1 : vals 1 = (.pointer (some ⟨qg, 1, none⟩)) := hn.1
          have c : w'.cell? ⟨qg, 1, none⟩ = some (.slice (some ⟨bb, ob, none⟩) n kb) := (BQg.out.keep hg).cell 1 _ rfl
          clear h hn
          simp [Oper.wp, execOp, go_sem, r0, r1, c]
          exact hK _ _ (Rg.grown_refl _ _) rfl
        · intro A w' K vals h hn hT hgk hK0
          have hg : wr.grownBy w' none := Rk.grown_of hgk
          have hK := fun v u (h1 : w'.grownBy u none) h2 => hK0 v u (Rk.keep_of h1) h2 trivial
          clear hT hgk hK0
          have r0 : A.tmps[3]?.getD undef = (.int .i64 (i : Int)) := Rg.slot (h.1)
          clear h hn hg
          simp [Oper.wp, execOp, go_sem, r0]
          exact hK _ _ (Rg.grown_refl _ _) rfl
        · intro A w' K vals h hn hT hgk hK0
          have hg : wr.grownBy w' none := Rk.grown_of hgk
          have hK := fun v u (h1 : w'.grownBy u none) h2 => hK0 v u (Rk.keep_of h1) h2 trivial
          clear hT hgk hK0
          have r0 : A.tmps[29]?.getD undef = vals 2 := Rg.slot h.1
          have r1 : A.tmps[30]?.getD undef = vals 3 := Rg.slot h.2.1
          have r2 : vals 2 = (.slice (some ⟨bb, ob, none⟩) n kb) := hn.1
          have r3 : vals 3 = (.int .i64 (i : Int)) := hn.2.1
          clear h hn hg
          simp [Oper.wp, execOp, go_sem, r0, r1, r2, r3, hi0, hii]
          exact hK _ _ (Rg.grown_refl _ _) rfl
        · intro A w' K vals h hn hT hgk hK0
          have hg : wr.grownBy w' none := Rk.grown_of hgk
          have hK := fun v u (h1 : w'.grownBy u none) h2 => hK0 v u (Rk.keep_of h1) h2 trivial
          clear hT hgk hK0
          have r0 : A.tmps[31]?.getD undef = vals 4 := Rg.slot h.1
          have r1 : vals 4 = (.pointer (some ⟨bb, ob + i, none⟩)) := hn.1
          have c : w'.cell? ⟨bb, ob + i, none⟩ = some (.int .i64 zp) := hg.cell CP.out (by simp)
          clear h hn
          simp [Oper.wp, execOp, go_sem, r0, r1, c]
          exact hK _ _ (Rg.grown_refl _ _) rfl
        · intro A w' K vals h hn hT hgk hK0
          have hg : wr.grownBy w' none := Rk.grown_of hgk
          have hK := fun v u (h1 : w'.grownBy u none) h2 => hK0 v u (Rk.keep_of h1) h2 trivial
          clear hT hgk hK0
          have r0 : A.tmps[2]?.getD undef = (.slice (some ⟨bl, ol, none⟩) n kl) := Rg.slot (h.1)
          clear h hn hg
          simp [Oper.wp, execOp, go_sem, r0]
          exact hK _ _ (Rg.grown_refl _ _) rfl
        · intro A w' K vals h hn hT hgk hK0
          have hg : wr.grownBy w' none := Rk.grown_of hgk
          have hK := fun v u (h1 : w'.grownBy u none) h2 => hK0 v u (Rk.keep_of h1) h2 trivial
          clear hT hgk hK0
          have r0 : A.tmps[13]?.getD undef = (.int .i64 (mn : Int)) := Rg.slot (h.1)
          clear h hn hg
          simp [Oper.wp, execOp, go_sem, r0]
          exact hK _ _ (Rg.grown_refl _ _) rfl
        · intro A w' K vals h hn hT hgk hK0
          have hg : wr.grownBy w' none := Rk.grown_of hgk
          have hK := fun v u (h1 : w'.grownBy u none) h2 => hK0 v u (Rk.keep_of h1) h2 trivial
          clear hT hgk hK0
          have r0 : A.tmps[33]?.getD undef = vals 6 := Rg.slot h.1
          have r1 : A.tmps[34]?.getD undef = vals 7 := Rg.slot h.2.1
          have r2 : vals 6 = (.slice (some ⟨bl, ol, none⟩) n kl) := hn.1
          have r3 : vals 7 = (.int .i64 (mn : Int)) := hn.2.1
          clear h hn hg
          simp [Oper.wp, execOp, go_sem, r0, r1, r2, r3, hm0, hmi]
          exact hK _ _ (Rg.grown_refl _ _) rfl
        · intro A w' K vals h hn hT hgk hK0
          have hg : wr.grownBy w' none := Rk.grown_of hgk
          have hK := fun v u (h1 : w'.grownBy u none) h2 => hK0 v u (Rk.keep_of h1) h2 trivial
          clear hT hgk hK0
          have r0 : A.tmps[35]?.getD undef = vals 8 := Rg.slot h.1
          have r1 : vals 8 = (.pointer (some ⟨bl, ol + mn * 5, none⟩)) := hn.1
          have cl0 : w'.cell? ⟨bl, ol + mn * 5, none⟩ = some (.bool t.top) := hg.cell CL0.out (by simp)
          have cl1 : w'.cell? ⟨bl, ol + mn * 5 + 1, none⟩ = some (.int .i64 t.a) := hg.cell CL1.out (by simp)
          have cl2 : w'.cell? ⟨bl, ol + mn * 5 + 2, none⟩ = some (.int .i64 t.b) := hg.cell CL2.out (by simp)
          have cl3 : w'.cell? ⟨bl, ol + mn * 5 + 3, none⟩ = some (.int .i64 t.c) := hg.cell CL3.out (by simp)
          have cl4 : w'.cell? ⟨bl, ol + mn * 5 + 4, none⟩ = some (.int .i64 t.d) := hg.cell CL4.out (by simp)
          clear h hn hg
          simp [Oper.wp, execOp, go_sem, r0, r1, cl0, cl1, cl2, cl3, cl4]
          exact hK _ _ (Rg.grown_refl _ _) rfl
        · intro A w' K vals h hn hT hgk hK0
          have hg : wr.grownBy w' none := Rk.grown_of hgk
          have hK := fun v u (h1 : w'.grownBy u none) h2 => hK0 v u (Rk.keep_of h1) h2 trivial
          clear hT hgk hK0
          have r0 : A.tmps[27]?.getD undef = vals 0 := Rg.slot h.2.1
          have r1 : A.tmps[32]?.getD undef = vals 5 := Rg.slot h.2.2.1
          have r2 : A.tmps[36]?.getD undef = vals 9 := Rg.slot h.2.2.2.1
          have s0 : vals 0 = .agg (bc g.tups) := hn.1
          have s1 : vals 5 = .int .i64 zp := hn.2.1
          have s2 : vals 9 = .agg (tc t) := hn.2.2.1
          clear h hn
          simp [Oper.wp, go_sem, r0, r1, r2, s0, s1, s2]
          refine (up_any g.tups t zp w' (by have := HP07.out; omega) HTL.out (fun k _ => tups_le g HR.out k)).mono ?_
          rintro e w'' ⟨rfl, hb⟩
          exact hK _ _ (grown_of_below hb _) (congrArg (fun x => Value.agg (tc x)) HU.out)
        · intro A w' K vals h hn hT hgk hK0
          have hg : wr.grownBy w' none := Rk.grown_of hgk
          have hK := fun v u (h1 : w'.grownBy u none) h2 => hK0 v u (Rk.keep_of h1) h2 trivial
          clear hT hgk hK0
          clear h hn
          simp [Oper.wp, execOp, go_sem]
          exact hK _ _ (World.grownBy_alloc _ _ _) ⟨_, rfl, Box.new _ _ _, hg.size⟩
      · refine ⟨?_, ?_, ?_, ?_, ?_, ?_, ?_, ?_, ?_, ?_, ?_, ?_, trivial⟩
        · exact fun _ _ _ _ _ _ h => h
        · exact fun _ _ _ _ _ _ h => h
        · exact fun _ _ _ _ _ _ h => h
        · exact fun _ _ _ _ _ _ h => h
        · exact fun _ _ _ _ _ _ h => h
        · exact fun _ _ _ _ _ _ h => h
        · exact fun _ _ _ _ _ _ h => h
        · exact fun _ _ _ _ _ _ h => h
        · exact fun _ _ _ _ _ _ h => h
        · exact fun _ _ _ _ _ _ h => h
        · exact fun _ _ _ _ _ _ h => h
        · exact fun _ _ _ _ _ h ⟨p, hv, hb, hl⟩ => ⟨p, hv, hb.keep (Rk.grown_of h), hl⟩
      · exact fun _ _ _ _ _ _ h => h
      · intro vals w6 G hgk hS hG
        have hg := Rk.grown_of hgk
        have s10 : vals 10 = .agg #[.bool u.top, .int .i64 u.a, .int .i64 u.b, .int .i64 u.c, .int .i64 u.d] := hS.2.2.2.2.2.2.2.2.2.2.1
        obtain ⟨p, s11, hbp, hlp⟩ : ∃ p, vals 11 = .pointer (some ⟨p, 0, none⟩) ∧ Box w6 p 26 (tc .zero) ∧ wr.heap.size ≤ p := hS.2.2.2.2.2.2.2.2.2.2.2.1
        have hb := below_of_grown hg
        have hpq := BQb.out.lt
        have CO := Lib.hid ((hb.cell (p := ⟨ba, oa + i, none⟩) (Nat.lt_of_lt_of_le LBA.out W.out.size)).trans CO.out)
        replace BQg := Lib.hid (BQg.out.keep (grown_of_below hb none))
        replace BQn := Lib.hid (BQn.out.keep (grown_of_below hb none))
        replace BQr := Lib.hid (BQr.out.keep (grown_of_below hb none))
        replace BQb := Lib.hid (BQb.out.keep (grown_of_below hb none))
        replace W := Lib.hid (W.out.trans (hb.mono W.out.size))
        have BP0 := Lib.hid hbp
        have LP := Lib.hid hlp
        have LPB := Lib.hid hpq
        clear hS hgk hg hb hbp hlp hpq
        refine hG ?_
        clear hG
        simp only [List.take, List.drop, List.length, Nat.reduceSub, Nat.reduceAdd, Rg.putAll, s10, s11]
        clear s10 s11
        have BP := Lib.hid (BP0.out.stT u)
        have hpb : qb ≠ p := by have := LP.out; have := LPB.out; omega
        have BQg := Lib.hid (far_stT BQg.out (show qg ≠ p by have := LP.out; have := LPB.out; have := LTgn.out; have := LTnr.out; have := LTrb.out; omega) u)
        have BQn := Lib.hid (far_stT BQn.out (show qn ≠ p by have := LP.out; have := LPB.out; have := LTnr.out; have := LTrb.out; omega) u)
        have BQr := Lib.hid (far_stT BQr.out (show qr ≠ p by have := LP.out; have := LPB.out; have := LTrb.out; omega) u)
        have BQb := Lib.hid (far_stT BQb.out hpb u)
        have CO := Lib.hid ((below_stT (Below.refl (qb + 1) w6) (q := p) (by have := LP.out; have := LPB.out; omega) u).cell (p := ⟨ba, oa + i, none⟩) (by have := LBA.out; have := LEb.out; simp only; omega) |>.trans CO.out)
        have W := Lib.hid (below_stT (q := p) W.out (by have := LP.out; have := LPB.out; have := LEb.out; omega) u)
        have pc0 : w6.cell? ⟨p, 0, none⟩ = some (.bool false) := BP0.out.cell 0 _ rfl
        have pc1 : w6.cell? ⟨p, 1, none⟩ = some (.int .i64 0) := BP0.out.cell 1 _ rfl
        have pc2 : w6.cell? ⟨p, 2, none⟩ = some (.int .i64 0) := BP0.out.cell 2 _ rfl
        have pc3 : w6.cell? ⟨p, 3, none⟩ = some (.int .i64 0) := BP0.out.cell 3 _ rfl
        have pc4 : w6.cell? ⟨p, 4, none⟩ = some (.int .i64 0) := BP0.out.cell 4 _ rfl
        have pf0 : w6.frozen? ⟨p, 0, none⟩ = false := BP0.out.frozen 0
        have pf1 : w6.frozen? ⟨p, 1, none⟩ = false := BP0.out.frozen 1
        have pf2 : w6.frozen? ⟨p, 2, none⟩ = false := BP0.out.frozen 2
        have pf3 : w6.frozen? ⟨p, 3, none⟩ = false := BP0.out.frozen 3
        have pf4 : w6.frozen? ⟨p, 4, none⟩ = false := BP0.out.frozen 4
        have nc0 : (((((w6.setCell ⟨p, 0, none⟩ (.bool u.top)).setCell ⟨p, 1, none⟩ (.int .i64 u.a)).setCell ⟨p, 2, none⟩ (.int .i64 u.b)).setCell ⟨p, 3, none⟩ (.int .i64 u.c)).setCell ⟨p, 4, none⟩ (.int .i64 u.d)).cell? ⟨p, 0, none⟩ = some (.bool u.top) := BP.out.cell 0 _ rfl
        have nc1 : (((((w6.setCell ⟨p, 0, none⟩ (.bool u.top)).setCell ⟨p, 1, none⟩ (.int .i64 u.a)).setCell ⟨p, 2, none⟩ (.int .i64 u.b)).setCell ⟨p, 3, none⟩ (.int .i64 u.c)).setCell ⟨p, 4, none⟩ (.int .i64 u.d)).cell? ⟨p, 1, none⟩ = some (.int .i64 u.a) := BP.out.cell 1 _ rfl
        have nc2 : (((((w6.setCell ⟨p, 0, none⟩ (.bool u.top)).setCell ⟨p, 1, none⟩ (.int .i64 u.a)).setCell ⟨p, 2, none⟩ (.int .i64 u.b)).setCell ⟨p, 3, none⟩ (.int .i64 u.c)).setCell ⟨p, 4, none⟩ (.int .i64 u.d)).cell? ⟨p, 2, none⟩ = some (.int .i64 u.b) := BP.out.cell 2 _ rfl
        have nc3 : (((((w6.setCell ⟨p, 0, none⟩ (.bool u.top)).setCell ⟨p, 1, none⟩ (.int .i64 u.a)).setCell ⟨p, 2, none⟩ (.int .i64 u.b)).setCell ⟨p, 3, none⟩ (.int .i64 u.c)).setCell ⟨p, 4, none⟩ (.int .i64 u.d)).cell? ⟨p, 3, none⟩ = some (.int .i64 u.c) := BP.out.cell 3 _ rfl
        have nc4 : (((((w6.setCell ⟨p, 0, none⟩ (.bool u.top)).setCell ⟨p, 1, none⟩ (.int .i64 u.a)).setCell ⟨p, 2, none⟩ (.int .i64 u.b)).setCell ⟨p, 3, none⟩ (.int .i64 u.c)).setCell ⟨p, 4, none⟩ (.int .i64 u.d)).cell? ⟨p, 4, none⟩ = some (.int .i64 u.d) := BP.out.cell 4 _ rfl
        have bc0 : (((((w6.setCell ⟨p, 0, none⟩ (.bool u.top)).setCell ⟨p, 1, none⟩ (.int .i64 u.a)).setCell ⟨p, 2, none⟩ (.int .i64 u.b)).setCell ⟨p, 3, none⟩ (.int .i64 u.c)).setCell ⟨p, 4, none⟩ (.int .i64 u.d)).cell? ⟨qb, 0, none⟩ = some (.bool m.2.top) := BQb.out.cell 0 _ rfl
        have bc1 : (((((w6.setCell ⟨p, 0, none⟩ (.bool u.top)).setCell ⟨p, 1, none⟩ (.int .i64 u.a)).setCell ⟨p, 2, none⟩ (.int .i64 u.b)).setCell ⟨p, 3, none⟩ (.int .i64 u.c)).setCell ⟨p, 4, none⟩ (.int .i64 u.d)).cell? ⟨qb, 1, none⟩ = some (.int .i64 m.2.a) := BQb.out.cell 1 _ rfl
        have bc2 : (((((w6.setCell ⟨p, 0, none⟩ (.bool u.top)).setCell ⟨p, 1, none⟩ (.int .i64 u.a)).setCell ⟨p, 2, none⟩ (.int .i64 u.b)).setCell ⟨p, 3, none⟩ (.int .i64 u.c)).setCell ⟨p, 4, none⟩ (.int .i64 u.d)).cell? ⟨qb, 2, none⟩ = some (.int .i64 m.2.b) := BQb.out.cell 2 _ rfl
        have bc3 : (((((w6.setCell ⟨p, 0, none⟩ (.bool u.top)).setCell ⟨p, 1, none⟩ (.int .i64 u.a)).setCell ⟨p, 2, none⟩ (.int .i64 u.b)).setCell ⟨p, 3, none⟩ (.int .i64 u.c)).setCell ⟨p, 4, none⟩ (.int .i64 u.d)).cell? ⟨qb, 3, none⟩ = some (.int .i64 m.2.c) := BQb.out.cell 3 _ rfl
        have bc4 : (((((w6.setCell ⟨p, 0, none⟩ (.bool u.top)).setCell ⟨p, 1, none⟩ (.int .i64 u.a)).setCell ⟨p, 2, none⟩ (.int .i64 u.b)).setCell ⟨p, 3, none⟩ (.int .i64 u.c)).setCell ⟨p, 4, none⟩ (.int .i64 u.d)).cell? ⟨qb, 4, none⟩ = some (.int .i64 m.2.d) := BQb.out.cell 4 _ rfl
        clear BP0 hpb
        go_wp2_with fail
        clear pc0 pf0 nc0 bc0 pc1 pf1 nc1 bc1 pc2 pf2 nc2 bc2 pc3 pf3 nc3 bc3 pc4 pf4 nc4 bc4
        generalize (((((w6.setCell ⟨p, 0, none⟩ (.bool u.top)).setCell ⟨p, 1, none⟩ (.int .i64 u.a)).setCell ⟨p, 2, none⟩ (.int .i64 u.b)).setCell ⟨p, 3, none⟩ (.int .i64 u.c)).setCell ⟨p, 4, none⟩ (.int .i64 u.d)) = wq at BP BQg BQn BQr BQb CO W ⊢
        refine (compare_any u m.2 0 wq).mono ?_
        rintro e w7 ⟨rfl, hb⟩
        have CO := Lib.hid ((hb.cell (p := ⟨ba, oa + i, none⟩) (Nat.lt_of_lt_of_le LBA.out W.out.size)).trans CO.out)
        replace BP := Lib.hid (BP.out.keep (grown_of_below hb none))
        replace BQg := Lib.hid (BQg.out.keep (grown_of_below hb none))
        replace BQn := Lib.hid (BQn.out.keep (grown_of_below hb none))
        replace BQr := Lib.hid (BQr.out.keep (grown_of_below hb none))
        replace BQb := Lib.hid (BQb.out.keep (grown_of_below hb none))
        replace W := Lib.hid (W.out.trans (hb.mono W.out.size))
        clear hb
        have co := CO.out
        have gc0 : w7.cell? ⟨qg, 0, none⟩ = some (.slice (some ⟨ba, oa, none⟩) n ka) := BQg.out.cell 0 _ rfl
        by_cases hm : m.1 = -1
        · have f1 : (m.1 == -1) = true := by rw [beq_iff_eq]; exact hm
          have HC : m.1 = -1 ∨ P.better zo u m.2 = true := .inl hm
          clear hm
          have HF := Lib.hid (show g.choose l i = P.pick g.tups zo zp l (ms.drop (j + 1)) ((mn : Int), u) by
            rw [HPK.out, if_pos HC])
          clear HC
          go_wp2_with fail
          refine Rt.wp_region_tail 1 (fun idx => match idx with | 0 => (fun v _ _ => v = (.int .i64 (mn : Int))) | 1 => (fun v _ _ => v = .agg (tc u)) | 2 => (fun v _ _ => v = (.int .i64 (mn : Int))) | _ => fun _ _ _ => True) (fun _ _ _ _ => True) (Rk.allK) 99 (by kernel_rfl) (by rfl) (by kernel_rfl) (by rfl) ?_ ?_ ?_ ?_
          · refine ⟨?_, ?_, ?_, trivial⟩
            · intro A w' K vals h hn hT hgk hK0
              have hg : w7.grownBy w' none := Rk.grown_of hgk
              have hK := fun v u (h1 : w'.grownBy u none) h2 => hK0 v u (Rk.keep_of h1) h2 trivial
              clear hT hgk hK0
              have r0 : A.tmps[13]?.getD undef = (.int .i64 (mn : Int)) := Rg.slot (h.1)
              clear h hn hg
              simp [Oper.wp, execOp, go_sem, r0]
              exact hK _ _ (Rg.grown_refl _ _) rfl
            · intro A w' K vals h hn hT hgk hK0
              have hg : w7.grownBy w' none := Rk.grown_of hgk
              have hK := fun v u (h1 : w'.grownBy u none) h2 => hK0 v u (Rk.keep_of h1) h2 trivial
              clear hT hgk hK0
              have r0 : A.tmps[14]?.getD undef = .pointer (some ⟨p, 0, none⟩) := Rg.slot h.1
              have bs := BP.out.keep hg
              have cc0 : w'.cell? ⟨p, 0, none⟩ = some (.bool u.top) := bs.cell 0 _ rfl
              have cc1 : w'.cell? ⟨p, 1, none⟩ = some (.int .i64 u.a) := bs.cell 1 _ rfl
              have cc2 : w'.cell? ⟨p, 2, none⟩ = some (.int .i64 u.b) := bs.cell 2 _ rfl
              have cc3 : w'.cell? ⟨p, 3, none⟩ = some (.int .i64 u.c) := bs.cell 3 _ rfl
              have cc4 : w'.cell? ⟨p, 4, none⟩ = some (.int .i64 u.d) := bs.cell 4 _ rfl
              clear h hn hg bs
              simp [Oper.wp, execOp, go_sem, r0, cc0, cc1, cc2, cc3, cc4]
              exact hK _ _ (Rg.grown_refl _ _) rfl
            · intro A w' K vals h hn hT hgk hK0
              have hg : w7.grownBy w' none := Rk.grown_of hgk
              have hK := fun v u (h1 : w'.grownBy u none) h2 => hK0 v u (Rk.keep_of h1) h2 trivial
              clear hT hgk hK0
              have r0 : A.tmps[67]?.getD undef = vals 0 := Rg.slot h.1
              have r1 : vals 0 = (.int .i64 (mn : Int)) := hn.1
              clear h hn hg
              simp [Oper.wp, execOp, go_sem, r0, r1]
              exact hK _ _ (Rg.grown_refl _ _) rfl
          · refine ⟨?_, ?_, ?_, trivial⟩
            · exact fun _ _ _ _ _ _ h => h
            · exact fun _ _ _ _ _ _ h => h
            · exact fun _ _ _ _ _ _ h => h
          · exact fun _ _ _ _ _ _ h => h
          · intro vals w8 G hgk hS hG
            have hg := Rk.grown_of hgk
            have s0 : vals 0 = .int .i64 (mn : Int) := hS.1
            have s1 : vals 1 = .agg #[.bool u.top, .int .i64 u.a, .int .i64 u.b, .int .i64 u.c, .int .i64 u.d] := hS.2.1
            have s2 : vals 2 = .int .i64 (mn : Int) := hS.2.2.1
            have hb := below_of_grown hg
            replace BQg := Lib.hid (BQg.out.keep (grown_of_below hb none))
            replace BQn := Lib.hid (BQn.out.keep (grown_of_below hb none))
            replace BQr := Lib.hid (BQr.out.keep (grown_of_below hb none))
            replace BQb := Lib.hid (BQb.out.keep (grown_of_below hb none))
            replace W := Lib.hid (W.out.trans (hb.mono W.out.size))
            clear hS hgk hg hb
            refine hG ?_
            clear hG
            simp only [List.take, List.drop, List.length, Nat.reduceSub, Nat.reduceAdd, Rg.putAll, s0, s1, s2]
            clear s0 s1 s2
            have bc0 : w8.cell? ⟨qb, 0, none⟩ = some (.bool m.2.top) := BQb.out.cell 0 _ rfl
            have bc1 : w8.cell? ⟨qb, 1, none⟩ = some (.int .i64 m.2.a) := BQb.out.cell 1 _ rfl
            have bc2 : w8.cell? ⟨qb, 2, none⟩ = some (.int .i64 m.2.b) := BQb.out.cell 2 _ rfl
            have bc3 : w8.cell? ⟨qb, 3, none⟩ = some (.int .i64 m.2.c) := BQb.out.cell 3 _ rfl
            have bc4 : w8.cell? ⟨qb, 4, none⟩ = some (.int .i64 m.2.d) := BQb.out.cell 4 _ rfl
            have bf0 : w8.frozen? ⟨qb, 0, none⟩ = false := BQb.out.frozen 0
            have bf1 : w8.frozen? ⟨qb, 1, none⟩ = false := BQb.out.frozen 1
            have bf2 : w8.frozen? ⟨qb, 2, none⟩ = false := BQb.out.frozen 2
            have bf3 : w8.frozen? ⟨qb, 3, none⟩ = false := BQb.out.frozen 3
            have bf4 : w8.frozen? ⟨qb, 4, none⟩ = false := BQb.out.frozen 4
            go_wp2_with fail
            clear bc0 bf0 bc1 bf1 bc2 bf2 bc3 bf3 bc4 bf4
            have bz : Box (((((w8.setCell ⟨qb, 0, none⟩ (.bool u.top)).setCell ⟨qb, 1, none⟩ (.int .i64 u.a)).setCell ⟨qb, 2, none⟩ (.int .i64 u.b)).setCell ⟨qb, 3, none⟩ (.int .i64 u.c)).setCell ⟨qb, 4, none⟩ (.int .i64 u.d)) qb 26 (tc u) := BQb.out.stT u
            have hbz : Below w.heap.size w (((((w8.setCell ⟨qb, 0, none⟩ (.bool u.top)).setCell ⟨qb, 1, none⟩ (.int .i64 u.a)).setCell ⟨qb, 2, none⟩ (.int .i64 u.b)).setCell ⟨qb, 3, none⟩ (.int .i64 u.c)).setCell ⟨qb, 4, none⟩ (.int .i64 u.d)) := below_stT W.out LEb.out u
            have b1 := far_stT BQg.out (show qg ≠ qb by have := LTgn.out; have := LTnr.out; have := LTrb.out; omega) u
            have b2 := far_stT BQn.out (show qn ≠ qb by have := LTnr.out; have := LTrb.out; omega) u
            have b3 := far_stT BQr.out (show qr ≠ qb by have := LTrb.out; omega) u
            generalize (((((w8.setCell ⟨qb, 0, none⟩ (.bool u.top)).setCell ⟨qb, 1, none⟩ (.int .i64 u.a)).setCell ⟨qb, 2, none⟩ (.int .i64 u.b)).setCell ⟨qb, 3, none⟩ (.int .i64 u.c)).setCell ⟨qb, 4, none⟩ (.int .i64 u.d)) = wz at bz hbz b1 b2 b3 ⊢
            go_roundw
            case rel => exact ⟨j + 1, ((mn : Int), u), by omega, by first | rfl | go_num, by first | rfl | go_num, HF.out, by simp only; omega, b1, b2, b3, bz, hbz⟩
            case measure => simp [intOf]; omega
        · have f1 : (m.1 == -1) = false := by rw [beq_eq_false_iff_ne]; exact hm
          have HNM := Lib.hid hm
          clear hm
          rcases HO01.out with rfl | rfl
          · by_cases h1 : P.Tup.cmp u m.2 0 < 0
            · have f2 : decide (P.Tup.cmp u m.2 0 < 0) = true := decide_eq_true h1
              have HC : m.1 = -1 ∨ P.better 0 u m.2 = true := .inr (by unfold P.better; rw [f2]; rfl)
              have HF := Lib.hid (show g.choose l i = P.pick g.tups 0 zp l (ms.drop (j + 1)) ((mn : Int), u) by
                rw [HPK.out, if_pos HC])
              clear HC
              go_wp2_with fail
              refine Rt.wp_region_tail 1 (fun idx => match idx with | 0 => (fun v _ _ => v = (.int .i64 (mn : Int))) | 1 => (fun v _ _ => v = .agg (tc u)) | 2 => (fun v _ _ => v = (.int .i64 (mn : Int))) | _ => fun _ _ _ => True) (fun _ _ _ _ => True) (Rk.allK) 99 (by kernel_rfl) (by rfl) (by kernel_rfl) (by rfl) ?_ ?_ ?_ ?_
              · refine ⟨?_, ?_, ?_, trivial⟩
                · intro A w' K vals h hn hT hgk hK0
                  have hg : w7.grownBy w' none := Rk.grown_of hgk
                  have hK := fun v u (h1 : w'.grownBy u none) h2 => hK0 v u (Rk.keep_of h1) h2 trivial
                  clear hT hgk hK0
                  have r0 : A.tmps[13]?.getD undef = (.int .i64 (mn : Int)) := Rg.slot (h.1)
                  clear h hn hg
                  simp [Oper.wp, execOp, go_sem, r0]
                  exact hK _ _ (Rg.grown_refl _ _) rfl
                · intro A w' K vals h hn hT hgk hK0
                  have hg : w7.grownBy w' none := Rk.grown_of hgk
                  have hK := fun v u (h1 : w'.grownBy u none) h2 => hK0 v u (Rk.keep_of h1) h2 trivial
                  clear hT hgk hK0
                  have r0 : A.tmps[14]?.getD undef = .pointer (some ⟨p, 0, none⟩) := Rg.slot h.1
                  have bs := BP.out.keep hg
                  have cc0 : w'.cell? ⟨p, 0, none⟩ = some (.bool u.top) := bs.cell 0 _ rfl
                  have cc1 : w'.cell? ⟨p, 1, none⟩ = some (.int .i64 u.a) := bs.cell 1 _ rfl
                  have cc2 : w'.cell? ⟨p, 2, none⟩ = some (.int .i64 u.b) := bs.cell 2 _ rfl
                  have cc3 : w'.cell? ⟨p, 3, none⟩ = some (.int .i64 u.c) := bs.cell 3 _ rfl
                  have cc4 : w'.cell? ⟨p, 4, none⟩ = some (.int .i64 u.d) := bs.cell 4 _ rfl
                  clear h hn hg bs
                  simp [Oper.wp, execOp, go_sem, r0, cc0, cc1, cc2, cc3, cc4]
                  exact hK _ _ (Rg.grown_refl _ _) rfl
                · intro A w' K vals h hn hT hgk hK0
                  have hg : w7.grownBy w' none := Rk.grown_of hgk
                  have hK := fun v u (h1 : w'.grownBy u none) h2 => hK0 v u (Rk.keep_of h1) h2 trivial
                  clear hT hgk hK0
                  have r0 : A.tmps[67]?.getD undef = vals 0 := Rg.slot h.1
                  have r1 : vals 0 = (.int .i64 (mn : Int)) := hn.1
                  clear h hn hg
                  simp [Oper.wp, execOp, go_sem, r0, r1]
                  exact hK _ _ (Rg.grown_refl _ _) rfl
              · refine ⟨?_, ?_, ?_, trivial⟩
                · exact fun _ _ _ _ _ _ h => h
                · exact fun _ _ _ _ _ _ h => h
                · exact fun _ _ _ _ _ _ h => h
              · exact fun _ _ _ _ _ _ h => h
              · intro vals w8 G hgk hS hG
                have hg := Rk.grown_of hgk
                have s0 : vals 0 = .int .i64 (mn : Int) := hS.1
                have s1 : vals 1 = .agg #[.bool u.top, .int .i64 u.a, .int .i64 u.b, .int .i64 u.c, .int .i64 u.d] := hS.2.1
                have s2 : vals 2 = .int .i64 (mn : Int) := hS.2.2.1
                have hb := below_of_grown hg
                replace BQg := Lib.hid (BQg.out.keep (grown_of_below hb none))
                replace BQn := Lib.hid (BQn.out.keep (grown_of_below hb none))
                replace BQr := Lib.hid (BQr.out.keep (grown_of_below hb none))
                replace BQb := Lib.hid (BQb.out.keep (grown_of_below hb none))
                replace W := Lib.hid (W.out.trans (hb.mono W.out.size))
                clear hS hgk hg hb
                refine hG ?_
                clear hG
                simp only [List.take, List.drop, List.length, Nat.reduceSub, Nat.reduceAdd, Rg.putAll, s0, s1, s2]
                clear s0 s1 s2
                have bc0 : w8.cell? ⟨qb, 0, none⟩ = some (.bool m.2.top) := BQb.out.cell 0 _ rfl
                have bc1 : w8.cell? ⟨qb, 1, none⟩ = some (.int .i64 m.2.a) := BQb.out.cell 1 _ rfl
                have bc2 : w8.cell? ⟨qb, 2, none⟩ = some (.int .i64 m.2.b) := BQb.out.cell 2 _ rfl
                have bc3 : w8.cell? ⟨qb, 3, none⟩ = some (.int .i64 m.2.c) := BQb.out.cell 3 _ rfl
                have bc4 : w8.cell? ⟨qb, 4, none⟩ = some (.int .i64 m.2.d) := BQb.out.cell 4 _ rfl
                have bf0 : w8.frozen? ⟨qb, 0, none⟩ = false := BQb.out.frozen 0
                have bf1 : w8.frozen? ⟨qb, 1, none⟩ = false := BQb.out.frozen 1
                have bf2 : w8.frozen? ⟨qb, 2, none⟩ = false := BQb.out.frozen 2
                have bf3 : w8.frozen? ⟨qb, 3, none⟩ = false := BQb.out.frozen 3
                have bf4 : w8.frozen? ⟨qb, 4, none⟩ = false := BQb.out.frozen 4
                go_wp2_with fail
                clear bc0 bf0 bc1 bf1 bc2 bf2 bc3 bf3 bc4 bf4
                have bz : Box (((((w8.setCell ⟨qb, 0, none⟩ (.bool u.top)).setCell ⟨qb, 1, none⟩ (.int .i64 u.a)).setCell ⟨qb, 2, none⟩ (.int .i64 u.b)).setCell ⟨qb, 3, none⟩ (.int .i64 u.c)).setCell ⟨qb, 4, none⟩ (.int .i64 u.d)) qb 26 (tc u) := BQb.out.stT u
                have hbz : Below w.heap.size w (((((w8.setCell ⟨qb, 0, none⟩ (.bool u.top)).setCell ⟨qb, 1, none⟩ (.int .i64 u.a)).setCell ⟨qb, 2, none⟩ (.int .i64 u.b)).setCell ⟨qb, 3, none⟩ (.int .i64 u.c)).setCell ⟨qb, 4, none⟩ (.int .i64 u.d)) := below_stT W.out LEb.out u
                have b1 := far_stT BQg.out (show qg ≠ qb by have := LTgn.out; have := LTnr.out; have := LTrb.out; omega) u
                have b2 := far_stT BQn.out (show qn ≠ qb by have := LTnr.out; have := LTrb.out; omega) u
                have b3 := far_stT BQr.out (show qr ≠ qb by have := LTrb.out; omega) u
                generalize (((((w8.setCell ⟨qb, 0, none⟩ (.bool u.top)).setCell ⟨qb, 1, none⟩ (.int .i64 u.a)).setCell ⟨qb, 2, none⟩ (.int .i64 u.b)).setCell ⟨qb, 3, none⟩ (.int .i64 u.c)).setCell ⟨qb, 4, none⟩ (.int .i64 u.d)) = wz at bz hbz b1 b2 b3 ⊢
                go_roundw
                case rel => exact ⟨j + 1, ((mn : Int), u), by omega, by first | rfl | go_num, by first | rfl | go_num, HF.out, by simp only; omega, b1, b2, b3, bz, hbz⟩
                case measure => simp [intOf]; omega
            · have f2 : decide (P.Tup.cmp u m.2 0 < 0) = false := decide_eq_false h1
              have HC : ¬ (m.1 = -1 ∨ P.better 0 u m.2 = true) := fun h => by
                have h := h.resolve_left HNM.out
                unfold P.better at h
                rw [f2] at h
                simp at h
              have HF := Lib.hid (show g.choose l i = P.pick g.tups 0 zp l (ms.drop (j + 1)) m by
                rw [HPK.out, if_neg HC])
              clear HC
              go_wp2_with fail
              go_roundw
              case rel => exact ⟨j + 1, m, by omega, by first | rfl | go_num, by first | rfl | go_num, HF.out, HM1.out, BQg.out, BQn.out, BQr.out, BQb.out, W.out⟩
              case measure => simp [intOf]; omega
          · by_cases h1 : 0 < P.Tup.cmp u m.2 0
            · have f2 : decide (0 < P.Tup.cmp u m.2 0) = true := decide_eq_true h1
              have HC : m.1 = -1 ∨ P.better 1 u m.2 = true := .inr (by unfold P.better; rw [f2]; rfl)
              have HF := Lib.hid (show g.choose l i = P.pick g.tups 1 zp l (ms.drop (j + 1)) ((mn : Int), u) by
                rw [HPK.out, if_pos HC])
              clear HC
              go_wp2_with fail
              refine Rt.wp_region_tail 1 (fun idx => match idx with | 0 => (fun v _ _ => v = (.int .i64 (mn : Int))) | 1 => (fun v _ _ => v = .agg (tc u)) | 2 => (fun v _ _ => v = (.int .i64 (mn : Int))) | _ => fun _ _ _ => True) (fun _ _ _ _ => True) (Rk.allK) 99 (by kernel_rfl) (by rfl) (by kernel_rfl) (by rfl) ?_ ?_ ?_ ?_
              · refine ⟨?_, ?_, ?_, trivial⟩
                · intro A w' K vals h hn hT hgk hK0
                  have hg : w7.grownBy w' none := Rk.grown_of hgk
                  have hK := fun v u (h1 : w'.grownBy u none) h2 => hK0 v u (Rk.keep_of h1) h2 trivial
                  clear hT hgk hK0
                  have r0 : A.tmps[13]?.getD undef = (.int .i64 (mn : Int)) := Rg.slot (h.1)
                  clear h hn hg
                  simp [Oper.wp, execOp, go_sem, r0]
                  exact hK _ _ (Rg.grown_refl _ _) rfl
                · intro A w' K vals h hn hT hgk hK0
                  have hg : w7.grownBy w' none := Rk.grown_of hgk
                  have hK := fun v u (h1 : w'.grownBy u none) h2 => hK0 v u (Rk.keep_of h1) h2 trivial
                  clear hT hgk hK0
                  have r0 : A.tmps[14]?.getD undef = .pointer (some ⟨p, 0, none⟩) := Rg.slot h.1
                  have bs := BP.out.keep hg
                  have cc0 : w'.cell? ⟨p, 0, none⟩ = some (.bool u.top) := bs.cell 0 _ rfl
                  have cc1 : w'.cell? ⟨p, 1, none⟩ = some (.int .i64 u.a) := bs.cell 1 _ rfl
                  have cc2 : w'.cell? ⟨p, 2, none⟩ = some (.int .i64 u.b) := bs.cell 2 _ rfl
                  have cc3 : w'.cell? ⟨p, 3, none⟩ = some (.int .i64 u.c) := bs.cell 3 _ rfl
                  have cc4 : w'.cell? ⟨p, 4, none⟩ = some (.int .i64 u.d) := bs.cell 4 _ rfl
                  clear h hn hg bs
                  simp [Oper.wp, execOp, go_sem, r0, cc0, cc1, cc2, cc3, cc4]
                  exact hK _ _ (Rg.grown_refl _ _) rfl
                · intro A w' K vals h hn hT hgk hK0
                  have hg : w7.grownBy w' none := Rk.grown_of hgk
                  have hK := fun v u (h1 : w'.grownBy u none) h2 => hK0 v u (Rk.keep_of h1) h2 trivial
                  clear hT hgk hK0
                  have r0 : A.tmps[67]?.getD undef = vals 0 := Rg.slot h.1
                  have r1 : vals 0 = (.int .i64 (mn : Int)) := hn.1
                  clear h hn hg
                  simp [Oper.wp, execOp, go_sem, r0, r1]
                  exact hK _ _ (Rg.grown_refl _ _) rfl
              · refine ⟨?_, ?_, ?_, trivial⟩
                · exact fun _ _ _ _ _ _ h => h
                · exact fun _ _ _ _ _ _ h => h
                · exact fun _ _ _ _ _ _ h => h
              · exact fun _ _ _ _ _ _ h => h
              · intro vals w8 G hgk hS hG
                have hg := Rk.grown_of hgk
                have s0 : vals 0 = .int .i64 (mn : Int) := hS.1
                have s1 : vals 1 = .agg #[.bool u.top, .int .i64 u.a, .int .i64 u.b, .int .i64 u.c, .int .i64 u.d] := hS.2.1
                have s2 : vals 2 = .int .i64 (mn : Int) := hS.2.2.1
                have hb := below_of_grown hg
                replace BQg := Lib.hid (BQg.out.keep (grown_of_below hb none))
                replace BQn := Lib.hid (BQn.out.keep (grown_of_below hb none))
                replace BQr := Lib.hid (BQr.out.keep (grown_of_below hb none))
                replace BQb := Lib.hid (BQb.out.keep (grown_of_below hb none))
                replace W := Lib.hid (W.out.trans (hb.mono W.out.size))
                clear hS hgk hg hb
                refine hG ?_
                clear hG
                simp only [List.take, List.drop, List.length, Nat.reduceSub, Nat.reduceAdd, Rg.putAll, s0, s1, s2]
                clear s0 s1 s2
                have bc0 : w8.cell? ⟨qb, 0, none⟩ = some (.bool m.2.top) := BQb.out.cell 0 _ rfl
                have bc1 : w8.cell? ⟨qb, 1, none⟩ = some (.int .i64 m.2.a) := BQb.out.cell 1 _ rfl
                have bc2 : w8.cell? ⟨qb, 2, none⟩ = some (.int .i64 m.2.b) := BQb.out.cell 2 _ rfl
                have bc3 : w8.cell? ⟨qb, 3, none⟩ = some (.int .i64 m.2.c) := BQb.out.cell 3 _ rfl
                have bc4 : w8.cell? ⟨qb, 4, none⟩ = some (.int .i64 m.2.d) := BQb.out.cell 4 _ rfl
                have bf0 : w8.frozen? ⟨qb, 0, none⟩ = false := BQb.out.frozen 0
                have bf1 : w8.frozen? ⟨qb, 1, none⟩ = false := BQb.out.frozen 1
                have bf2 : w8.frozen? ⟨qb, 2, none⟩ = false := BQb.out.frozen 2
                have bf3 : w8.frozen? ⟨qb, 3, none⟩ = false := BQb.out.frozen 3
                have bf4 : w8.frozen? ⟨qb, 4, none⟩ = false := BQb.out.frozen 4
                go_wp2_with fail
                clear bc0 bf0 bc1 bf1 bc2 bf2 bc3 bf3 bc4 bf4
                have bz : Box (((((w8.setCell ⟨qb, 0, none⟩ (.bool u.top)).setCell ⟨qb, 1, none⟩ (.int .i64 u.a)).setCell ⟨qb, 2, none⟩ (.int .i64 u.b)).setCell ⟨qb, 3, none⟩ (.int .i64 u.c)).setCell ⟨qb, 4, none⟩ (.int .i64 u.d)) qb 26 (tc u) := BQb.out.stT u
                have hbz : Below w.heap.size w (((((w8.setCell ⟨qb, 0, none⟩ (.bool u.top)).setCell ⟨qb, 1, none⟩ (.int .i64 u.a)).setCell ⟨qb, 2, none⟩ (.int .i64 u.b)).setCell ⟨qb, 3, none⟩ (.int .i64 u.c)).setCell ⟨qb, 4, none⟩ (.int .i64 u.d)) := below_stT W.out LEb.out u
                have b1 := far_stT BQg.out (show qg ≠ qb by have := LTgn.out; have := LTnr.out; have := LTrb.out; omega) u
                have b2 := far_stT BQn.out (show qn ≠ qb by have := LTnr.out; have := LTrb.out; omega) u
                have b3 := far_stT BQr.out (show qr ≠ qb by have := LTrb.out; omega) u
                generalize (((((w8.setCell ⟨qb, 0, none⟩ (.bool u.top)).setCell ⟨qb, 1, none⟩ (.int .i64 u.a)).setCell ⟨qb, 2, none⟩ (.int .i64 u.b)).setCell ⟨qb, 3, none⟩ (.int .i64 u.c)).setCell ⟨qb, 4, none⟩ (.int .i64 u.d)) = wz at bz hbz b1 b2 b3 ⊢
                go_roundw
                case rel => exact ⟨j + 1, ((mn : Int), u), by omega, by first | rfl | go_num, by first | rfl | go_num, HF.out, by simp only; omega, b1, b2, b3, bz, hbz⟩
                case measure => simp [intOf]; omega
            · have f2 : decide (0 < P.Tup.cmp u m.2 0) = false := decide_eq_false h1
              have HC : ¬ (m.1 = -1 ∨ P.better 1 u m.2 = true) := fun h => by
                have h := h.resolve_left HNM.out
                unfold P.better at h
                rw [f2] at h
                simp at h
              have HF := Lib.hid (show g.choose l i = P.pick g.tups 1 zp l (ms.drop (j + 1)) m by
                rw [HPK.out, if_neg HC])
              clear HC
              go_wp2_with fail
              go_roundw
              case rel => exact ⟨j + 1, m, by omega, by first | rfl | go_num, by first | rfl | go_num, HF.out, HM1.out, BQg.out, BQn.out, BQr.out, BQb.out, W.out⟩
              case measure => simp [intOf]; omega
    · have fj : decide ((j : Int) < (ms.length : Int)) = false := decide_eq_false (by omega)
      have hjl : ms.drop j = [] := List.drop_eq_nil_of_le (by omega)
      rw [hjl, P.pick] at hpk
      have HF := Lib.hid hpk
      clear hjl hpk
      go_wp2_with fail
      refine Rt.wp_region_tail 1 (fun idx => match idx with | 0 => (fun v _ _ => v = (.int .i64 m.1)) | 1 => (fun v _ _ => v = .agg (tc m.2)) | 2 => (fun v _ _ => v = (.int .i64 m.1)) | _ => fun _ _ _ => True) (fun _ _ _ _ => True) (Rk.allK) 99 (by kernel_rfl) (by rfl) (by kernel_rfl) (by rfl) ?_ ?_ ?_ ?_
      · refine ⟨?_, ?_, ?_, trivial⟩
        · intro A w' K vals h hn hT hgk hK0
          have hg : wr.grownBy w' none := Rk.grown_of hgk
          have hK := fun v u (h1 : w'.grownBy u none) h2 => hK0 v u (Rk.keep_of h1) h2 trivial
          clear hT hgk hK0
          have r0 : A.tmps[10]?.getD undef = (.int .i64 m.1) := Rg.slot (h.1)
          clear h hn hg
          simp [Oper.wp, execOp, go_sem, r0]
          exact hK _ _ (Rg.grown_refl _ _) rfl
        · intro A w' K vals h hn hT hgk hK0
          have hg : wr.grownBy w' none := Rk.grown_of hgk
          have hK := fun v u (h1 : w'.grownBy u none) h2 => hK0 v u (Rk.keep_of h1) h2 trivial
          clear hT hgk hK0
          have r0 : A.tmps[11]?.getD undef = .pointer (some ⟨qb, 0, none⟩) := Rg.slot h.1
          have bs := BQb.out.keep hg
          have cc0 : w'.cell? ⟨qb, 0, none⟩ = some (.bool m.2.top) := bs.cell 0 _ rfl
          have cc1 : w'.cell? ⟨qb, 1, none⟩ = some (.int .i64 m.2.a) := bs.cell 1 _ rfl
          have cc2 : w'.cell? ⟨qb, 2, none⟩ = some (.int .i64 m.2.b) := bs.cell 2 _ rfl
          have cc3 : w'.cell? ⟨qb, 3, none⟩ = some (.int .i64 m.2.c) := bs.cell 3 _ rfl
          have cc4 : w'.cell? ⟨qb, 4, none⟩ = some (.int .i64 m.2.d) := bs.cell 4 _ rfl
          clear h hn hg bs
          simp [Oper.wp, execOp, go_sem, r0, cc0, cc1, cc2, cc3, cc4]
          exact hK _ _ (Rg.grown_refl _ _) rfl
        · intro A w' K vals h hn hT hgk hK0
          have hg : wr.grownBy w' none := Rk.grown_of hgk
          have hK := fun v u (h1 : w'.grownBy u none) h2 => hK0 v u (Rk.keep_of h1) h2 trivial
          clear hT hgk hK0
          have r0 : A.tmps[70]?.getD undef = vals 0 := Rg.slot h.1
          have r1 : vals 0 = (.int .i64 m.1) := hn.1
          clear h hn hg
          simp [Oper.wp, execOp, go_sem, r0, r1]
          exact hK _ _ (Rg.grown_refl _ _) rfl
      · refine ⟨?_, ?_, ?_, trivial⟩
        · exact fun _ _ _ _ _ _ h => h
        · exact fun _ _ _ _ _ _ h => h
        · exact fun _ _ _ _ _ _ h => h
      · exact fun _ _ _ _ _ _ h => h
      · intro vals w8 G hgk hS hG
        have hg := Rk.grown_of hgk
        have s0 : vals 0 = .int .i64 m.1 := hS.1
        have s1 : vals 1 = .agg #[.bool m.2.top, .int .i64 m.2.a, .int .i64 m.2.b, .int .i64 m.2.c, .int .i64 m.2.d] := hS.2.1
        have s2 : vals 2 = .int .i64 m.1 := hS.2.2.1
        have hb := below_of_grown hg
        replace BQr := Lib.hid (BQr.out.keep (grown_of_below hb none))
        replace W := Lib.hid (W.out.trans (hb.mono W.out.size))
        clear hS hgk hg hb
        refine hG ?_
        clear hG
        simp only [List.take, List.drop, List.length, Nat.reduceSub, Nat.reduceAdd, Rg.putAll, s0, s1, s2]
        clear s0 s1 s2
        have bc0 : w8.cell? ⟨qr, 0, none⟩ = some (.bool false) := BQr.out.cell 0 _ rfl
        have bc1 : w8.cell? ⟨qr, 1, none⟩ = some (.int .i64 0) := BQr.out.cell 1 _ rfl
        have bc2 : w8.cell? ⟨qr, 2, none⟩ = some (.int .i64 0) := BQr.out.cell 2 _ rfl
        have bc3 : w8.cell? ⟨qr, 3, none⟩ = some (.int .i64 0) := BQr.out.cell 3 _ rfl
        have bc4 : w8.cell? ⟨qr, 4, none⟩ = some (.int .i64 0) := BQr.out.cell 4 _ rfl
        have bf0 : w8.frozen? ⟨qr, 0, none⟩ = false := BQr.out.frozen 0
        have bf1 : w8.frozen? ⟨qr, 1, none⟩ = false := BQr.out.frozen 1
        have bf2 : w8.frozen? ⟨qr, 2, none⟩ = false := BQr.out.frozen 2
        have bf3 : w8.frozen? ⟨qr, 3, none⟩ = false := BQr.out.frozen 3
        have bf4 : w8.frozen? ⟨qr, 4, none⟩ = false := BQr.out.frozen 4
        go_wp2_with fail
        clear bc0 bf0 bc1 bf1 bc2 bf2 bc3 bf3 bc4 bf4
        have bz := BQr.out.stT m.2
        have hbz := below_stT W.out LEr.out m.2
        generalize (((((w8.setCell ⟨qr, 0, none⟩ (.bool m.2.top)).setCell ⟨qr, 1, none⟩ (.int .i64 m.2.a)).setCell ⟨qr, 2, none⟩ (.int .i64 m.2.b)).setCell ⟨qr, 3, none⟩ (.int .i64 m.2.c)).setCell ⟨qr, 4, none⟩ (.int .i64 m.2.d)) = wz at bz hbz ⊢
        have zc0 : wz.cell? ⟨qr, 0, none⟩ = some (.bool m.2.top) := bz.cell 0 _ rfl
        have zc1 : wz.cell? ⟨qr, 1, none⟩ = some (.int .i64 m.2.a) := bz.cell 1 _ rfl
        have zc2 : wz.cell? ⟨qr, 2, none⟩ = some (.int .i64 m.2.b) := bz.cell 2 _ rfl
        have zc3 : wz.cell? ⟨qr, 3, none⟩ = some (.int .i64 m.2.c) := bz.cell 3 _ rfl
        have zc4 : wz.cell? ⟨qr, 4, none⟩ = some (.int .i64 m.2.d) := bz.cell 4 _ rfl
        exact bodyPost_ret (v := .tuple #[.int .i64 m.1, .agg (tc m.2)]) (by simp [results, Try.results46, go_sem, zc0, zc1, zc2, zc3, zc4, tc]) rfl ⟨by rw [HF.out], hbz⟩
end W
end Go.Proofs.Yteeaojciobmcaaa
