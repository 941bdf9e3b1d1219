/- The stand behind one: the walk. -/
import Derived.Test.YtghdjkpndhcplaaTellW
import Derived.Test.YtghdjkpndhcplaaFind
import Derived.Test.YtghdjkpndhcplaaSameGame
import Derived.Test.YtghdjkpndhcplaaGrowR
import Derived.Deep.Cut
import Derived.Lib.Hide
import Derived.Deep.QuietTactic
import Derived.BigQuiet
import Derived.StillTailTactics
namespace Go.Proofs.Ytghdjkpndhcplaa
open Go.RowKit
namespace W

/-- What move tells: the stand behind, or that there is none. -/
def stepV : Option (Nat × Nat) → Value
  | some b => .tuple #[.agg #[.int .i64 (b.1 : Int), .int .i64 (b.2 : Int)], .int .i64 0]
  | none => .tuple #[.agg #[.int .i64 0, .int .i64 0], .int .i64 16]
theorem rem_turn {z k : Int} (hk : 0 < k) : Int.tmod (Int.tmod z k + k) k = z % k ∧ -k < Int.tmod z k ∧ Int.tmod z k < k := by
  have h1 : -k < Int.tmod z k ∧ Int.tmod z k < k := by
    have h2 := Int.natAbs_tmod z k
    have h3 := Nat.mod_lt z.natAbs (show 0 < k.natAbs by omega)
    omega
  refine ⟨?_, h1⟩
  rw [Int.tmod_eq_emod_of_nonneg (by omega), Int.add_emod_right]
  have h4 := Int.mul_tdiv_add_tmod z k
  have e : Int.tmod z k = z + k * (-(z.tdiv k)) := by rw [Int.mul_neg]; omega
  rw [e, Int.add_mul_emod_self_left]

set_option maxRecDepth 100000 in
set_option maxHeartbeats 4000000 in
theorem move_any (g : P.G) (hr : g.Right) (n : Nat) (hn : g.owner.length = n) (qc : Nat) (a b c : Value) (p : Int) (mv sc : Value) (moves script : List Int) (w : World) (hc : Ct w qc g a b c p mv sc moves script)
    (x y m : Nat) (hx : x < n) (hm : script.length = m) (hy : y < m) (hm64 : m ≤ 64) :
    Calls Try.prog 19 #[.pointer (some ⟨qc, 0, none⟩), .agg #[.int .i64 (x : Int), .int .i64 (y : Int)]] w fun e w' => e = .returned (stepV (P.stepS g p moves script (x, y))) ∧ Below w.heap.size w w' := by
  have hop := hr.prio
  have hmp := hr.moves
  have h0 := hr.pos
  have hat := hr.at x (by omega)
  have hin := hr.moves_in (i := x) (by omega)
  rw [hn] at hop hmp h0 hat hin
  obtain ⟨ba, oa, ka, bb, ob, kb, bc, oc, kc, he, hca, -, hcc⟩ := hc.game.open_ hn hop hmp h0
  simp only [Value.agg.injEq, Array.mk.injEq, List.cons.injEq, and_true] at he
  obtain ⟨rfl, rfl, rfl⟩ := he
  obtain ⟨bs, os, ks, rfl, hcs⟩ := hc.script.open_ hm (by omega)
  obtain ⟨row, hrow⟩ : ∃ row, g.moves.getD x [] = row := ⟨_, rfl⟩
  rw [hrow] at hat hin
  obtain ⟨rv, hcr, hri⟩ := hcc w (Below.refl _ _) x hx
  rw [hrow] at hri
  obtain ⟨k, hk⟩ : ∃ k, row.length = k := ⟨_, rfl⟩
  have hk0 : 0 < k := by
    rw [← hk]
    exact List.length_pos_iff.2 hat.2.2.2.1
  have hk1 : k ≤ 17592186043904 := by rw [← hk]; exact hri.fits1
  obtain ⟨bm, om, km, rfl, hcm⟩ := hri.open_ hk hk0
  have HCR : Hid (∀ w', Below w.heap.size w w' → w'.cell? ⟨bc, oc + x, none⟩ = some (.slice (some ⟨bm, om, none⟩) k km)) := Lib.hid fun w' hb => by rw [hb.cell (p := ⟨bc, oc + x, none⟩) (cell_lt hcr)]; exact hcr
  have HN := Lib.hid hn
  have GC := Lib.hid hc
  have HCA := Lib.hid hca
  have HCS := Lib.hid hcs
  have HM := Lib.hid hm
  have HIN := Lib.hid hin
  have HROW := Lib.hid hrow
  have HK := Lib.hid hk
  have GI := Lib.hid hri
  have HCM := Lib.hid hcm
  obtain ⟨ow, how⟩ : ∃ ow, g.owner.getD x 0 = ow := ⟨_, rfl⟩
  have HOW := Lib.hid how
  have hxi : (x : Int) < (n : Int) := by omega
  have hx0 : (0 : Int) ≤ (x : Int) := Int.natCast_nonneg _
  have hyi : (y : Int) < (m : Int) := by omega
  have hy0 : (0 : Int) ≤ (y : Int) := Int.natCast_nonneg _
  have hmi : (m : Int) ≤ 64 := by omega
  clear hr hn hop hmp hc hca hcc hcs hm hat how hin hrow hk hri hcm hcr
  go_enter Try.func19, Try.ntmps19
  go_wp2_with fail
  have bx0 : Box ((w.alloc (.cells #[.int .i64 (x : Int), .int .i64 (y : Int)] 50)).alloc (.cells #[.int .i64 0, .int .i64 0] 50)) (w.heap.size) 50 #[.int .i64 (x : Int), .int .i64 (y : Int)] := Box.alloc (Box.new w 50 #[.int .i64 (x : Int), .int .i64 (y : Int)]) (.cells #[.int .i64 0, .int .i64 0] 50)
  have bx1 : Box ((w.alloc (.cells #[.int .i64 (x : Int), .int .i64 (y : Int)] 50)).alloc (.cells #[.int .i64 0, .int .i64 0] 50)) (w.heap.size + 1) 50 #[.int .i64 0, .int .i64 0] := by
    have := Box.new (w.alloc (.cells #[.int .i64 (x : Int), .int .i64 (y : Int)] 50)) 50 #[.int .i64 0, .int .i64 0]
    simpa using this
  have hbq : Below w.heap.size w ((w.alloc (.cells #[.int .i64 (x : Int), .int .i64 (y : Int)] 50)).alloc (.cells #[.int .i64 0, .int .i64 0] 50)) := ((Below.refl _ w).alloc (Nat.le_refl _) _).alloc (by simp) _
  have lt0 : w.heap.size < w.heap.size + 1 := Nat.lt_succ_self _
  have hle0 : w.heap.size ≤ w.heap.size := Nat.le_refl _
  replace GC := Lib.hid (GC.out.on hbq)
  replace GI := Lib.hid (GI.out.on hbq)
  generalize ((w.alloc (.cells #[.int .i64 (x : Int), .int .i64 (y : Int)] 50)).alloc (.cells #[.int .i64 0, .int .i64 0] 50)) = w0 at bx0 bx1 hbq GC GI ⊢
  have BQh := Lib.hid bx0
  have BQr := Lib.hid bx1
  have W := Lib.hid hbq
  have LThr := Lib.hid lt0
  have LEh := Lib.hid hle0
  clear hbq hle0 bx0 bx1 lt0
  generalize w.heap.size + 1 = qr at BQr LThr ⊢
  obtain ⟨qh, hqh⟩ : ∃ qh, w.heap.size = qh := ⟨_, rfl⟩
  rw [hqh] at BQh LThr ⊢
  have LEh : Hid (w.heap.size ≤ qh) := Lib.hid (by omega)
  clear hqh
  have HQR := Lib.hid (show w.heap.size ≤ qr by have h1 := LEh.out; have h2 := LThr.out; omega)
  clear LEh LThr
  go_upto_region 1 with (fail)
  have hcr := HCR.out w0 W.out
  have cc0 : w0.cell? ⟨qc, 0, none⟩ = some (.slice (some ⟨ba, oa, none⟩) n ka) := GC.out.box.cell 0 _ rfl
  have cc1 : w0.cell? ⟨qc, 1, none⟩ = some (.slice (some ⟨bb, ob, none⟩) n kb) := GC.out.box.cell 1 _ rfl
  have cc2 : w0.cell? ⟨qc, 2, none⟩ = some (.slice (some ⟨bc, oc, none⟩) n kc) := GC.out.box.cell 2 _ rfl
  have cc3 : w0.cell? ⟨qc, 3, none⟩ = some (.int .i64 p) := GC.out.box.cell 3 _ rfl
  have cc4 : w0.cell? ⟨qc, 4, none⟩ = some mv := GC.out.box.cell 4 _ rfl
  have cc5 : w0.cell? ⟨qc, 5, none⟩ = some (.slice (some ⟨bs, os, none⟩) m ks) := GC.out.box.cell 5 _ rfl
  have hc0 : w0.cell? ⟨qh, 0, none⟩ = some (.int .i64 (x : Int)) := BQh.out.cell 0 _ rfl
  have hc1 : w0.cell? ⟨qh, 1, none⟩ = some (.int .i64 (y : Int)) := BQh.out.cell 1 _ rfl
  go_quiet ((fail))
  clear cc0 cc1 cc2 cc3 cc4 cc5 hc0 hc1
  have hb := below_drewN (Below.refl w0.heap.size w0) nq
  replace W := Lib.hid (W.out.trans (hb.mono W.out.size))
  replace BQh := Lib.hid (BQh.out.keep (grown_of_below hb none))
  replace BQr := Lib.hid (BQr.out.keep (grown_of_below hb none))
  replace GC := Lib.hid (GC.out.on hb)
  replace GI := Lib.hid (GI.out.on hb)
  clear hb
  generalize w0.drewN nq = w1 at W BQh BQr GC GI ⊢
  clear hcr
  by_cases hown : ow = p
  · have fo : (ow == p) = true := beq_iff_eq.2 hown
    go_upto_region 2 with (fail)
    have hco := HCA.out w1 W.out x hx
    rw [HOW.out] at hco
    have cc0 : w1.cell? ⟨qc, 0, none⟩ = some (.slice (some ⟨ba, oa, none⟩) n ka) := GC.out.box.cell 0 _ rfl
    have cc1 : w1.cell? ⟨qc, 1, none⟩ = some (.slice (some ⟨bb, ob, none⟩) n kb) := GC.out.box.cell 1 _ rfl
    have cc2 : w1.cell? ⟨qc, 2, none⟩ = some (.slice (some ⟨bc, oc, none⟩) n kc) := GC.out.box.cell 2 _ rfl
    have cc3 : w1.cell? ⟨qc, 3, none⟩ = some (.int .i64 p) := GC.out.box.cell 3 _ rfl
    have cc4 : w1.cell? ⟨qc, 4, none⟩ = some mv := GC.out.box.cell 4 _ rfl
    have cc5 : w1.cell? ⟨qc, 5, none⟩ = some (.slice (some ⟨bs, os, none⟩) m ks) := GC.out.box.cell 5 _ rfl
    have hc0 : w1.cell? ⟨qh, 0, none⟩ = some (.int .i64 (x : Int)) := BQh.out.cell 0 _ rfl
    have hc1 : w1.cell? ⟨qh, 1, none⟩ = some (.int .i64 (y : Int)) := BQh.out.cell 1 _ rfl
    go_quiet ((fail))
    clear cc0 cc1 cc2 cc3 cc4 cc5 hc0 hc1
    have hb := below_drewN (Below.refl w1.heap.size w1) nq
    replace W := Lib.hid (W.out.trans (hb.mono W.out.size))
    replace BQh := Lib.hid (BQh.out.keep (grown_of_below hb none))
    replace BQr := Lib.hid (BQr.out.keep (grown_of_below hb none))
    replace GC := Lib.hid (GC.out.on hb)
    replace GI := Lib.hid (GI.out.on hb)
    clear hb
    generalize w1.drewN nq = w2 at W BQh BQr GC GI ⊢
    clear hco
    have hmov := GC.out.moves
    obtain ⟨mm, hmm⟩ : ∃ mm, moves.length = mm := ⟨_, rfl⟩
    have HMM := Lib.hid hmm
    by_cases hxm : x < mm
    · have hxmi : (x : Int) < (mm : Int) := by omega
      have fx : decide ((mm : Int) ≤ (x : Int)) = false := decide_eq_false (by omega)
      obtain ⟨am, xm, cm, rfl, hcm⟩ := hmov.open_ hmm (by omega)
      have HCM2 := Lib.hid hcm
      have hmml : mm ≤ 17592186043904 := by rw [← hmm]; exact hmov.fits1
      obtain ⟨u, hu⟩ : ∃ u, moves.getD x 0 = u := ⟨_, rfl⟩
      have HU := Lib.hid hu
      clear hmov hmm hcm hu
      have HOM := Lib.hid (show P.ownMove moves x = u by rw [P.ownMove, if_pos (by rw [HMM.out]; exact hxm), HU.out])
      by_cases hmem : u ∈ row
      · have fm : decide (u ∈ row) = true := decide_eq_true hmem
        have hu0 := HIN.out u hmem
        have HF := Lib.hid (show P.stepS g p moves script (x, y) = some (u.toNat, y) by
          unfold P.stepS
          simp only []
          rw [HOW.out, if_pos hown, HROW.out, HOM.out, if_pos hmem])
        have HUN := Lib.hid (show ((u.toNat : Nat) : Int) = u by omega)
        have hmu : moves.getD x 0 = u := HU.out
        have hcu := HCM2.out w2 (Below.refl _ _) x hxm
        rw [hmu] at hcu
        clear hmu
        go_upto_region 6 with (fail)
        have cc0 : w2.cell? ⟨qc, 0, none⟩ = some (.slice (some ⟨ba, oa, none⟩) n ka) := GC.out.box.cell 0 _ rfl
        have cc1 : w2.cell? ⟨qc, 1, none⟩ = some (.slice (some ⟨bb, ob, none⟩) n kb) := GC.out.box.cell 1 _ rfl
        have cc2 : w2.cell? ⟨qc, 2, none⟩ = some (.slice (some ⟨bc, oc, none⟩) n kc) := GC.out.box.cell 2 _ rfl
        have cc3 : w2.cell? ⟨qc, 3, none⟩ = some (.int .i64 p) := GC.out.box.cell 3 _ rfl
        have cc4 : w2.cell? ⟨qc, 4, none⟩ = some (.slice (some ⟨am, xm, none⟩) mm cm) := GC.out.box.cell 4 _ rfl
        have cc5 : w2.cell? ⟨qc, 5, none⟩ = some (.slice (some ⟨bs, os, none⟩) m ks) := GC.out.box.cell 5 _ rfl
        have hc0 : w2.cell? ⟨qh, 0, none⟩ = some (.int .i64 (x : Int)) := BQh.out.cell 0 _ rfl
        have hc1 : w2.cell? ⟨qh, 1, none⟩ = some (.int .i64 (y : Int)) := BQh.out.cell 1 _ rfl
        go_quiet ((go_at_call 23; refine Calls.quiet_of_same ((contains_any _ row u _ (GI.out.on (below_drewN (Below.refl _ _) _))).mono fun _ _ h => ⟨h.1, h.2.symm⟩)))
        clear cc0 cc1 cc2 cc3 cc4 cc5 hc0 hc1
        have hb := below_drewN (Below.refl w2.heap.size w2) nq
        replace W := Lib.hid (W.out.trans (hb.mono W.out.size))
        replace BQh := Lib.hid (BQh.out.keep (grown_of_below hb none))
        replace BQr := Lib.hid (BQr.out.keep (grown_of_below hb none))
        replace GC := Lib.hid (GC.out.on hb)
        replace GI := Lib.hid (GI.out.on hb)
        clear hb
        generalize w2.drewN nq = w3 at W BQh BQr GC GI ⊢
        clear hcu
        go_upto_region 8 with (fail)
        have HCU := Lib.hid (show ∀ w', Below w3.heap.size w3 w' → w'.cell? ⟨am, xm + x, none⟩ = some (.int .i64 u) from fun w' hb => by
          obtain ⟨am', xm', cm', he, hc2⟩ := GC.out.moves.open_ HMM.out (by omega)
          injection he with he
          injection he with he
          injection he with he1 he2
          subst he1 he2
          rw [← HU.out]
          exact hc2 w' hb x hxm)
        refine Rt.wp_region_tail 2 (fun idx => match idx with | 0 => (fun v _ _ => v = (.pointer (some ⟨qc, 0, none⟩))) | 1 => (fun v _ _ => v = (.pointer (some ⟨qc, 0, none⟩))) | 2 => (fun v _ _ => v = (.pointer (some ⟨qc, 4, none⟩))) | 3 => (fun v _ _ => v = (.slice (some ⟨am, xm, none⟩) mm cm)) | 4 => (fun v _ _ => v = (.pointer (some ⟨qh, 0, none⟩))) | 5 => (fun v _ _ => v = (.int .i64 (x : Int))) | 6 => (fun v _ _ => v = (.pointer (some ⟨am, xm + x, none⟩))) | 7 => (fun v _ _ => v = (.int .i64 u)) | 8 => (fun v _ _ => v = (.pointer (some ⟨qh, 1, none⟩))) | 9 => (fun v _ _ => v = (.int .i64 (y : Int))) | 10 => (fun v _ _ => v = .agg #[(.int .i64 u), (.int .i64 (y : Int))]) | _ => fun _ _ _ => True) (fun _ _ _ _ => True) (Rk.allK) 99 (by kernel_rfl) (by rfl) (by kernel_rfl) (by rfl) ?_ ?_ ?_ ?_
        · refine ⟨?_, ?_, ?_, ?_, ?_, ?_, ?_, ?_, ?_, ?_, ?_, trivial⟩
          · intro A w' K vals h hn hT hgk hK0
            have r0 : A.tmps[0]?.getD undef = (.pointer (some ⟨qc, 0, none⟩)) := Rg.slot h.1
            clear h hn hT hgk
            simp [Oper.wp, execOp, go_sem, r0]
            exact hK0 _ _ (Rk.Keeps.refl _ _) rfl trivial
          · intro A w' K vals h hn hT hgk hK0
            have r0 : A.tmps[84]?.getD undef = vals 0 := Rg.slot h.1
            have s0 : vals 0 = (.pointer (some ⟨qc, 0, none⟩)) := hn.1
            clear h hn hT hgk
            simp [Oper.wp, execOp, go_sem, r0, s0]
            exact hK0 _ _ (Rk.Keeps.refl _ _) rfl trivial
          · intro A w' K vals h hn hT hgk hK0
            have r0 : A.tmps[85]?.getD undef = vals 1 := Rg.slot h.1
            have s0 : vals 1 = (.pointer (some ⟨qc, 0, none⟩)) := hn.1
            clear h hn hT hgk
            simp [Oper.wp, execOp, go_sem, r0, s0]
            exact hK0 _ _ (Rk.Keeps.refl _ _) rfl trivial
          · intro A w' K vals h hn hT hgk hK0
            have r0 : A.tmps[86]?.getD undef = vals 2 := Rg.slot (h.1)
            have r1 : vals 2 = (.pointer (some ⟨qc, 4, none⟩)) := hn.1
            have c : w'.cell? ⟨qc, 4, none⟩ = some (.slice (some ⟨am, xm, none⟩) mm cm) := (GC.out.box.keep (Rk.grown_of hgk)).cell 4 _ rfl
            clear h hn hT hgk
            simp [Oper.wp, execOp, go_sem, r0, r1, c]
            exact hK0 _ _ (Rk.Keeps.refl _ _) rfl trivial
          · intro A w' K vals h hn hT hgk hK0
            have r0 : A.tmps[3]?.getD undef = (.pointer (some ⟨qh, 0, none⟩)) := Rg.slot h.1
            clear h hn hT hgk
            simp [Oper.wp, execOp, go_sem, r0]
            exact hK0 _ _ (Rk.Keeps.refl _ _) rfl trivial
          · intro A w' K vals h hn hT hgk hK0
            have r0 : A.tmps[88]?.getD undef = vals 4 := Rg.slot (h.1)
            have r1 : vals 4 = (.pointer (some ⟨qh, 0, none⟩)) := hn.1
            have c : w'.cell? ⟨qh, 0, none⟩ = some (.int .i64 (x : Int)) := (BQh.out.keep (Rk.grown_of hgk)).cell 0 _ rfl
            clear h hn hT hgk
            simp [Oper.wp, execOp, go_sem, r0, r1, c]
            exact hK0 _ _ (Rk.Keeps.refl _ _) rfl trivial
          · intro A w' K vals h hn hT hgk hK0
            have r0 : A.tmps[87]?.getD undef = vals 3 := Rg.slot h.1
            have s0 : vals 3 = (.slice (some ⟨am, xm, none⟩) mm cm) := hn.1
            have r1 : A.tmps[89]?.getD undef = vals 5 := Rg.slot h.2.1
            have s1 : vals 5 = (.int .i64 (x : Int)) := hn.2.1
            clear h hn hT hgk
            simp [Oper.wp, execOp, go_sem, r0, r1, s0, s1, hxm, hx0]
            exact hK0 _ _ (Rk.Keeps.refl _ _) rfl trivial
          · intro A w' K vals h hn hT hgk hK0
            have r0 : A.tmps[90]?.getD undef = vals 6 := Rg.slot (h.1)
            have r1 : vals 6 = (.pointer (some ⟨am, xm + x, none⟩)) := hn.1
            have c : w'.cell? ⟨am, xm + x, none⟩ = some (.int .i64 u) := HCU.out w' (below_of_grown (Rk.grown_of hgk))
            clear h hn hT hgk
            simp [Oper.wp, execOp, go_sem, r0, r1, c]
            exact hK0 _ _ (Rk.Keeps.refl _ _) rfl trivial
          · intro A w' K vals h hn hT hgk hK0
            have r0 : A.tmps[3]?.getD undef = (.pointer (some ⟨qh, 0, none⟩)) := Rg.slot h.1
            clear h hn hT hgk
            simp [Oper.wp, execOp, go_sem, r0]
            exact hK0 _ _ (Rk.Keeps.refl _ _) rfl trivial
          · intro A w' K vals h hn hT hgk hK0
            have r0 : A.tmps[92]?.getD undef = vals 8 := Rg.slot (h.1)
            have r1 : vals 8 = (.pointer (some ⟨qh, 1, none⟩)) := hn.1
            have c : w'.cell? ⟨qh, 1, none⟩ = some (.int .i64 (y : Int)) := (BQh.out.keep (Rk.grown_of hgk)).cell 1 _ rfl
            clear h hn hT hgk
            simp [Oper.wp, execOp, go_sem, r0, r1, c]
            exact hK0 _ _ (Rk.Keeps.refl _ _) rfl trivial
          · intro A w' K vals h hn hT hgk hK0
            have r0 : A.tmps[91]?.getD undef = vals 7 := Rg.slot h.1
            have s0 : vals 7 = (.int .i64 u) := hn.1
            have r1 : A.tmps[93]?.getD undef = vals 9 := Rg.slot h.2.1
            have s1 : vals 9 = (.int .i64 (y : Int)) := hn.2.1
            clear h hn hT hgk
            simp [Oper.wp, execOp, go_sem, r0, r1, s0, s1]
            exact hK0 _ _ (Rk.Keeps.refl _ _) rfl trivial
        · refine ⟨?_, ?_, ?_, ?_, ?_, ?_, ?_, ?_, ?_, ?_, ?_, trivial⟩
          · exact fun _ _ _ _ _ _ h => h
          · exact fun _ _ _ _ _ _ h => h
          · exact fun _ _ _ _ _ _ h => h
          · exact fun _ _ _ _ _ _ h => h
          · exact fun _ _ _ _ _ _ h => h
          · exact fun _ _ _ _ _ _ h => h
          · exact fun _ _ _ _ _ _ h => h
          · exact fun _ _ _ _ _ _ h => h
          · exact fun _ _ _ _ _ _ h => h
          · exact fun _ _ _ _ _ _ h => h
          · exact fun _ _ _ _ _ _ h => h
        · exact fun _ _ _ _ _ _ h => h
        · intro vals w9 G hgk hS hG
          have sB : vals 10 = .agg #[(.int .i64 u), (.int .i64 (y : Int))] := hS.2.2.2.2.2.2.2.2.2.2.1
          clear hS
          have hb := below_of_grown (Rk.grown_of hgk)
          replace W := Lib.hid (W.out.trans (hb.mono W.out.size))
          replace BQh := Lib.hid (BQh.out.keep (grown_of_below hb none))
          replace BQr := Lib.hid (BQr.out.keep (grown_of_below hb none))
          replace GC := Lib.hid (GC.out.on hb)
          replace GI := Lib.hid (GI.out.on hb)
          clear hb hgk
          have rc0 : w9.cell? ⟨qr, 0, none⟩ = some (.int .i64 0) := BQr.out.cell 0 _ rfl
          have rc1 : w9.cell? ⟨qr, 1, none⟩ = some (.int .i64 0) := BQr.out.cell 1 _ rfl
          have rf0 : w9.frozen? ⟨qr, 0, none⟩ = false := BQr.out.frozen 0
          have rf1 : w9.frozen? ⟨qr, 1, none⟩ = false := BQr.out.frozen 1
          refine hG ?_
          clear hG
          simp only [List.take, List.drop, List.length, Nat.reduceSub, Nat.reduceAdd, Rg.putAll, Act.put, List.setIfInBounds_toArray, List.set_cons_succ, List.set_cons_zero, sB]
          clear sB
          go_wp2_with fail
          have HBEL := Lib.hid ((W.out.setCell (p := ⟨qr, 0, none⟩) HQR.out (.int .i64 u)).setCell (p := ⟨qr, 1, none⟩) HQR.out (.int .i64 (y : Int)))
          refine bodyPost_ret (v := .tuple #[.agg #[(.int .i64 u), (.int .i64 (y : Int))], .int .i64 0]) (by simp [results, Try.results19, go_sem, rc0, rc1]) rfl ⟨by rw [HF.out]; simp only [stepV, HUN.out], HBEL.out⟩

      · have fm : decide (u ∈ row) = false := decide_eq_false hmem
        have HF := Lib.hid (show P.stepS g p moves script (x, y) = none by
          unfold P.stepS
          simp only []
          rw [HOW.out, if_pos hown, HROW.out, HOM.out, if_neg hmem])
        have hmu : moves.getD x 0 = u := HU.out
        have hcu := HCM2.out w2 (Below.refl _ _) x hxm
        rw [hmu] at hcu
        clear hmu
        go_upto_region 6 with (fail)
        have cc0 : w2.cell? ⟨qc, 0, none⟩ = some (.slice (some ⟨ba, oa, none⟩) n ka) := GC.out.box.cell 0 _ rfl
        have cc1 : w2.cell? ⟨qc, 1, none⟩ = some (.slice (some ⟨bb, ob, none⟩) n kb) := GC.out.box.cell 1 _ rfl
        have cc2 : w2.cell? ⟨qc, 2, none⟩ = some (.slice (some ⟨bc, oc, none⟩) n kc) := GC.out.box.cell 2 _ rfl
        have cc3 : w2.cell? ⟨qc, 3, none⟩ = some (.int .i64 p) := GC.out.box.cell 3 _ rfl
        have cc4 : w2.cell? ⟨qc, 4, none⟩ = some (.slice (some ⟨am, xm, none⟩) mm cm) := GC.out.box.cell 4 _ rfl
        have cc5 : w2.cell? ⟨qc, 5, none⟩ = some (.slice (some ⟨bs, os, none⟩) m ks) := GC.out.box.cell 5 _ rfl
        have hc0 : w2.cell? ⟨qh, 0, none⟩ = some (.int .i64 (x : Int)) := BQh.out.cell 0 _ rfl
        have hc1 : w2.cell? ⟨qh, 1, none⟩ = some (.int .i64 (y : Int)) := BQh.out.cell 1 _ rfl
        go_quiet ((go_at_call 23; refine Calls.quiet_of_same ((contains_any _ row u _ (GI.out.on (below_drewN (Below.refl _ _) _))).mono fun _ _ h => ⟨h.1, h.2.symm⟩)))
        clear cc0 cc1 cc2 cc3 cc4 cc5 hc0 hc1
        have hb := below_drewN (Below.refl w2.heap.size w2) nq
        replace W := Lib.hid (W.out.trans (hb.mono W.out.size))
        replace BQh := Lib.hid (BQh.out.keep (grown_of_below hb none))
        replace BQr := Lib.hid (BQr.out.keep (grown_of_below hb none))
        replace GC := Lib.hid (GC.out.on hb)
        replace GI := Lib.hid (GI.out.on hb)
        clear hb
        generalize w2.drewN nq = w3 at W BQh BQr GC GI ⊢
        clear hcu
        have rc0 : w3.cell? ⟨qr, 0, none⟩ = some (.int .i64 0) := BQr.out.cell 0 _ rfl
        have rc1 : w3.cell? ⟨qr, 1, none⟩ = some (.int .i64 0) := BQr.out.cell 1 _ rfl
        have rf0 : w3.frozen? ⟨qr, 0, none⟩ = false := BQr.out.frozen 0
        have rf1 : w3.frozen? ⟨qr, 1, none⟩ = false := BQr.out.frozen 1
        go_wp2_with fail
        have HBEL := Lib.hid ((W.out.setCell (p := ⟨qr, 0, none⟩) HQR.out (.int .i64 0)).setCell (p := ⟨qr, 1, none⟩) HQR.out (.int .i64 0))
        refine bodyPost_ret (v := .tuple #[.agg #[.int .i64 0, .int .i64 0], .int .i64 16]) (by simp [results, Try.results19, go_sem, rc0, rc1]) rfl ⟨by rw [HF.out]; rfl, HBEL.out⟩

    · have fx : decide ((mm : Int) ≤ (x : Int)) = true := decide_eq_true (by omega)
      have HF := Lib.hid (show P.stepS g p moves script (x, y) = none by
        unfold P.stepS
        simp only []
        rw [HOW.out, if_pos hown, HROW.out, show P.ownMove moves x = -1 by rw [P.ownMove, if_neg (by rw [HMM.out]; exact hxm)], if_neg fun h => by have h1 := (HIN.out _ h).1; omega])
      obtain ⟨am, cm, rfl, hmml, -⟩ := hmov
      rw [hmm] at GC hmml
      clear hmm
      go_upto_region 6 with (fail)
      have cc0 : w2.cell? ⟨qc, 0, none⟩ = some (.slice (some ⟨ba, oa, none⟩) n ka) := GC.out.box.cell 0 _ rfl
      have cc1 : w2.cell? ⟨qc, 1, none⟩ = some (.slice (some ⟨bb, ob, none⟩) n kb) := GC.out.box.cell 1 _ rfl
      have cc2 : w2.cell? ⟨qc, 2, none⟩ = some (.slice (some ⟨bc, oc, none⟩) n kc) := GC.out.box.cell 2 _ rfl
      have cc3 : w2.cell? ⟨qc, 3, none⟩ = some (.int .i64 p) := GC.out.box.cell 3 _ rfl
      have cc4 : w2.cell? ⟨qc, 4, none⟩ = some (.slice am mm cm) := GC.out.box.cell 4 _ rfl
      have cc5 : w2.cell? ⟨qc, 5, none⟩ = some (.slice (some ⟨bs, os, none⟩) m ks) := GC.out.box.cell 5 _ rfl
      have hc0 : w2.cell? ⟨qh, 0, none⟩ = some (.int .i64 (x : Int)) := BQh.out.cell 0 _ rfl
      have hc1 : w2.cell? ⟨qh, 1, none⟩ = some (.int .i64 (y : Int)) := BQh.out.cell 1 _ rfl
      go_quiet ((fail))
      clear cc0 cc1 cc2 cc3 cc4 cc5 hc0 hc1
      have hb := below_drewN (Below.refl w2.heap.size w2) nq
      replace W := Lib.hid (W.out.trans (hb.mono W.out.size))
      replace BQh := Lib.hid (BQh.out.keep (grown_of_below hb none))
      replace BQr := Lib.hid (BQr.out.keep (grown_of_below hb none))
      replace GC := Lib.hid (GC.out.on hb)
      replace GI := Lib.hid (GI.out.on hb)
      clear hb
      generalize w2.drewN nq = w3 at W BQh BQr GC GI ⊢

      have rc0 : w3.cell? ⟨qr, 0, none⟩ = some (.int .i64 0) := BQr.out.cell 0 _ rfl
      have rc1 : w3.cell? ⟨qr, 1, none⟩ = some (.int .i64 0) := BQr.out.cell 1 _ rfl
      have rf0 : w3.frozen? ⟨qr, 0, none⟩ = false := BQr.out.frozen 0
      have rf1 : w3.frozen? ⟨qr, 1, none⟩ = false := BQr.out.frozen 1
      go_wp2_with fail
      have HBEL := Lib.hid ((W.out.setCell (p := ⟨qr, 0, none⟩) HQR.out (.int .i64 0)).setCell (p := ⟨qr, 1, none⟩) HQR.out (.int .i64 0))
      refine bodyPost_ret (v := .tuple #[.agg #[.int .i64 0, .int .i64 0], .int .i64 16]) (by simp [results, Try.results19, go_sem, rc0, rc1]) rfl ⟨by rw [HF.out]; rfl, HBEL.out⟩

  · have fo : (ow == p) = false := beq_eq_false_iff_ne.2 hown
    have hcz0 := HCS.out w1 W.out y hy
    obtain ⟨z, hz⟩ : ∃ z, script.getD y 0 = z := ⟨_, rfl⟩
    rw [hz] at hcz0
    have HZ := Lib.hid hz
    clear hz hcz0
    have hki : (0 : Int) < (k : Int) := by omega
    have hkm : (k : Int) ≤ 17592186043904 := by omega
    obtain ⟨ht1, ht2, ht3⟩ := rem_turn (z := z) hki
    have hj1 := Int.emod_nonneg z (show (k : Int) ≠ 0 by omega)
    have hj2 := Int.emod_lt_of_pos z hki
    obtain ⟨j, hj⟩ := Int.eq_ofNat_of_zero_le hj1
    rw [hj] at ht1
    have hjk : j < k := by omega
    have HJ := Lib.hid (show P.pick z k = j by unfold P.pick; omega)
    clear hj1 hj2 hj
    go_upto_region 2 with (fail)
    have hco := HCA.out w1 W.out x hx
    rw [HOW.out] at hco
    have cc0 : w1.cell? ⟨qc, 0, none⟩ = some (.slice (some ⟨ba, oa, none⟩) n ka) := GC.out.box.cell 0 _ rfl
    have cc1 : w1.cell? ⟨qc, 1, none⟩ = some (.slice (some ⟨bb, ob, none⟩) n kb) := GC.out.box.cell 1 _ rfl
    have cc2 : w1.cell? ⟨qc, 2, none⟩ = some (.slice (some ⟨bc, oc, none⟩) n kc) := GC.out.box.cell 2 _ rfl
    have cc3 : w1.cell? ⟨qc, 3, none⟩ = some (.int .i64 p) := GC.out.box.cell 3 _ rfl
    have cc4 : w1.cell? ⟨qc, 4, none⟩ = some mv := GC.out.box.cell 4 _ rfl
    have cc5 : w1.cell? ⟨qc, 5, none⟩ = some (.slice (some ⟨bs, os, none⟩) m ks) := GC.out.box.cell 5 _ rfl
    have hc0 : w1.cell? ⟨qh, 0, none⟩ = some (.int .i64 (x : Int)) := BQh.out.cell 0 _ rfl
    have hc1 : w1.cell? ⟨qh, 1, none⟩ = some (.int .i64 (y : Int)) := BQh.out.cell 1 _ rfl
    go_quiet ((fail))
    clear cc0 cc1 cc2 cc3 cc4 cc5 hc0 hc1
    have hb := below_drewN (Below.refl w1.heap.size w1) nq
    replace W := Lib.hid (W.out.trans (hb.mono W.out.size))
    replace BQh := Lib.hid (BQh.out.keep (grown_of_below hb none))
    replace BQr := Lib.hid (BQr.out.keep (grown_of_below hb none))
    replace GC := Lib.hid (GC.out.on hb)
    replace GI := Lib.hid (GI.out.on hb)
    clear hb
    generalize w1.drewN nq = w2 at W BQh BQr GC GI ⊢
    clear hco
    have hcz := HCS.out w2 W.out y hy
    rw [HZ.out] at hcz
    go_upto_region 4 with (fail)
    have cc0 : w2.cell? ⟨qc, 0, none⟩ = some (.slice (some ⟨ba, oa, none⟩) n ka) := GC.out.box.cell 0 _ rfl
    have cc1 : w2.cell? ⟨qc, 1, none⟩ = some (.slice (some ⟨bb, ob, none⟩) n kb) := GC.out.box.cell 1 _ rfl
    have cc2 : w2.cell? ⟨qc, 2, none⟩ = some (.slice (some ⟨bc, oc, none⟩) n kc) := GC.out.box.cell 2 _ rfl
    have cc3 : w2.cell? ⟨qc, 3, none⟩ = some (.int .i64 p) := GC.out.box.cell 3 _ rfl
    have cc4 : w2.cell? ⟨qc, 4, none⟩ = some mv := GC.out.box.cell 4 _ rfl
    have cc5 : w2.cell? ⟨qc, 5, none⟩ = some (.slice (some ⟨bs, os, none⟩) m ks) := GC.out.box.cell 5 _ rfl
    have hc0 : w2.cell? ⟨qh, 0, none⟩ = some (.int .i64 (x : Int)) := BQh.out.cell 0 _ rfl
    have hc1 : w2.cell? ⟨qh, 1, none⟩ = some (.int .i64 (y : Int)) := BQh.out.cell 1 _ rfl
    go_quiet ((fail))
    clear cc0 cc1 cc2 cc3 cc4 cc5 hc0 hc1
    have hb := below_drewN (Below.refl w2.heap.size w2) nq
    replace W := Lib.hid (W.out.trans (hb.mono W.out.size))
    replace BQh := Lib.hid (BQh.out.keep (grown_of_below hb none))
    replace BQr := Lib.hid (BQr.out.keep (grown_of_below hb none))
    replace GC := Lib.hid (GC.out.on hb)
    replace GI := Lib.hid (GI.out.on hb)
    clear hb
    generalize w2.drewN nq = w3 at W BQh BQr GC GI ⊢
    clear hcz ht1 ht2 ht3
    go_upto_region 5 with (fail)
    obtain ⟨u, hu⟩ : ∃ u, row.getD j 0 = u := ⟨_, rfl⟩
    have hmem : u ∈ row := by rw [← hu]; exact mem_getD17 (by rw [HK.out]; exact hjk)
    have hu0 := HIN.out u hmem
    have HU := Lib.hid hu
    have HUN := Lib.hid (show ((u.toNat : Nat) : Int) = u by omega)
    have HCU := Lib.hid (show ∀ w', Below w3.heap.size w3 w' → w'.cell? ⟨bm, om + j, none⟩ = some (.int .i64 u) from fun w' hb => by
      rw [← HU.out]
      exact HCM.out w' (W.out.trans (hb.mono W.out.size)) j hjk)
    have HF := Lib.hid (show P.stepS g p moves script (x, y) = some (u.toNat, (y + 1) % m) by
      unfold P.stepS
      simp only []
      rw [HOW.out, if_neg hown, HROW.out, HK.out, HZ.out, HJ.out, HU.out, HM.out])
    have hji : (j : Int) < (k : Int) := by omega
    have hj0 : (0 : Int) ≤ (j : Int) := Int.natCast_nonneg _
    have hyw : IntKind.i64.wrap ((y : Int) + 1) = (y : Int) + 1 := by rw [IntKind.wrap_i64]; omega
    have hym : Int.tmod ((y : Int) + 1) (m : Int) = ((y : Int) + 1) % (m : Int) := Int.tmod_eq_emod_of_nonneg (by omega)
    have HYM := Lib.hid (show (((y + 1) % m : Nat) : Int) = ((y : Int) + 1) % (m : Int) by rw [Int.natCast_emod]; rfl)
    have hm00 : ¬ m = 0 := by omega
    clear hu hmem
    refine Rt.wp_region_tail 2 (fun idx => match idx with | 0 => (fun v _ _ => v = (.slice (some ⟨bm, om, none⟩) k km)) | 1 => (fun v _ _ => v = (.int .i64 (j : Int))) | 2 => (fun v _ _ => v = (.pointer (some ⟨bm, om + j, none⟩))) | 3 => (fun v _ _ => v = (.int .i64 u)) | 4 => (fun v _ _ => v = (.pointer (some ⟨qh, 1, none⟩))) | 5 => (fun v _ _ => v = (.int .i64 (y : Int))) | 6 => (fun v _ _ => v = (.int .i64 ((y : Int) + 1))) | 7 => (fun v _ _ => v = (.pointer (some ⟨qc, 0, none⟩))) | 8 => (fun v _ _ => v = (.pointer (some ⟨qc, 0, none⟩))) | 9 => (fun v _ _ => v = (.pointer (some ⟨qc, 5, none⟩))) | 10 => (fun v _ _ => v = (.slice (some ⟨bs, os, none⟩) m ks)) | 11 => (fun v _ _ => v = (.int .i64 (m : Int))) | 12 => (fun v _ _ => v = (.int .i64 (((y : Int) + 1) % (m : Int)))) | 13 => (fun v _ _ => v = .agg #[(.int .i64 u), (.int .i64 (((y : Int) + 1) % (m : Int)))]) | _ => fun _ _ _ => True) (fun _ _ _ _ => True) (Rk.allK) 99 (by kernel_rfl) (by rfl) (by kernel_rfl) (by rfl) ?_ ?_ ?_ ?_
    · refine ⟨?_, ?_, ?_, ?_, ?_, ?_, ?_, ?_, ?_, ?_, ?_, ?_, ?_, ?_, trivial⟩
      · intro A w' K vals h hn hT hgk hK0
        have r0 : A.tmps[6]?.getD undef = (.slice (some ⟨bm, om, none⟩) k km) := Rg.slot h.1
        clear h hn hT hgk
        simp [Oper.wp, execOp, go_sem, r0]
        exact hK0 _ _ (Rk.Keeps.refl _ _) rfl trivial
      · intro A w' K vals h hn hT hgk hK0
        have r0 : A.tmps[8]?.getD undef = (.int .i64 (j : Int)) := Rg.slot h.1
        clear h hn hT hgk
        simp [Oper.wp, execOp, go_sem, r0]
        exact hK0 _ _ (Rk.Keeps.refl _ _) rfl trivial
      · intro A w' K vals h hn hT hgk hK0
        have r0 : A.tmps[48]?.getD undef = vals 0 := Rg.slot h.1
        have s0 : vals 0 = (.slice (some ⟨bm, om, none⟩) k km) := hn.1
        have r1 : A.tmps[49]?.getD undef = vals 1 := Rg.slot h.2.1
        have s1 : vals 1 = (.int .i64 (j : Int)) := hn.2.1
        clear h hn hT hgk
        simp [Oper.wp, execOp, go_sem, r0, r1, s0, s1, hji, hj0]
        exact hK0 _ _ (Rk.Keeps.refl _ _) rfl trivial
      · intro A w' K vals h hn hT hgk hK0
        have r0 : A.tmps[50]?.getD undef = vals 2 := Rg.slot (h.1)
        have r1 : vals 2 = (.pointer (some ⟨bm, om + j, none⟩)) := hn.1
        have c : w'.cell? ⟨bm, om + j, none⟩ = some (.int .i64 u) := HCU.out w' (below_of_grown (Rk.grown_of hgk))
        clear h hn hT hgk
        simp [Oper.wp, execOp, go_sem, r0, r1, c]
        exact hK0 _ _ (Rk.Keeps.refl _ _) rfl trivial
      · intro A w' K vals h hn hT hgk hK0
        have r0 : A.tmps[3]?.getD undef = (.pointer (some ⟨qh, 0, none⟩)) := Rg.slot h.1
        clear h hn hT hgk
        simp [Oper.wp, execOp, go_sem, r0]
        exact hK0 _ _ (Rk.Keeps.refl _ _) rfl trivial
      · intro A w' K vals h hn hT hgk hK0
        have r0 : A.tmps[52]?.getD undef = vals 4 := Rg.slot (h.1)
        have r1 : vals 4 = (.pointer (some ⟨qh, 1, none⟩)) := hn.1
        have c : w'.cell? ⟨qh, 1, none⟩ = some (.int .i64 (y : Int)) := (BQh.out.keep (Rk.grown_of hgk)).cell 1 _ rfl
        clear h hn hT hgk
        simp [Oper.wp, execOp, go_sem, r0, r1, c]
        exact hK0 _ _ (Rk.Keeps.refl _ _) rfl trivial
      · intro A w' K vals h hn hT hgk hK0
        have r0 : A.tmps[53]?.getD undef = vals 5 := Rg.slot h.1
        have s0 : vals 5 = (.int .i64 (y : Int)) := hn.1
        clear h hn hT hgk
        simp [Oper.wp, execOp, go_sem, r0, s0, hyw]
        exact hK0 _ _ (Rk.Keeps.refl _ _) rfl trivial
      · intro A w' K vals h hn hT hgk hK0
        have r0 : A.tmps[0]?.getD undef = (.pointer (some ⟨qc, 0, none⟩)) := Rg.slot h.1
        clear h hn hT hgk
        simp [Oper.wp, execOp, go_sem, r0]
        exact hK0 _ _ (Rk.Keeps.refl _ _) rfl trivial
      · intro A w' K vals h hn hT hgk hK0
        have r0 : A.tmps[55]?.getD undef = vals 7 := Rg.slot h.1
        have s0 : vals 7 = (.pointer (some ⟨qc, 0, none⟩)) := hn.1
        clear h hn hT hgk
        simp [Oper.wp, execOp, go_sem, r0, s0]
        exact hK0 _ _ (Rk.Keeps.refl _ _) rfl trivial
      · intro A w' K vals h hn hT hgk hK0
        have r0 : A.tmps[56]?.getD undef = vals 8 := Rg.slot h.1
        have s0 : vals 8 = (.pointer (some ⟨qc, 0, none⟩)) := hn.1
        clear h hn hT hgk
        simp [Oper.wp, execOp, go_sem, r0, s0]
        exact hK0 _ _ (Rk.Keeps.refl _ _) rfl trivial
      · intro A w' K vals h hn hT hgk hK0
        have r0 : A.tmps[57]?.getD undef = vals 9 := Rg.slot (h.1)
        have r1 : vals 9 = (.pointer (some ⟨qc, 5, none⟩)) := hn.1
        have c : w'.cell? ⟨qc, 5, none⟩ = some (.slice (some ⟨bs, os, none⟩) m ks) := (GC.out.box.keep (Rk.grown_of hgk)).cell 5 _ rfl
        clear h hn hT hgk
        simp [Oper.wp, execOp, go_sem, r0, r1, c]
        exact hK0 _ _ (Rk.Keeps.refl _ _) rfl trivial
      · intro A w' K vals h hn hT hgk hK0
        have r0 : A.tmps[58]?.getD undef = vals 10 := Rg.slot h.1
        have s0 : vals 10 = (.slice (some ⟨bs, os, none⟩) m ks) := hn.1
        clear h hn hT hgk
        simp [Oper.wp, go_sem, r0, s0]
        exact hK0 _ _ (Rk.Keeps.refl _ _) rfl trivial
      · intro A w' K vals h hn hT hgk hK0
        have r0 : A.tmps[54]?.getD undef = vals 6 := Rg.slot h.1
        have s0 : vals 6 = (.int .i64 ((y : Int) + 1)) := hn.1
        have r1 : A.tmps[59]?.getD undef = vals 11 := Rg.slot h.2.1
        have s1 : vals 11 = (.int .i64 (m : Int)) := hn.2.1
        clear h hn hT hgk
        simp [Oper.wp, execOp, go_sem, r0, r1, s0, s1, hym, hm00]
        exact hK0 _ _ (Rk.Keeps.refl _ _) rfl trivial
      · intro A w' K vals h hn hT hgk hK0
        have r0 : A.tmps[51]?.getD undef = vals 3 := Rg.slot h.1
        have s0 : vals 3 = (.int .i64 u) := hn.1
        have r1 : A.tmps[60]?.getD undef = vals 12 := Rg.slot h.2.1
        have s1 : vals 12 = (.int .i64 (((y : Int) + 1) % (m : Int))) := hn.2.1
        clear h hn hT hgk
        simp [Oper.wp, execOp, go_sem, r0, r1, s0, s1]
        exact hK0 _ _ (Rk.Keeps.refl _ _) rfl trivial
    · refine ⟨?_, ?_, ?_, ?_, ?_, ?_, ?_, ?_, ?_, ?_, ?_, ?_, ?_, ?_, trivial⟩
      · exact fun _ _ _ _ _ _ h => h
      · exact fun _ _ _ _ _ _ h => h
      · exact fun _ _ _ _ _ _ h => h
      · exact fun _ _ _ _ _ _ h => h
      · exact fun _ _ _ _ _ _ h => h
      · exact fun _ _ _ _ _ _ h => h
      · exact fun _ _ _ _ _ _ h => h
      · exact fun _ _ _ _ _ _ h => h
      · exact fun _ _ _ _ _ _ h => h
      · exact fun _ _ _ _ _ _ h => h
      · exact fun _ _ _ _ _ _ h => h
      · exact fun _ _ _ _ _ _ h => h
      · exact fun _ _ _ _ _ _ h => h
      · exact fun _ _ _ _ _ _ h => h
    · exact fun _ _ _ _ _ _ h => h
    · intro vals w9 G hgk hS hG
      have sB : vals 13 = .agg #[(.int .i64 u), (.int .i64 (((y : Int) + 1) % (m : Int)))] := hS.2.2.2.2.2.2.2.2.2.2.2.2.2.1
      clear hS
      have hb := below_of_grown (Rk.grown_of hgk)
      replace W := Lib.hid (W.out.trans (hb.mono W.out.size))
      replace BQh := Lib.hid (BQh.out.keep (grown_of_below hb none))
      replace BQr := Lib.hid (BQr.out.keep (grown_of_below hb none))
      replace GC := Lib.hid (GC.out.on hb)
      replace GI := Lib.hid (GI.out.on hb)
      clear hb hgk
      have rc0 : w9.cell? ⟨qr, 0, none⟩ = some (.int .i64 0) := BQr.out.cell 0 _ rfl
      have rc1 : w9.cell? ⟨qr, 1, none⟩ = some (.int .i64 0) := BQr.out.cell 1 _ rfl
      have rf0 : w9.frozen? ⟨qr, 0, none⟩ = false := BQr.out.frozen 0
      have rf1 : w9.frozen? ⟨qr, 1, none⟩ = false := BQr.out.frozen 1
      refine hG ?_
      clear hG
      simp only [List.take, List.drop, List.length, Nat.reduceSub, Nat.reduceAdd, Rg.putAll, Act.put, List.setIfInBounds_toArray, List.set_cons_succ, List.set_cons_zero, sB]
      clear sB
      go_wp2_with fail
      have HBEL := Lib.hid ((W.out.setCell (p := ⟨qr, 0, none⟩) HQR.out (.int .i64 u)).setCell (p := ⟨qr, 1, none⟩) HQR.out (.int .i64 (((y : Int) + 1) % (m : Int))))
      refine bodyPost_ret (v := .tuple #[.agg #[(.int .i64 u), (.int .i64 (((y : Int) + 1) % (m : Int)))], .int .i64 0]) (by simp [results, Try.results19, go_sem, rc0, rc1]) rfl ⟨by rw [HF.out]; simp only [stepV, HUN.out, HYM.out], HBEL.out⟩

end W
end Go.Proofs.Ytghdjkpndhcplaa
