/- GameParts: where there is a part. -/
import Derived.Test.YtlbikfimfaecnaaDoorParts
import Derived.Deep.Cut
import Derived.Deep.CutRange
import Derived.Laws.StructEq
namespace Go.Proofs.YtlbikfimfaecnaaDoor
open Go.RowKit Go.Sort
namespace W

structure InvY (w w9 : World) (qg qi qy qv : Nat) (I v : BitVec 256) (gv yv : Array Value) (wr : World) : Prop where
  fg : Box wr qg 25 gv
  fi : Box wr qi 47 #[.int .u64 (P.wrd I 0), .int .u64 (P.wrd I 1), .int .u64 (P.wrd I 2), .int .u64 (P.wrd I 3)]
  fy : Box wr qy 25 yv
  fv : Box wr qv 35 #[.int .u64 (P.wrd v 0), .int .u64 (P.wrd v 1), .int .u64 (P.wrd v 2), .int .u64 (P.wrd v 3)]
  fw : Below w.heap.size w wr
  ft : Tab wr
  f9 : Below w9.heap.size w9 wr
theorem InvY.on {w w9 : World} {qg qi qy qv : Nat} {I v : BitVec 256} {gv yv : Array Value} {wr w' : World} (h : InvY w w9 qg qi qy qv I v gv yv wr) (hb : Below wr.heap.size wr w') : InvY w w9 qg qi qy qv I v gv yv w' :=
  ⟨h.fg.keep (grown_of_below hb none), h.fi.keep (grown_of_below hb none), h.fy.keep (grown_of_below hb none), h.fv.keep (grown_of_below hb none), h.fw.trans (hb.mono h.fw.size), h.ft.on hb, h.f9.trans (hb.mono h.f9.size)⟩
theorem bset_back (s v : BitVec 256) (n j : Nat) (h : (P.pre2 s n).length = j) : P.ofL (P.back (P.pre2 s n) ((P.pre2 v j).map fun (i : Nat) => (i : Int))) = P.bset s v n := by
  unfold P.bset P.both P.back
  rw [h, List.map_map, List.map_map]
  rfl
theorem olw_both (s v : BitVec 256) (n k : Nat) (F g : P.G) (BS : BitVec 256) (ol2 ol3 : List Int) (h1 : F.has v = g.has BS) (h2 : F.old v = P.pre2 v k) (h3 : g.old BS = P.both s v n) (hk : (P.pre2 s n).length = k) (e2 : OLW F v = ol2) (e3 : OLW g BS = ol3) :
    ol2.length = ol3.length ∧ ∀ i, i < ol2.length → ∃ a b : Nat, ol2.getD i 0 = (a : Int) ∧ ol3.getD i 0 = (b : Int) ∧ a < k ∧ (P.pre2 s n).getD a 0 = b := by
  subst e2 e3
  unfold OLW
  rw [← h1]
  split
  · rw [h2, h3, List.length_map, List.length_map, P.both_len, hk]
    refine ⟨rfl, fun i hi => ?_⟩
    refine ⟨(P.pre2 v k).getD i 0, (P.both s v n).getD i 0, ?_, ?_, ((P.pre2_mem v k _).1 (P.getD_mem hi)).1, ?_⟩
    · simp [List.getD, hi]
    · have : i < (P.both s v n).length := by rw [P.both_len, hk]; exact hi
      simp [List.getD, this]
    · have := P.both_at s v n i (by rw [hk]; exact hi)
      rw [hk] at this
      exact this.symm
  · exact ⟨rfl, fun i hi => by simp at hi⟩
/-- A number of the old ones. -/
theorem old_cell {w9 wr : World} {qo m yko y : Nat} {ol : List Int} {pl : List Nat} (h : Ints w9 (.slice (some ⟨qo, 0, none⟩) m yko) ol) (ho : ol = pl.map fun (i : Nat) => (i : Int)) (hm : ol.length = m) (hb : Below w9.heap.size w9 wr) (j : Nat) (hj : j < m) (hy : pl.getD j 0 = y) : wr.cell? ⟨qo, j, none⟩ = some (.int .i64 (y : Int)) := by
  obtain ⟨b, off, cap, e, hc⟩ := h.open_ hm (by omega)
  have h1 := hc wr hb j hj
  injection e with e1 e2 e3
  injection e1 with e1
  injection e1 with e1 e4
  subst e1 e4
  rw [Nat.zero_add] at h1
  rw [h1]
  have : ol.getD j 0 = (y : Int) := by
    rw [← hy, ho]
    have hj' : j < pl.length := by rw [ho, List.length_map] at hm; omega
    simp [List.getD, hj']
  rw [this]
set_option maxRecDepth 100000 in
set_option maxHeartbeats 8000000 in
theorem parts_yes (g : P.G) (s v : BitVec 256) (u : Value) (w : World) (hv : GameV w u g) (hT : Tab w) (hr : g.Right) (hs : g.has s = true) : Calls Tryd.prog 8 #[u, .agg #[.int .u64 (P.wrd s 0), .int .u64 (P.wrd s 1), .int .u64 (P.wrd s 2), .int .u64 (P.wrd s 3)], .agg #[.int .u64 (P.wrd v 0), .int .u64 (P.wrd v 1), .int .u64 (P.wrd v 2), .int .u64 (P.wrd v 3)]] w fun e w' => e = .returned (.bool true) ∧ Below w.heap.size w w' := by
  have HRF := Lib.hid (show (FW g s).Right by unfold FW; rw [if_pos hs]; exact P.part_right hr hs)
  have FLEN := Lib.hid (show (FW g s).owner.length = (OLW g s).length ∧ (FW g s).prio.length = (OLW g s).length ∧ (FW g s).moves.length = (OLW g s).length by
    unfold FW OLW
    rw [if_pos hs, if_pos hs, List.length_map]
    exact g.part_len s)
  have OPOS := Lib.hid (show 0 < (OLW g s).length by unfold OLW; rw [if_pos hs, List.length_map]; exact P.G.old_pos hs)
  have OPRE0 := Lib.hid (show OLW g s = (P.pre2 s g.owner.length).map fun (i : Nat) => (i : Int) by unfold OLW; rw [if_pos hs, P.old_pre2 g s (by have := hr.many; omega)])
  have OFI0 := Lib.hid (show P.ofL (OLW g s) = s &&& P.full ((g.owner.length : Nat) : Int) by unfold OLW; rw [if_pos hs]; exact P.ofL_old g s)
  have HSS := Lib.hid hs
  have hfw := fits_fw hv.fits s
  have hlw := len_olw g s
  obtain ⟨F, hF⟩ : ∃ F, FW g s = F := ⟨_, rfl⟩
  obtain ⟨ol, hol⟩ : ∃ ol, OLW g s = ol := ⟨_, rfl⟩
  rw [hF] at hfw
  rw [hol] at hlw
  have HF := Lib.hid hF
  have HOLS := Lib.hid hol
  have HHS := Lib.hid hs
  have hff := Lib.hid hfw
  obtain ⟨I, hI⟩ : ∃ I, s &&& P.full ((g.owner.length : Nat) : Int) = I := ⟨_, rfl⟩
  have HI0 := Lib.hid hI
  rw [hF] at HRF FLEN
  rw [hol] at FLEN OPOS OPRE0 OFI0
  rw [hI] at OFI0
  clear hF hol hs hfw hI
  have hf := Lib.hid hv.fits
  have HV := Lib.hid hv
  have HR := Lib.hid hr
  have HOK := Lib.hid ((P.G.ok_iff g).2 hr)
  have HFF := Lib.hid (show FW g (P.full 256) = g ∧ g.has (P.full 256) = true by
    have h := P.part_full hr
    exact ⟨by unfold FW; rw [if_pos h.1]; exact h.2, h.1⟩)
  obtain ⟨n, hn⟩ : ∃ n, g.owner.length = n := ⟨_, rfl⟩
  have hn0 : 0 < n := by rw [← hn]; exact hr.pos
  have hn2 : n ≤ 200 := by rw [← hn]; exact hr.many
  obtain ⟨ga, gao, gak, gb, gbo, gbk, gc, gco, gck, rfl, hga, hgb, hgc⟩ := hv.open_ hn (by rw [hr.prio]; exact hn) (by rw [hr.moves]; exact hn) hn0
  have GA := Lib.hid hga
  have GB := Lib.hid hgb
  have GC := Lib.hid hgc
  have HN := Lib.hid hn
  have HI := Lib.hid (show s &&& P.full (n : Int) = I by rw [← HI0.out, hn])
  have OPRE := Lib.hid (show ol = (P.pre2 s n).map fun (i : Nat) => (i : Int) by rw [OPRE0.out, hn])
  have T := Lib.hid hT
  clear hT hga hgb hgc hn hr hv
  go_enter Tryd.func8, Tryd.ntmps8
  go_wp2_with fail
  have b1q : Box (((w.alloc (.cells #[.slice (some ⟨ga, gao, none⟩) n gak, .slice (some ⟨gb, gbo, none⟩) n gbk, .slice (some ⟨gc, gco, none⟩) n gck] 25)).alloc (.cells #[.int .u64 (P.wrd s 0), .int .u64 (P.wrd s 1), .int .u64 (P.wrd s 2), .int .u64 (P.wrd s 3)] 35)).alloc (.cells #[.int .u64 (P.wrd v 0), .int .u64 (P.wrd v 1), .int .u64 (P.wrd v 2), .int .u64 (P.wrd v 3)] 35)) w.heap.size 25 #[.slice (some ⟨ga, gao, none⟩) n gak, .slice (some ⟨gb, gbo, none⟩) n gbk, .slice (some ⟨gc, gco, none⟩) n gck] := ((Box.new w _ _).alloc _).alloc _
  have b2q : Box (((w.alloc (.cells #[.slice (some ⟨ga, gao, none⟩) n gak, .slice (some ⟨gb, gbo, none⟩) n gbk, .slice (some ⟨gc, gco, none⟩) n gck] 25)).alloc (.cells #[.int .u64 (P.wrd s 0), .int .u64 (P.wrd s 1), .int .u64 (P.wrd s 2), .int .u64 (P.wrd s 3)] 35)).alloc (.cells #[.int .u64 (P.wrd v 0), .int .u64 (P.wrd v 1), .int .u64 (P.wrd v 2), .int .u64 (P.wrd v 3)] 35)) (w.heap.size + 1) 35 #[.int .u64 (P.wrd s 0), .int .u64 (P.wrd s 1), .int .u64 (P.wrd s 2), .int .u64 (P.wrd s 3)] := by
    have := (Box.new (w.alloc (.cells #[.slice (some ⟨ga, gao, none⟩) n gak, .slice (some ⟨gb, gbo, none⟩) n gbk, .slice (some ⟨gc, gco, none⟩) n gck] 25)) 35 #[.int .u64 (P.wrd s 0), .int .u64 (P.wrd s 1), .int .u64 (P.wrd s 2), .int .u64 (P.wrd s 3)]).alloc (.cells #[.int .u64 (P.wrd v 0), .int .u64 (P.wrd v 1), .int .u64 (P.wrd v 2), .int .u64 (P.wrd v 3)] 35)
    simpa using this
  have b3q : Box (((w.alloc (.cells #[.slice (some ⟨ga, gao, none⟩) n gak, .slice (some ⟨gb, gbo, none⟩) n gbk, .slice (some ⟨gc, gco, none⟩) n gck] 25)).alloc (.cells #[.int .u64 (P.wrd s 0), .int .u64 (P.wrd s 1), .int .u64 (P.wrd s 2), .int .u64 (P.wrd s 3)] 35)).alloc (.cells #[.int .u64 (P.wrd v 0), .int .u64 (P.wrd v 1), .int .u64 (P.wrd v 2), .int .u64 (P.wrd v 3)] 35)) (w.heap.size + 1 + 1) 35 #[.int .u64 (P.wrd v 0), .int .u64 (P.wrd v 1), .int .u64 (P.wrd v 2), .int .u64 (P.wrd v 3)] := by
    have := Box.new ((w.alloc (.cells #[.slice (some ⟨ga, gao, none⟩) n gak, .slice (some ⟨gb, gbo, none⟩) n gbk, .slice (some ⟨gc, gco, none⟩) n gck] 25)).alloc (.cells #[.int .u64 (P.wrd s 0), .int .u64 (P.wrd s 1), .int .u64 (P.wrd s 2), .int .u64 (P.wrd s 3)] 35)) 35 #[.int .u64 (P.wrd v 0), .int .u64 (P.wrd v 1), .int .u64 (P.wrd v 2), .int .u64 (P.wrd v 3)]
    simpa using this
  have hbq : Below w.heap.size w (((w.alloc (.cells #[.slice (some ⟨ga, gao, none⟩) n gak, .slice (some ⟨gb, gbo, none⟩) n gbk, .slice (some ⟨gc, gco, none⟩) n gck] 25)).alloc (.cells #[.int .u64 (P.wrd s 0), .int .u64 (P.wrd s 1), .int .u64 (P.wrd s 2), .int .u64 (P.wrd s 3)] 35)).alloc (.cells #[.int .u64 (P.wrd v 0), .int .u64 (P.wrd v 1), .int .u64 (P.wrd v 2), .int .u64 (P.wrd v 3)] 35)) := (((Below.refl _ w).alloc (Nat.le_refl _) _).alloc (by simp) _).alloc (by simp; omega) _
  replace T := Lib.hid (T.out.on hbq)
  generalize (((w.alloc (.cells #[.slice (some ⟨ga, gao, none⟩) n gak, .slice (some ⟨gb, gbo, none⟩) n gbk, .slice (some ⟨gc, gco, none⟩) n gck] 25)).alloc (.cells #[.int .u64 (P.wrd s 0), .int .u64 (P.wrd s 1), .int .u64 (P.wrd s 2), .int .u64 (P.wrd s 3)] 35)).alloc (.cells #[.int .u64 (P.wrd v 0), .int .u64 (P.wrd v 1), .int .u64 (P.wrd v 2), .int .u64 (P.wrd v 3)] 35)) = w1 at b1q b2q b3q hbq T ⊢
  have BQg := Lib.hid b1q
  have BQs := Lib.hid b2q
  have BQv := Lib.hid b3q
  have W := Lib.hid hbq
  clear b1q b2q b3q hbq
  generalize w.heap.size + 1 + 1 = qv at BQv ⊢
  generalize w.heap.size + 1 = qs at BQs ⊢
  generalize w.heap.size = qg at BQg ⊢
  refine (shown_any _ T.out).mono ?_
  rintro e w2 ⟨rfl, hb⟩
  replace BQg := Lib.hid (BQg.out.keep (grown_of_below hb none))
  replace BQs := Lib.hid (BQs.out.keep (grown_of_below hb none))
  replace BQv := Lib.hid (BQv.out.keep (grown_of_below hb none))
  replace W := Lib.hid (W.out.trans (hb.mono W.out.size))
  replace T := Lib.hid (T.out.on hb)
  clear hb
  have bb := BQg.out
  have pc0 : w2.cell? ⟨qg, 0, none⟩ = some (.slice (some ⟨ga, gao, none⟩) n gak) := bb.cell 0 _ rfl
  have pc1 : w2.cell? ⟨qg, 1, none⟩ = some (.slice (some ⟨gb, gbo, none⟩) n gbk) := bb.cell 1 _ rfl
  have pc2 : w2.cell? ⟨qg, 2, none⟩ = some (.slice (some ⟨gc, gco, none⟩) n gck) := bb.cell 2 _ rfl
  clear bb
  go_wp2_with fail
  refine (isright_any g _ _ (HV.out.on W.out)).mono ?_
  rintro e w3 ⟨rfl, hb⟩
  replace BQg := Lib.hid (BQg.out.keep (grown_of_below hb none))
  replace BQs := Lib.hid (BQs.out.keep (grown_of_below hb none))
  replace BQv := Lib.hid (BQv.out.keep (grown_of_below hb none))
  replace W := Lib.hid (W.out.trans (hb.mono W.out.size))
  replace T := Lib.hid (T.out.on hb)
  rw [HOK.out]
  clear hb pc0 pc1 pc2
  have bb := BQg.out
  have pc0 : w3.cell? ⟨qg, 0, none⟩ = some (.slice (some ⟨ga, gao, none⟩) n gak) := bb.cell 0 _ rfl
  have pc1 : w3.cell? ⟨qg, 1, none⟩ = some (.slice (some ⟨gb, gbo, none⟩) n gbk) := bb.cell 1 _ rfl
  have pc2 : w3.cell? ⟨qg, 2, none⟩ = some (.slice (some ⟨gc, gco, none⟩) n gck) := bb.cell 2 _ rfl
  clear bb
  go_wp2_with fail
  clear pc0 pc1 pc2
  refine Rk.wp_region_lit (fun idx => match idx with | 0 => (fun v _ _ => v = (.agg #[.slice (some ⟨ga, gao, none⟩) n gak, .slice (some ⟨gb, gbo, none⟩) n gbk, .slice (some ⟨gc, gco, none⟩) n gck])) | 1 => (fun v _ _ => v = .agg #[.int .u64 (P.wrd (P.full 256) 0), .int .u64 (P.wrd (P.full 256) 1), .int .u64 (P.wrd (P.full 256) 2), .int .u64 (P.wrd (P.full 256) 3)]) | 2 => (fun v _ w' => SubW (g) (OLW g (P.full 256)) (true) w3.heap.size v w') | 3 => (fun v ds w' => v = ds.getD 0 undef ∧ SubW (g) (OLW g (P.full 256)) (true) w3.heap.size v w') | 4 => (fun v ds _ => v = tupleAt (ds.getD 0 undef) 0) | 5 => (fun v ds _ => v = tupleAt (ds.getD 0 undef) 1) | 6 => (fun v ds _ => v = tupleAt (ds.getD 0 undef) 2) | 7 => (fun v _ _ => ∃ p, v = .pointer (some ⟨p, 0, none⟩) ∧ w3.heap.size ≤ p) | 8 => (fun _ ds w' => ∃ p a1 k1 b1 k2 c1 k3, ds.getD 0 undef = .pointer (some ⟨p, 0, none⟩) ∧ ds.getD 1 undef = .agg #[.slice a1 (g).owner.length k1, .slice b1 (g).prio.length k2, .slice c1 (g).moves.length k3] ∧ Box w' p 25 #[.slice a1 (g).owner.length k1, .slice b1 (g).prio.length k2, .slice c1 (g).moves.length k3]) | 9 => (fun v ds _ => v = ds.getD 0 undef) | _ => fun _ _ _ => True) (fun idx => match idx with | 7 => (fun v _ w' => ∃ p, v = .pointer (some ⟨p, 0, none⟩) ∧ Box w' p 25 #[.slice none 0 0, .slice none 0 0, .slice none 0 0]) | _ => fun _ _ _ => True) (KG w3.heap.size 25) 8 (by kernel_rfl) (by rfl) (by kernel_rfl) (by rfl) ?_ ?_ ?_ ?_
  · refine ⟨?_, ?_, ?_, ?_, ?_, ?_, ?_, ?_, ?_, ?_, trivial⟩
    · intro A w' K vals h hn hT hgk hK0
      have hg : w3.grownBy w' none := keeps_old hgk
      have hK := fun v u (h1 : w'.grownBy u none) h2 => hK0 v u (Rk.keep_of h1) h2 trivial
      clear hT hgk hK0
      have r0 : A.tmps[3]?.getD undef = .pointer (some ⟨qg, 0, none⟩) := Rg.slot h.1
      have b := BQg.out.keep hg
      have cc0 : w'.cell? ⟨qg, 0, none⟩ = some (.slice (some ⟨ga, gao, none⟩) n gak) := b.cell 0 _ rfl
      have cc1 : w'.cell? ⟨qg, 1, none⟩ = some (.slice (some ⟨gb, gbo, none⟩) n gbk) := b.cell 1 _ rfl
      have cc2 : w'.cell? ⟨qg, 2, none⟩ = some (.slice (some ⟨gc, gco, none⟩) n gck) := b.cell 2 _ rfl
      clear h hn hg b
      simp [Oper.wp, execOp, go_sem, r0, cc0, cc1, cc2]
      exact hK _ _ (Rg.grown_refl _ _) rfl
    · intro A w' K vals h hn hT hgk hK0
      have hg : w3.grownBy w' none := keeps_old hgk
      have hK := fun v u (h1 : w'.grownBy u none) h2 => hK0 v u (Rk.keep_of h1) h2 trivial
      clear hT hgk hK0
      clear h hn
      simp [Oper.wp, go_sem]
      refine (full_any 256 w').mono ?_
      rintro e w'' ⟨rfl, hb⟩
      exact hK _ _ (grown_of_below hb _) rfl
    · intro A w' K vals h hn hT hgk hK0
      have hg : w3.grownBy w' none := keeps_old hgk
      have hK := fun v u (h1 : w'.grownBy u none) h2 => hK0 v u (Rk.keep_of h1) h2 trivial
      clear hT hgk hK0
      have r0 : A.tmps[49]?.getD undef = vals 0 := Rg.slot h.2.1
      have r1 : A.tmps[50]?.getD undef = vals 1 := Rg.slot h.2.2.1
      have s0 : vals 0 = .agg #[.slice (some ⟨ga, gao, none⟩) n gak, .slice (some ⟨gb, gbo, none⟩) n gbk, .slice (some ⟨gc, gco, none⟩) n gck] := hn.1
      have s1 : vals 1 = .agg #[.int .u64 (P.wrd (P.full 256) 0), .int .u64 (P.wrd (P.full 256) 1), .int .u64 (P.wrd (P.full 256) 2), .int .u64 (P.wrd (P.full 256) 3)] := hn.2.1
      clear h hn
      simp [Oper.wp, go_sem, r0, r1, s0, s1]
      refine (subw_any g (P.full 256) (.agg #[.slice (some ⟨ga, gao, none⟩) n gak, .slice (some ⟨gb, gbo, none⟩) n gbk, .slice (some ⟨gc, gco, none⟩) n gck]) w' (HV.out.on (W.out.trans ((below_of_grown hg).mono W.out.size))) (T.out.on (below_of_grown hg))).mono ?_
      rintro e w'' ⟨u, rfl, hu, hb⟩
      rw [HFF.out.1, HFF.out.2] at hu
      exact hK _ _ (grown_of_below hb _) (hu.low hg.size)
    · intro A w' K vals h hn hT hgk hK0
      have hg : w3.grownBy w' none := keeps_old hgk
      have hK := fun v u (h1 : w'.grownBy u none) h2 => hK0 v u (Rk.keep_of h1) h2 trivial
      clear hT hgk hK0
      have r0 : A.tmps[51]?.getD undef = vals 2 := Rg.slot h.1
      have n3 : SubW (g) (OLW g (P.full 256)) (true) w3.heap.size (vals 2) w' := hn.1
      clear h hn hg
      simp [Oper.wp, execOp, go_sem, r0]
      exact hK _ _ (Rg.grown_refl _ _) ⟨rfl, n3⟩
    · intro A w' K vals h hn hT hgk hK0
      have hg : w3.grownBy w' none := keeps_old hgk
      have hK := fun v u (h1 : w'.grownBy u none) h2 => hK0 v u (Rk.keep_of h1) h2 trivial
      clear hT hgk hK0
      have r0 : A.tmps[48]?.getD undef = vals 3 := Rg.slot h.1
      obtain ⟨a1, k1, b1, k2, c1, k3, x1, k4, L, hv, -, -⟩ : SubW (g) (OLW g (P.full 256)) (true) w3.heap.size (vals 3) w' := hn.1.2
      clear h hn hg
      simp [Oper.wp, execOp, go_sem, r0, hv]
      refine hK _ _ (Rg.grown_refl _ _) ?_
      show _ = tupleAt (vals 3) 0
      rw [hv]
      rfl
    · intro A w' K vals h hn hT hgk hK0
      have hg : w3.grownBy w' none := keeps_old hgk
      have hK := fun v u (h1 : w'.grownBy u none) h2 => hK0 v u (Rk.keep_of h1) h2 trivial
      clear hT hgk hK0
      have r0 : A.tmps[48]?.getD undef = vals 3 := Rg.slot h.1
      obtain ⟨a1, k1, b1, k2, c1, k3, x1, k4, L, hv, -, -⟩ : SubW (g) (OLW g (P.full 256)) (true) w3.heap.size (vals 3) w' := hn.1.2
      clear h hn hg
      simp [Oper.wp, execOp, go_sem, r0, hv]
      refine hK _ _ (Rg.grown_refl _ _) ?_
      show _ = tupleAt (vals 3) 1
      rw [hv]
      rfl
    · intro A w' K vals h hn hT hgk hK0
      have hg : w3.grownBy w' none := keeps_old hgk
      have hK := fun v u (h1 : w'.grownBy u none) h2 => hK0 v u (Rk.keep_of h1) h2 trivial
      clear hT hgk hK0
      have r0 : A.tmps[48]?.getD undef = vals 3 := Rg.slot h.1
      obtain ⟨a1, k1, b1, k2, c1, k3, x1, k4, L, hv, -, -⟩ : SubW (g) (OLW g (P.full 256)) (true) w3.heap.size (vals 3) w' := hn.1.2
      clear h hn hg
      simp [Oper.wp, execOp, go_sem, r0, hv]
      refine hK _ _ (Rg.grown_refl _ _) ?_
      show _ = tupleAt (vals 3) 2
      rw [hv]
      rfl
    · intro A w' K vals h hn hT hgk hK0
      clear h hn hT
      simp [Oper.wp, execOp, go_sem]
      exact hK0 _ _ (Rk.keep_of (World.grownBy_alloc _ _ _)) ⟨_, rfl, hgk.size⟩ ⟨_, rfl, Box.new _ _ _⟩
    · intro A w' K vals h hn hT hgk hK0
      have r0 : A.tmps[10]?.getD undef = vals 7 := Rg.slot h.1
      have r1 : A.tmps[52]?.getD undef = vals 4 := Rg.slot h.2.1
      obtain ⟨p, hp, hbx⟩ : ∃ p, vals 7 = .pointer (some ⟨p, 0, none⟩) ∧ Box w' p 25 #[.slice none 0 0, .slice none 0 0, .slice none 0 0] := (hT rfl).1
      obtain ⟨p', hp', hlo⟩ : ∃ p, vals 7 = .pointer (some ⟨p, 0, none⟩) ∧ w3.heap.size ≤ p := hn.1
      have s5 : vals 4 = tupleAt (vals 3) 0 := hn.2.1
      obtain ⟨a1, k1, b1, k2, c1, k3, x1, k4, L, s3, ho, hi⟩ : SubW (g) (OLW g (P.full 256)) (true) w3.heap.size (vals 3) w' := hn.2.2.2.2.2.2.1.2
      rw [s3] at s5
      have s5 : vals 4 = .agg #[.slice a1 (g).owner.length k1, .slice b1 (g).prio.length k2, .slice c1 (g).moves.length k3] := s5
      obtain rfl : p' = p := by rw [hp'] at hp; injection hp with hp; injection hp with hp; injection hp with hp
      clear h hn hT ho hi s3
      have qc0 : w'.cell? ⟨p', 0, none⟩ = some (.slice none 0 0) := hbx.cell 0 _ rfl
      have qc1 : w'.cell? ⟨p', 1, none⟩ = some (.slice none 0 0) := hbx.cell 1 _ rfl
      have qc2 : w'.cell? ⟨p', 2, none⟩ = some (.slice none 0 0) := hbx.cell 2 _ rfl
      have qf0 : w'.frozen? ⟨p', 0, none⟩ = false := hbx.frozen 0
      have qf1 : w'.frozen? ⟨p', 1, none⟩ = false := hbx.frozen 1
      have qf2 : w'.frozen? ⟨p', 2, none⟩ = false := hbx.frozen 2
      simp [Oper.wp, execOp, go_sem, r0, r1, hp', s5, qc0, qc1, qc2, qf0, qf1, qf2]
      refine hK0 undef _ (((keeps_set hbx hlo _ _).trans (keeps_set (hbx.set _ _) hlo _ _)).trans (keeps_set ((hbx.set _ _).set _ _) hlo _ _)) ⟨p', a1, k1, b1, k2, c1, k3, hp', s5, (((hbx.set 0 (.slice a1 (g).owner.length k1)).set 1 (.slice b1 (g).prio.length k2)).set 2 (.slice c1 (g).moves.length k3))⟩ trivial
    · intro A w' K vals h hn hT hgk hK0
      have hg : w3.grownBy w' none := keeps_old hgk
      have hK := fun v u (h1 : w'.grownBy u none) h2 => hK0 v u (Rk.keep_of h1) h2 trivial
      clear hT hgk hK0
      have r0 : A.tmps[53]?.getD undef = vals 5 := Rg.slot h.1
      clear h hn hg
      simp [Oper.wp, execOp, go_sem, r0]
      exact hK _ _ (Rg.grown_refl _ _) rfl
  · refine ⟨?_, ?_, ?_, ?_, ?_, ?_, ?_, ?_, ?_, ?_, trivial⟩
    · exact fun _ _ _ _ _ _ h => h
    · exact fun _ _ _ _ _ _ h => h
    · exact fun _ _ _ _ _ h hu => hu.other h (by decide) (by decide)
    · exact fun _ _ _ _ _ h hu => ⟨hu.1, hu.2.other h (by decide) (by decide)⟩
    · exact fun _ _ _ _ _ _ h => h
    · exact fun _ _ _ _ _ _ h => h
    · exact fun _ _ _ _ _ _ h => h
    · exact fun _ _ _ _ _ _ h => h
    · exact fun _ _ _ _ _ h ⟨p, a1, k1, b1, k2, c1, k3, h1, h2, hb⟩ => ⟨p, a1, k1, b1, k2, c1, k3, h1, h2, hb.keep (Rk.grown_of h)⟩
    · exact fun _ _ _ _ _ _ h => h
  · intro k v ds w w' hk h
    match k, h with
    | 7, h => exact ⟨h.choose, h.choose_spec.1, h.choose_spec.2.keep (Rk.grown_of hk)⟩
    | 0, _ | 1, _ | 2, _ | 3, _ | 4, _ | 5, _ | 6, _ | _ + 8, _ => trivial
  · intro vals w4 G hgk hS hG
    have hg := keeps_old hgk
    obtain ⟨xa, xka, xb, xkb, xc, xkc, xo, xko, xL, s3, ho, hi⟩ : SubW (g) (OLW g (P.full 256)) (true) w3.heap.size (vals 3) w4 := (hS.2.2.2.1).2
    have s5 : vals 4 = tupleAt (vals 3) 0 := hS.2.2.2.2.1
    have s6 : vals 5 = tupleAt (vals 3) 1 := hS.2.2.2.2.2.1
    have s7 : vals 6 = tupleAt (vals 3) 2 := hS.2.2.2.2.2.2.1
    obtain ⟨qx, a1', k1', b1', k2', c1', k3', s8, s5', hb5⟩ : ∃ p a1 k1 b1 k2 c1 k3, vals 7 = .pointer (some ⟨p, 0, none⟩) ∧ vals 4 = .agg #[.slice a1 (g).owner.length k1, .slice b1 (g).prio.length k2, .slice c1 (g).moves.length k3] ∧ Box w4 p 25 #[.slice a1 (g).owner.length k1, .slice b1 (g).prio.length k2, .slice c1 (g).moves.length k3] := hS.2.2.2.2.2.2.2.2.1
    have s10 : vals 9 = vals 5 := hS.2.2.2.2.2.2.2.2.2.1
    clear hS
    rw [s3] at s5 s6 s7
    have s5 : vals 4 = .agg #[.slice xa (g).owner.length xka, .slice xb (g).prio.length xkb, .slice xc (g).moves.length xkc] := s5
    have s6 : vals 5 = .slice xo (OLW g (P.full 256)).length xko := s6
    have s7 : vals 6 = .bool (true) := s7
    rw [s5] at s5'
    simp only [Value.agg.injEq, Array.mk.injEq, List.cons.injEq, Value.slice.injEq, and_true, true_and] at s5'
    obtain ⟨⟨rfl, rfl⟩, ⟨rfl, rfl⟩, rfl, rfl⟩ := s5'
    rw [s6] at s10
    replace BQg := Lib.hid (BQg.out.keep (grown_of_below (below_of_grown hg) none))
    replace BQs := Lib.hid (BQs.out.keep (grown_of_below (below_of_grown hg) none))
    replace BQv := Lib.hid (BQv.out.keep (grown_of_below (below_of_grown hg) none))
    replace W := Lib.hid (W.out.trans ((below_of_grown hg).mono W.out.size))
    replace T := Lib.hid (T.out.on (below_of_grown hg))
    have BQx := Lib.hid hb5
    have Ox := Lib.hid ho
    have Jx := Lib.hid hi
    clear hb5 ho hi hgk hg
    refine hG ?_
    clear hG
    simp [Rg.putAll, Oper.wp, execOp, go_sem, s5, s6, s7, s8, s10]
    clear s3 s5 s6 s7 s8 s10
    have bb := BQx.out
    have pc0 : w4.cell? ⟨qx, 0, none⟩ = some (.slice xa g.owner.length xka) := bb.cell 0 _ rfl
    have pc1 : w4.cell? ⟨qx, 1, none⟩ = some (.slice xb g.prio.length xkb) := bb.cell 1 _ rfl
    have pc2 : w4.cell? ⟨qx, 2, none⟩ = some (.slice xc g.moves.length xkc) := bb.cell 2 _ rfl
    clear bb
    have bb := BQg.out
    have rc0 : w4.cell? ⟨qg, 0, none⟩ = some (.slice (some ⟨ga, gao, none⟩) n gak) := bb.cell 0 _ rfl
    have rc1 : w4.cell? ⟨qg, 1, none⟩ = some (.slice (some ⟨gb, gbo, none⟩) n gbk) := bb.cell 1 _ rfl
    have rc2 : w4.cell? ⟨qg, 2, none⟩ = some (.slice (some ⟨gc, gco, none⟩) n gck) := bb.cell 2 _ rfl
    clear bb
    go_wp2_with fail
    refine (samegame_any g g _ _ _ (Ox.out.game hf.out) (HV.out.on W.out)).mono ?_
    rintro e w5 ⟨rfl, hb⟩
    rw [decide_eq_true rfl]
    replace BQg := Lib.hid (BQg.out.keep (grown_of_below hb none))
    replace BQs := Lib.hid (BQs.out.keep (grown_of_below hb none))
    replace BQv := Lib.hid (BQv.out.keep (grown_of_below hb none))
    replace W := Lib.hid (W.out.trans (hb.mono W.out.size))
    replace T := Lib.hid (T.out.on hb)
    replace BQx := Lib.hid (BQx.out.keep (grown_of_below hb none))
    replace Ox := Lib.hid (Ox.out.grown (grown_of_below hb none))
    clear hb pc0 pc1 pc2 rc0 rc1 rc2
    have bb := BQg.out
    have pc0 : w5.cell? ⟨qg, 0, none⟩ = some (.slice (some ⟨ga, gao, none⟩) n gak) := bb.cell 0 _ rfl
    have pc1 : w5.cell? ⟨qg, 1, none⟩ = some (.slice (some ⟨gb, gbo, none⟩) n gbk) := bb.cell 1 _ rfl
    have pc2 : w5.cell? ⟨qg, 2, none⟩ = some (.slice (some ⟨gc, gco, none⟩) n gck) := bb.cell 2 _ rfl
    clear bb
    have bb := BQs.out
    have sc0 : w5.cell? ⟨qs, 0, none⟩ = some (.int .u64 (P.wrd s 0)) := bb.cell 0 _ rfl
    have sc1 : w5.cell? ⟨qs, 1, none⟩ = some (.int .u64 (P.wrd s 1)) := bb.cell 1 _ rfl
    have sc2 : w5.cell? ⟨qs, 2, none⟩ = some (.int .u64 (P.wrd s 2)) := bb.cell 2 _ rfl
    have sc3 : w5.cell? ⟨qs, 3, none⟩ = some (.int .u64 (P.wrd s 3)) := bb.cell 3 _ rfl
    clear bb
    go_wp2_with fail
    refine (subw_any g s _ _ (HV.out.on W.out) T.out).mono ?_
    rintro e w6 ⟨u, rfl, hsub, hb⟩
    rw [HF.out, HOLS.out, HHS.out] at hsub
    obtain ⟨ya, yka, yb, ykb, yc, ykc, yo, yko, yL, rfl, ho, hol⟩ := hsub
    replace BQg := Lib.hid (BQg.out.keep (grown_of_below hb none))
    replace BQs := Lib.hid (BQs.out.keep (grown_of_below hb none))
    replace BQv := Lib.hid (BQv.out.keep (grown_of_below hb none))
    replace W := Lib.hid (W.out.trans (hb.mono W.out.size))
    replace T := Lib.hid (T.out.on hb)
    replace BQx := Lib.hid (BQx.out.keep (grown_of_below hb none))
    replace Ox := Lib.hid (Ox.out.grown (grown_of_below hb none))
    have Oy := Lib.hid ho
    have Jy := Lib.hid hol
    clear hb ho hol pc0 pc1 pc2 sc0 sc1 sc2 sc3
    go_upto_region 11 with (fail)
    have bq : Box (w6.alloc (.cells #[.slice ya F.owner.length yka, .slice yb F.prio.length ykb, .slice yc F.moves.length ykc] 25)) w6.heap.size 25 #[.slice ya F.owner.length yka, .slice yb F.prio.length ykb, .slice yc F.moves.length ykc] := Box.new _ _ _
    have hgq := World.grownBy_alloc w6 (.cells #[.slice ya F.owner.length yka, .slice yb F.prio.length ykb, .slice yc F.moves.length ykc] 25) none
    replace BQg := Lib.hid (BQg.out.keep hgq)
    replace BQs := Lib.hid (BQs.out.keep hgq)
    replace BQv := Lib.hid (BQv.out.keep hgq)
    replace W := Lib.hid (W.out.trans ((below_of_grown hgq).mono W.out.size))
    replace T := Lib.hid (T.out.on (below_of_grown hgq))
    replace BQx := Lib.hid (BQx.out.keep hgq)
    replace Ox := Lib.hid (Ox.out.grown hgq)
    replace Oy := Lib.hid (Oy.out.grown hgq)
    have Jy := Lib.hid (own_grown Jy.out hgq)
    generalize (w6.alloc (.cells #[.slice ya F.owner.length yka, .slice yb F.prio.length ykb, .slice yc F.moves.length ykc] 25)) = w7 at bq Jy BQg BQs BQv W T BQx Ox Oy ⊢
    generalize w6.heap.size = qy at bq ⊢
    have BQy := Lib.hid bq
    clear bq hgq
    have LW7 := Lib.hid W.out.size
    have T7 := T
    go_wp2_with fail
    refine Rg.wp_region_lit (fun idx => match idx with | 0 => (fun v _ _ => v = (.agg #[.int .u64 (P.wrd s 0), .int .u64 (P.wrd s 1), .int .u64 (P.wrd s 2), .int .u64 (P.wrd s 3)])) | 1 => (fun v _ _ => v = (.int .i64 (n : Int))) | 2 => (fun v _ _ => v = (.agg #[.int .u64 (P.wrd (P.full (n : Int)) 0), .int .u64 (P.wrd (P.full (n : Int)) 1), .int .u64 (P.wrd (P.full (n : Int)) 2), .int .u64 (P.wrd (P.full (n : Int)) 3)])) | 3 => (fun v _ _ => v = (.agg #[.int .u64 (P.wrd I 0), .int .u64 (P.wrd I 1), .int .u64 (P.wrd I 2), .int .u64 (P.wrd I 3)])) | 4 => (fun v _ w' => ∃ q, v = .pointer (some ⟨q, 0, none⟩) ∧ w7.heap.size ≤ q ∧ Box w' q 47 #[.int .u64 0, .int .u64 0, .int .u64 0, .int .u64 0]) | _ => fun _ _ _ => True) (none) 99 (by kernel_rfl) (by rfl) (by kernel_rfl) (by rfl) ?_ ?_ ?_
    · refine ⟨?_, ?_, ?_, ?_, ?_, trivial⟩
      · intro A w' K vals h hn hg hK
        have r0 : A.tmps[4]?.getD undef = .pointer (some ⟨qs, 0, none⟩) := Rg.slot h.1
        have b := BQs.out.keep hg
        have cc0 : w'.cell? ⟨qs, 0, none⟩ = some (.int .u64 (P.wrd s 0)) := b.cell 0 _ rfl
        have cc1 : w'.cell? ⟨qs, 1, none⟩ = some (.int .u64 (P.wrd s 1)) := b.cell 1 _ rfl
        have cc2 : w'.cell? ⟨qs, 2, none⟩ = some (.int .u64 (P.wrd s 2)) := b.cell 2 _ rfl
        have cc3 : w'.cell? ⟨qs, 3, none⟩ = some (.int .u64 (P.wrd s 3)) := b.cell 3 _ rfl
        clear h hn hg b
        simp [Oper.wp, execOp, go_sem, r0, cc0, cc1, cc2, cc3]
        exact hK _ _ (Rg.grown_refl _ _) rfl
      · intro A w' K vals h hn hg hK
        have r0 : A.tmps[9]?.getD undef = (.int .i64 (n : Int)) := Rg.slot (h.1)
        clear h hn hg
        simp [Oper.wp, execOp, go_sem, r0]
        exact hK _ _ (Rg.grown_refl _ _) rfl
      · intro A w' K vals h hn hg hK
        have r0 : A.tmps[72]?.getD undef = vals 1 := Rg.slot h.2.1
        have s0 : vals 1 = .int .i64 (n : Int) := hn.1
        clear h hn
        simp [Oper.wp, go_sem, r0, s0]
        refine (full_any (n : Int) w').mono ?_
        rintro e w'' ⟨rfl, hb⟩
        exact hK _ _ (grown_of_below hb _) rfl
      · intro A w' K vals h hn hg hK
        have r0 : A.tmps[71]?.getD undef = vals 0 := Rg.slot h.2.1
        have r1 : A.tmps[73]?.getD undef = vals 2 := Rg.slot h.2.2.1
        have s0 : vals 0 = .agg #[.int .u64 (P.wrd s 0), .int .u64 (P.wrd s 1), .int .u64 (P.wrd s 2), .int .u64 (P.wrd s 3)] := hn.1
        have s1 : vals 2 = .agg #[.int .u64 (P.wrd (P.full (n : Int)) 0), .int .u64 (P.wrd (P.full (n : Int)) 1), .int .u64 (P.wrd (P.full (n : Int)) 2), .int .u64 (P.wrd (P.full (n : Int)) 3)] := hn.2.1
        clear h hn
        simp [Oper.wp, go_sem, r0, r1, s0, s1]
        refine (and_any s (P.full (n : Int)) w').mono ?_
        rintro e w'' ⟨rfl, hb⟩
        rw [HI.out]
        exact hK _ _ (grown_of_below hb _) rfl
      · intro A w' K vals h hn hg hK
        clear h hn
        simp [Oper.wp, execOp, go_sem]
        exact hK _ _ (World.grownBy_alloc _ _ _) ⟨_, rfl, hg.size, Box.new _ _ _⟩
    · refine ⟨?_, ?_, ?_, ?_, ?_, trivial⟩
      · exact fun _ _ _ _ _ _ h => h
      · exact fun _ _ _ _ _ _ h => h
      · exact fun _ _ _ _ _ _ h => h
      · exact fun _ _ _ _ _ _ h => h
      · exact fun _ _ _ _ _ h ⟨q, hv, hq, hb⟩ => ⟨q, hv, hq, hb.keep h⟩
    · intro vals w8 G hg hS hG
      have s3 : vals 3 = .agg #[.int .u64 (P.wrd I 0), .int .u64 (P.wrd I 1), .int .u64 (P.wrd I 2), .int .u64 (P.wrd I 3)] := hS.2.2.2.1
      obtain ⟨qi, s4, hq, hbi⟩ : ∃ q, vals 4 = .pointer (some ⟨q, 0, none⟩) ∧ w7.heap.size ≤ q ∧ Box w8 q 47 #[.int .u64 0, .int .u64 0, .int .u64 0, .int .u64 0] := hS.2.2.2.2.1
      clear hS
      replace BQg := Lib.hid (BQg.out.keep (grown_of_below (below_of_grown hg) none))
      replace BQs := Lib.hid (BQs.out.keep (grown_of_below (below_of_grown hg) none))
      replace BQv := Lib.hid (BQv.out.keep (grown_of_below (below_of_grown hg) none))
      replace W := Lib.hid (W.out.trans ((below_of_grown hg).mono W.out.size))
      replace T := Lib.hid (T.out.on (below_of_grown hg))
      replace BQx := Lib.hid (BQx.out.keep (grown_of_below (below_of_grown hg) none))
      replace Ox := Lib.hid (Ox.out.grown (grown_of_below (below_of_grown hg) none))
      replace BQy := Lib.hid (BQy.out.keep (grown_of_below (below_of_grown hg) none))
      replace Oy := Lib.hid (Oy.out.grown (grown_of_below (below_of_grown hg) none))
      have Jy := Lib.hid (own_grown Jy.out (grown_of_below (below_of_grown hg) none))
      have hk1 : Rk.Keeps (KG w7.heap.size 47) w8 ((((w8.setCell ⟨qi, 0, none⟩ (.int .u64 (P.wrd I 0))).setCell ⟨qi, 1, none⟩ (.int .u64 (P.wrd I 1))).setCell ⟨qi, 2, none⟩ (.int .u64 (P.wrd I 2))).setCell ⟨qi, 3, none⟩ (.int .u64 (P.wrd I 3))) := (((keeps_set hbi hq 0 _).trans (keeps_set (hbi.set 0 _) hq 1 _)).trans (keeps_set ((hbi.set 0 _).set 1 _) hq 2 _)).trans (keeps_set (((hbi.set 0 _).set 1 _).set 2 _) hq 3 _)
      have qc0 : w8.cell? ⟨qi, 0, none⟩ = some (.int .u64 0) := hbi.cell 0 _ rfl
      have qc1 : w8.cell? ⟨qi, 1, none⟩ = some (.int .u64 0) := hbi.cell 1 _ rfl
      have qc2 : w8.cell? ⟨qi, 2, none⟩ = some (.int .u64 0) := hbi.cell 2 _ rfl
      have qc3 : w8.cell? ⟨qi, 3, none⟩ = some (.int .u64 0) := hbi.cell 3 _ rfl
      have qf0 : w8.frozen? ⟨qi, 0, none⟩ = false := hbi.frozen 0
      have qf1 : w8.frozen? ⟨qi, 1, none⟩ = false := hbi.frozen 1
      have qf2 : w8.frozen? ⟨qi, 2, none⟩ = false := hbi.frozen 2
      have qf3 : w8.frozen? ⟨qi, 3, none⟩ = false := hbi.frozen 3
      have hbe : Below w7.heap.size w8 ((((w8.setCell ⟨qi, 0, none⟩ (.int .u64 (P.wrd I 0))).setCell ⟨qi, 1, none⟩ (.int .u64 (P.wrd I 1))).setCell ⟨qi, 2, none⟩ (.int .u64 (P.wrd I 2))).setCell ⟨qi, 3, none⟩ (.int .u64 (P.wrd I 3))) := (((((Below.refl _ _).setCell (p := ⟨qi, 0, none⟩) hq _).setCell (p := ⟨qi, 1, none⟩) hq _).setCell (p := ⟨qi, 2, none⟩) hq _).setCell (p := ⟨qi, 3, none⟩) hq _)
      have BQi := Lib.hid ((((hbi.set 0 (.int .u64 (P.wrd I 0))).set 1 (.int .u64 (P.wrd I 1))).set 2 (.int .u64 (P.wrd I 2))).set 3 (.int .u64 (P.wrd I 3)))
      replace BQg := Lib.hid (BQg.out.other hk1 (by decide))
      replace BQs := Lib.hid (BQs.out.other hk1 (by decide))
      replace BQv := Lib.hid (BQv.out.other hk1 (by decide))
      replace BQx := Lib.hid (BQx.out.other hk1 (by decide))
      replace BQy := Lib.hid (BQy.out.other hk1 (by decide))
      replace Ox := Lib.hid (Ox.out.other hk1 (by decide) (by decide))
      replace Oy := Lib.hid (Oy.out.other hk1 (by decide) (by decide))
      have Jy := Lib.hid (own_other Jy.out hk1 (by decide))
      have T := Lib.hid (T7.out.on ((below_of_grown hg).trans hbe))
      replace W := Lib.hid (W.out.trans (hbe.mono LW7.out))
      clear hk1 hbe hbi hg
      refine hG ?_
      clear hG
      simp [List.dropLast, Rg.putAll, Oper.wp, execOp, go_sem, s3, s4, qc0, qc1, qc2, qc3, qf0, qf1, qf2, qf3]
      clear s3 s4 qc0 qc1 qc2 qc3 qf0 qf1 qf2 qf3
      generalize ((((w8.setCell ⟨qi, 0, none⟩ (.int .u64 (P.wrd I 0))).setCell ⟨qi, 1, none⟩ (.int .u64 (P.wrd I 1))).setCell ⟨qi, 2, none⟩ (.int .u64 (P.wrd I 2))).setCell ⟨qi, 3, none⟩ (.int .u64 (P.wrd I 3))) = w9 at BQi BQg BQs BQv W T BQx Ox BQy Oy Jy ⊢
      obtain ⟨m, hm⟩ : ∃ m, ol.length = m := ⟨_, rfl⟩
      have hfl := FLEN.out
      rw [hm] at hfl
      have hmp : 0 < m := by rw [← hm]; exact OPOS.out
      have hm2 : m ≤ 200 := by have := OPRE.out; rw [← hm, this, List.length_map]; have := P.pre2_len s n; omega
      have HM := Lib.hid hm
      rw [hfl.1, hfl.2.1, hfl.2.2] at BQy Oy ⊢
      rw [hm] at Jy ⊢
      have FL := Lib.hid hfl
      clear hfl hm BQx Ox
      have GY := Lib.hid (show GameV w9 (.agg #[.slice ya m yka, .slice yb m ykb, .slice yc m ykc]) F from Oy.out.game hff.out)
      obtain ⟨pa, pao, pak, pb, pbo, pbk, pc, pco, pck, hyv, hya, hyb, hyc⟩ := GY.out.open_ FL.out.1 FL.out.2.1 FL.out.2.2 hmp
      simp only [Value.agg.injEq, Array.mk.injEq, List.cons.injEq, Value.slice.injEq, and_true, true_and] at hyv
      obtain ⟨⟨rfl, rfl⟩, ⟨rfl, rfl⟩, rfl, rfl⟩ := hyv
      have YA := Lib.hid hya
      have YB := Lib.hid hyb
      have YC := Lib.hid hyc
      obtain ⟨qo, ko', hjo, -, -, -, -⟩ := own_form Jy.out hmp
      obtain ⟨rfl, -⟩ : yo = some ⟨qo, 0, none⟩ ∧ yko = ko' := by injection hjo with h1 h2 h3; exact ⟨h1, h3⟩
      have JI := Lib.hid (show Ints w9 (.slice (some ⟨qo, 0, none⟩) m yko) ol from OwnI.ints (show OwnI w9 w5.heap.size (.slice (some ⟨qo, 0, none⟩) m yko) ol by unfold OwnI; rw [HM.out]; exact Jy.out) (by rw [HM.out]; omega))
      clear hya hyb hyc hjo Oy
      have W9 := Lib.hid (Below.refl w9.heap.size w9)
      have HRZ := Lib.hid (right_zero HRF.out)
      have bb := BQy.out
      have pc0 : w9.cell? ⟨qy, 0, none⟩ = some (.slice (some ⟨pa, pao, none⟩) m yka) := bb.cell 0 _ rfl
      have pc1 : w9.cell? ⟨qy, 1, none⟩ = some (.slice (some ⟨pb, pbo, none⟩) m ykb) := bb.cell 1 _ rfl
      have pc2 : w9.cell? ⟨qy, 2, none⟩ = some (.slice (some ⟨pc, pco, none⟩) m ykc) := bb.cell 2 _ rfl
      clear bb
      go_wp2_with fail
      refine (right_any F _ _ GY.out).mono ?_
      rintro e w10 ⟨rfl, hb⟩
      rw [HRZ.out]
      have IV := Lib.hid ((InvY.mk BQg.out BQi.out BQy.out BQv.out W.out T.out W9.out : InvY w w9 qg qi qy qv I v #[.slice (some ⟨ga, gao, none⟩) n gak, .slice (some ⟨gb, gbo, none⟩) n gbk, .slice (some ⟨gc, gco, none⟩) n gck] #[.slice (some ⟨pa, pao, none⟩) m yka, .slice (some ⟨pb, pbo, none⟩) m ykb, .slice (some ⟨pc, pco, none⟩) m ykc] w9).on hb)
      clear hb pc0 pc1 pc2 BQg BQi BQy BQv W T W9 BQs
      go_upto_region 21 with (fail)
      have k0 : ∀ (d : Nat) (os : Array Obj), (grow (redrawn w10 d) os).cell? ⟨qy, 0, none⟩ = some (.slice (some ⟨pa, pao, none⟩) m yka) := fun d os => ((Lib.hid IV.out.fy).out.keep (grown_of_below (below_regrown w10 d os) none)).cell 0 _ rfl
      have k1 : ∀ (d : Nat) (os : Array Obj), (grow (redrawn w10 d) os).cell? ⟨qy, 1, none⟩ = some (.slice (some ⟨pb, pbo, none⟩) m ykb) := fun d os => ((Lib.hid IV.out.fy).out.keep (grown_of_below (below_regrown w10 d os) none)).cell 1 _ rfl
      have k2 : ∀ (d : Nat) (os : Array Obj), (grow (redrawn w10 d) os).cell? ⟨qy, 2, none⟩ = some (.slice (some ⟨pc, pco, none⟩) m ykc) := fun d os => ((Lib.hid IV.out.fy).out.keep (grown_of_below (below_regrown w10 d os) none)).cell 2 _ rfl
      have l0 : ∀ (d : Nat) (os : Array Obj), (grow (redrawn w10 d) os).cell? ⟨qi, 0, none⟩ = some (.int .u64 (P.wrd I 0)) := fun d os => ((Lib.hid IV.out.fi).out.keep (grown_of_below (below_regrown w10 d os) none)).cell 0 _ rfl
      have l1 : ∀ (d : Nat) (os : Array Obj), (grow (redrawn w10 d) os).cell? ⟨qi, 1, none⟩ = some (.int .u64 (P.wrd I 1)) := fun d os => ((Lib.hid IV.out.fi).out.keep (grown_of_below (below_regrown w10 d os) none)).cell 1 _ rfl
      have l2 : ∀ (d : Nat) (os : Array Obj), (grow (redrawn w10 d) os).cell? ⟨qi, 2, none⟩ = some (.int .u64 (P.wrd I 2)) := fun d os => ((Lib.hid IV.out.fi).out.keep (grown_of_below (below_regrown w10 d os) none)).cell 2 _ rfl
      have l3 : ∀ (d : Nat) (os : Array Obj), (grow (redrawn w10 d) os).cell? ⟨qi, 3, none⟩ = some (.int .u64 (P.wrd I 3)) := fun d os => ((Lib.hid IV.out.fi).out.keep (grown_of_below (below_regrown w10 d os) none)).cell 3 _ rfl
      have kO := rOf w10 (.slice (some ⟨qo, 0, none⟩) m yko) ol (JI.out.on IV.out.f9)
      rw [OFI0.out] at kO
      have n1 := fun w => (set_neq I I w).trans (by rw [decide_eq_true rfl])
      refine wp_region_quiet_below (by kernel_rfl) (by kernel_rfl) ?_
      repeat (first | go_big_quiet_step (first | (go_at_call 33; with_reducible exact kO _ _)) | quiet_step (first | (go_at_call 33; with_reducible exact kO _ _)))
      refine wpQuiet_nil ?_
      intro _ hw'
      obtain ⟨⟨dq, osq⟩, hw''⟩ := hw'
      subst hw''
      clear k0 k1 k2 l0 l1 l2 l3 kO n1
      replace IV := Lib.hid (IV.out.on (below_regrown w10 dq osq))
      generalize (grow (redrawn w10 dq) osq) = w11 at IV ⊢
      go_wp2_with fail
      go_loopw [22] (fun i wr => ∃ k : Nat, k ≤ m ∧ i = .int .i64 k ∧ InvY w w9 qg qi qy qv I v #[.slice (some ⟨ga, gao, none⟩) n gak, .slice (some ⟨gb, gbo, none⟩) n gbk, .slice (some ⟨gc, gco, none⟩) n gck] #[.slice (some ⟨pa, pao, none⟩) m yka, .slice (some ⟨pb, pbo, none⟩) m ykb, .slice (some ⟨pc, pco, none⟩) m ykc] wr) (fun i _ => m - (intOf i).toNat)
      case atStart => exact ⟨0, Nat.zero_le _, rfl, IV.out⟩
      case round =>
        obtain ⟨k, hk, rfl, hI⟩ := hrel
        obtain ⟨wo, rfl⟩ : ∃ wo, wo = wr := ⟨_, rfl⟩
        have IV := Lib.hid hI
        have hk0 : (0 : Int) ≤ (k : Int) := Int.natCast_nonneg _
        clear hI
        by_cases hlt : k < m
        · have fk : decide ((k : Int) < (m : Int)) = true := decide_eq_true (by omega)
          have il : (k : Int) < (m : Int) := by omega
          have hkol : k < (P.pre2 s n).length := by have := OPRE.out; have h2 := HM.out; rw [this, List.length_map] at h2; omega
          obtain ⟨xm, cxm, hxm⟩ := YC.out wo IV.out.f9 k hlt
          obtain ⟨l, hl⟩ : ∃ l, F.moves.getD k [] = l := ⟨_, rfl⟩
          rw [hl] at hxm
          have hrt := HRF.out.at k (by rw [FL.out.1]; exact hlt)
          rw [hl, FL.out.1] at hrt
          obtain ⟨-, -, -, hlne, hrise⟩ := hrt
          have hlb : l.length ≤ 200 := P.rise_len hrise hm2
          have hl0 : 0 < l.length := List.length_pos_iff.2 hlne
          obtain ⟨bx, ox, xk, rfl, hcx⟩ := hxm.open_ rfl hl0
          have HCX := Lib.hid hcx
          have HCM := Lib.hid cxm
          have HRISE := Lib.hid hrise
          have HL := Lib.hid hl
          clear hl hxm hcx cxm hrise hlne
          go_wp2_with fail
          go_loopw [23, 24] (fun bv i wr => ∃ j : Nat, j ≤ l.length ∧ i = .int .i64 j ∧ OwnI wr wo.heap.size bv (P.back (P.pre2 s n) (l.take j)) ∧ Below wo.heap.size wo wr) (fun _ i _ => l.length - (intOf i).toNat)
          case atStart => exact ⟨0, Nat.zero_le _, rfl, OwnI.nil _ _, Below.refl _ _⟩
          case round =>
            obtain ⟨j, hj, rfl, hown, hbl⟩ := hrel
            have hj0 : (0 : Int) ≤ (j : Int) := Int.natCast_nonneg _
            have HO := Lib.hid hown
            have HB := Lib.hid hbl
            replace IV := Lib.hid (IV.out.on hbl)
            clear hown hbl
            have bb := (Lib.hid IV.out.fy).out
            have pc0 : wr.cell? ⟨qy, 0, none⟩ = some (.slice (some ⟨pa, pao, none⟩) m yka) := bb.cell 0 _ rfl
            have pc1 : wr.cell? ⟨qy, 1, none⟩ = some (.slice (some ⟨pb, pbo, none⟩) m ykb) := bb.cell 1 _ rfl
            have pc2 : wr.cell? ⟨qy, 2, none⟩ = some (.slice (some ⟨pc, pco, none⟩) m ykc) := bb.cell 2 _ rfl
            clear bb
            have cm : wr.cell? ⟨pc, pco + k, none⟩ = some (.slice (some ⟨bx, ox, none⟩) l.length xk) := (grown_of_below HB.out none).cell HCM.out (by simp)
            by_cases hlj : j < l.length
            · have fj : decide ((j : Int) < (l.length : Int)) = true := decide_eq_true (by omega)
              have ij : (j : Int) < (l.length : Int) := by omega
              have cj := HCX.out wr HB.out j hlj
              have hmb := P.rise_bounds HRISE.out (l.getD j 0) (by rw [List.getD_eq_getElem?_getD, List.getElem?_eq_getElem hlj]; exact List.getElem_mem hlj)
              have htake : l.take (j + 1) = l.take j ++ [l.getD j 0] := by
                rw [List.take_succ_eq_append_getElem hlj, List.getD_eq_getElem?_getD, List.getElem?_eq_getElem hlj]
                rfl
              obtain ⟨mz, hmz⟩ : ∃ mz, l.getD j 0 = mz := ⟨_, rfl⟩
              rw [hmz] at cj hmb htake
              obtain ⟨mn, rfl⟩ := Int.eq_ofNat_of_zero_le (show 0 ≤ mz by omega)
              have hmn : mn < m := by omega
              have imn : (mn : Int) < (m : Int) := by omega
              have hmn0 : (0 : Int) ≤ (mn : Int) := Int.natCast_nonneg _
              obtain ⟨y, hy⟩ : ∃ y, (P.pre2 s n).getD mn 0 = y := ⟨_, rfl⟩
              have co := old_cell JI.out OPRE.out HM.out IV.out.f9 mn hmn hy
              have HT1 := Lib.hid htake
              have HY := Lib.hid hy
              have hbl2 : (P.back (P.pre2 s n) (l.take j)).length ≤ 200 := by unfold P.back; rw [List.length_map, List.length_take]; omega
              clear hmb htake hmz hy
              go_wp2_with (at_builtin; refine wpl_append elInt rfl (.tmp 147) (.tmp 159) rfl rfl (own_grown HO.out (World.grownBy_alloc _ _ none)) rfl (row_one _ _ _) ?_ ?_ ?_ ?_ ?_)
              · intro u hu; simp at hu; subst hu; rfl
              · simp; omega
              · simp; omega
              · have := HB.out.size; simp; omega
              intro v2 w7' hown hgr hat
              have HREL := Lib.hid (show OwnI w7' wo.heap.size v2 (P.back (P.pre2 s n) (l.take (j + 1))) ∧ Below wo.heap.size wo w7' from
                ⟨by
                  rw [HT1.out]
                  unfold P.back
                  rw [List.map_append]
                  show OwnI w7' wo.heap.size v2 (P.back (P.pre2 s n) (l.take j) ++ [(((P.pre2 s n).getD (mn : Int).toNat 0 : Nat) : Int)])
                  rw [Int.toNat_natCast, HY.out]
                  unfold OwnI
                  simpa using hown, HB.out.trans (((Below.refl wo.heap.size wr).alloc HB.out.size _).grown hgr (by have := HB.out.size; simp; omega) (fun p hp => (own_lt HO.out p hp).1))⟩)
              clear hown hgr hat
              go_wp2_with fail
              go_roundw
              case rel => exact ⟨j + 1, by omega, by go_num, HREL.out.1, HREL.out.2⟩
              case measure => simp [intOf]; omega
            · have fj : decide ((j : Int) < (l.length : Int)) = false := decide_eq_false (by omega)
              obtain ⟨xq, hxq⟩ : ∃ x, (P.pre2 s n).getD k 0 = x := ⟨_, rfl⟩
              have hxm := P.getD_mem hkol
              rw [hxq] at hxm
              have hxn : xq < n := ((P.pre2_mem s n xq).1 hxm).1
              have ixn : (xq : Int) < (n : Int) := by omega
              have hx0 : (0 : Int) ≤ (xq : Int) := Int.natCast_nonneg _
              obtain ⟨ml, hml⟩ : ∃ ml, g.moves.getD xq [] = ml := ⟨_, rfl⟩
              have hmin : ∀ y ∈ ml, 0 ≤ y ∧ y < (n : Int) := by
                have h1 := P.rise_in (HR.out.at xq (by rw [HN.out]; exact hxn)).2.2.2.2
                rw [hml, HN.out] at h1
                exact h1
              have hback : P.back (P.pre2 s n) (l.take j) = ml.filter (P.has s) := by
                rw [List.take_of_length_le (by omega), ← HL.out, ← HF.out]
                have hFW : FW g s = g.part s := by unfold FW; rw [if_pos HSS.out]
                have ho2 := P.old_pre2 g s (by rw [HN.out]; omega)
                rw [HN.out] at ho2
                have h1 := P.G.part_moves g s k (by rw [ho2]; exact hkol)
                rw [ho2, hxq, hml] at h1
                rw [hFW, h1]
                exact P.back_renum s n ml hmin
              have hofl := P.ofL_filter s n ml hmin
              rw [HI.out] at hofl
              have hpo : F.owner.getD k 0 = g.owner.getD xq 0 ∧ F.prio.getD k 0 = g.prio.getD xq 0 := by
                have hFW : FW g s = g.part s := by unfold FW; rw [if_pos HSS.out]
                have ho2 := P.old_pre2 g s (by rw [HN.out]; omega)
                rw [HN.out] at ho2
                have h1 := P.G.part_owner g s k (by rw [ho2]; exact hkol)
                have h2 := P.G.part_prio g s k (by rw [ho2]; exact hkol)
                rw [ho2, hxq] at h1 h2
                rw [← HF.out, hFW]
                exact ⟨h1, h2⟩
              have hown := HO.out
              rw [hback] at hown
              have hlen : (ml.filter (P.has s)).length ≤ 17592186043904 := by
                rw [← hback]
                unfold P.back
                rw [List.length_map, List.length_take]
                omega
              have hJB := OwnI.ints hown hlen
              obtain ⟨bvo, bvk, rfl, -⟩ := own_at hown
              obtain ⟨pa1, hpa1⟩ : ∃ z, g.owner.getD xq 0 = z := ⟨_, rfl⟩
              obtain ⟨pb1, hpb1⟩ : ∃ z, g.prio.getD xq 0 = z := ⟨_, rfl⟩
              have c1 := YA.out wr IV.out.f9 k hlt
              have c2 := YB.out wr IV.out.f9 k hlt
              have c3 := GA.out wr IV.out.fw xq hxn
              have c4 := GB.out wr IV.out.fw xq hxn
              obtain ⟨xv, c5, hxv⟩ := GC.out wr IV.out.fw xq hxn
              have c6 := old_cell JI.out OPRE.out HM.out IV.out.f9 k hlt hxq
              rw [hpo.1, hpa1] at c1
              rw [hpo.2, hpb1] at c2
              rw [hpa1] at c3
              rw [hpb1] at c4
              rw [hml] at hxv
              go_wp2_with fail
              clear pc0 pc1 pc2 cm
              have k0 : ∀ (d : Nat) (os : Array Obj), (grow (redrawn wr d) os).cell? ⟨qy, 0, none⟩ = some (.slice (some ⟨pa, pao, none⟩) m yka) := fun d os => ((Lib.hid IV.out.fy).out.keep (grown_of_below (below_regrown wr d os) none)).cell 0 _ rfl
              have k1 : ∀ (d : Nat) (os : Array Obj), (grow (redrawn wr d) os).cell? ⟨qy, 1, none⟩ = some (.slice (some ⟨pb, pbo, none⟩) m ykb) := fun d os => ((Lib.hid IV.out.fy).out.keep (grown_of_below (below_regrown wr d os) none)).cell 1 _ rfl
              have k2 : ∀ (d : Nat) (os : Array Obj), (grow (redrawn wr d) os).cell? ⟨qy, 2, none⟩ = some (.slice (some ⟨pc, pco, none⟩) m ykc) := fun d os => ((Lib.hid IV.out.fy).out.keep (grown_of_below (below_regrown wr d os) none)).cell 2 _ rfl
              have l0 : ∀ (d : Nat) (os : Array Obj), (grow (redrawn wr d) os).cell? ⟨qg, 0, none⟩ = some (.slice (some ⟨ga, gao, none⟩) n gak) := fun d os => ((Lib.hid IV.out.fg).out.keep (grown_of_below (below_regrown wr d os) none)).cell 0 _ rfl
              have l1 : ∀ (d : Nat) (os : Array Obj), (grow (redrawn wr d) os).cell? ⟨qg, 1, none⟩ = some (.slice (some ⟨gb, gbo, none⟩) n gbk) := fun d os => ((Lib.hid IV.out.fg).out.keep (grown_of_below (below_regrown wr d os) none)).cell 1 _ rfl
              have l2 : ∀ (d : Nat) (os : Array Obj), (grow (redrawn wr d) os).cell? ⟨qg, 2, none⟩ = some (.slice (some ⟨gc, gco, none⟩) n gck) := fun d os => ((Lib.hid IV.out.fg).out.keep (grown_of_below (below_regrown wr d os) none)).cell 2 _ rfl
              have m0 : ∀ (d : Nat) (os : Array Obj), (grow (redrawn wr d) os).cell? ⟨qi, 0, none⟩ = some (.int .u64 (P.wrd I 0)) := fun d os => ((Lib.hid IV.out.fi).out.keep (grown_of_below (below_regrown wr d os) none)).cell 0 _ rfl
              have m1 : ∀ (d : Nat) (os : Array Obj), (grow (redrawn wr d) os).cell? ⟨qi, 1, none⟩ = some (.int .u64 (P.wrd I 1)) := fun d os => ((Lib.hid IV.out.fi).out.keep (grown_of_below (below_regrown wr d os) none)).cell 1 _ rfl
              have m2 : ∀ (d : Nat) (os : Array Obj), (grow (redrawn wr d) os).cell? ⟨qi, 2, none⟩ = some (.int .u64 (P.wrd I 2)) := fun d os => ((Lib.hid IV.out.fi).out.keep (grown_of_below (below_regrown wr d os) none)).cell 2 _ rfl
              have m3 : ∀ (d : Nat) (os : Array Obj), (grow (redrawn wr d) os).cell? ⟨qi, 3, none⟩ = some (.int .u64 (P.wrd I 3)) := fun d os => ((Lib.hid IV.out.fi).out.keep (grown_of_below (below_regrown wr d os) none)).cell 3 _ rfl
              have r1 := fun d os => cell_regrown c1 d os
              have r2 := fun d os => cell_regrown c2 d os
              have r3 := fun d os => cell_regrown c3 d os
              have r4 := fun d os => cell_regrown c4 d os
              have r5 := fun d os => cell_regrown c5 d os
              have r6 := fun d os => cell_regrown c6 d os
              have f1 : (pa1 != pa1) = false := by simp
              have f2 : (pb1 != pb1) = false := by simp
              have kO := rOf wr _ _ hJB
              rw [hofl] at kO
              have kP := rOf wr _ _ hxv
              have kA := rAnd wr (P.ofL ml) I
              have n1 := fun w => (set_neq (P.ofL ml &&& I) (P.ofL ml &&& I) w).trans (by rw [decide_eq_true rfl])
              generalize (P.ofL ml &&& I) = B at kO kA n1
              generalize P.ofL ml = M at kP kA
              clear c1 c2 c3 c4 c5 c6 hJB hown hback hofl hpo hxv hpa1 hpb1 hmin hml hxm hxq HO hlen
              refine wp_region_quiet_below (by kernel_rfl) (by kernel_rfl) ?_
              repeat (first | go_big_quiet_step (first | (go_at_call 33; with_reducible exact kO _ _) | (go_at_call 33; with_reducible exact kP _ _) | (go_at_call 31; with_reducible exact kA _ _)) | quiet_step (first | (go_at_call 33; with_reducible exact kO _ _) | (go_at_call 33; with_reducible exact kP _ _) | (go_at_call 31; with_reducible exact kA _ _)))
              refine wpQuiet_nil ?_
              intro _ hw'
              obtain ⟨⟨dq, osq⟩, hw''⟩ := hw'
              subst hw''
              clear k0 k1 k2 l0 l1 l2 m0 m1 m2 m3 r1 r2 r3 r4 r5 r6 f1 f2 kO kP kA n1
              replace IV := Lib.hid (IV.out.on (below_regrown wr dq osq))
              generalize (grow (redrawn wr dq) osq) = wq at IV ⊢
              go_wp2_with fail
              go_roundw
              case rel => exact ⟨k + 1, by omega, by go_num, IV.out⟩
              case measure => simp [intOf]; omega
        · obtain rfl : k = m := by omega
          have fk : decide ((k : Int) < (k : Int)) = false := decide_eq_false (Int.lt_irrefl _)
          have bb := (Lib.hid IV.out.fy).out
          have pc0 : wo.cell? ⟨qy, 0, none⟩ = some (.slice (some ⟨pa, pao, none⟩) k yka) := bb.cell 0 _ rfl
          have pc1 : wo.cell? ⟨qy, 1, none⟩ = some (.slice (some ⟨pb, pbo, none⟩) k ykb) := bb.cell 1 _ rfl
          have pc2 : wo.cell? ⟨qy, 2, none⟩ = some (.slice (some ⟨pc, pco, none⟩) k ykc) := bb.cell 2 _ rfl
          clear bb
          have bb := (Lib.hid IV.out.fv).out
          have sc0 : wo.cell? ⟨qv, 0, none⟩ = some (.int .u64 (P.wrd v 0)) := bb.cell 0 _ rfl
          have sc1 : wo.cell? ⟨qv, 1, none⟩ = some (.int .u64 (P.wrd v 1)) := bb.cell 1 _ rfl
          have sc2 : wo.cell? ⟨qv, 2, none⟩ = some (.int .u64 (P.wrd v 2)) := bb.cell 2 _ rfl
          have sc3 : wo.cell? ⟨qv, 3, none⟩ = some (.int .u64 (P.wrd v 3)) := bb.cell 3 _ rfl
          clear bb
          have PB := P.part_both HR.out HSS.out v
          have hFW : FW g s = g.part s := by unfold FW; rw [if_pos HSS.out]
          rw [HF.out] at hFW
          rw [← hFW, HN.out] at PB
          have hklen : (P.pre2 s n).length = k := by have := OPRE.out; have h2 := HM.out; rw [this, List.length_map] at h2; exact h2
          obtain ⟨BS, hBS⟩ : ∃ B, P.bset s v n = B := ⟨_, rfl⟩
          rw [hBS, hklen] at PB
          obtain ⟨h2, hh2⟩ : ∃ b, F.has v = b := ⟨_, rfl⟩
          obtain ⟨F2, hF2⟩ : ∃ F2, FW F v = F2 := ⟨_, rfl⟩
          obtain ⟨ol2, hol2⟩ : ∃ l, OLW F v = l := ⟨_, rfl⟩
          obtain ⟨ol3, hol3⟩ : ∃ l, OLW g BS = l := ⟨_, rfl⟩
          have HF3 := Lib.hid (show FW g BS = F2 by rw [← hF2]; unfold FW; rw [PB.1, PB.2.1])
          have HH3 := Lib.hid (show g.has BS = h2 by rw [← PB.1]; exact hh2)
          have HOO := Lib.hid (olw_both s v n k F g BS ol2 ol3 PB.1 PB.2.2.1 PB.2.2.2 hklen hol2 hol3)
          have HLE := Lib.hid HOO.out.1
          have HL2 := Lib.hid (show ol2.length ≤ 256 by rw [← hol2]; exact len_olw F v)
          have HL3 := Lib.hid (show ol3.length ≤ 256 by rw [← hol3]; exact len_olw g BS)
          have hf2 := Lib.hid (show Fits F2 by rw [← hF2]; exact fits_fw hff.out v)
          have HH2 := Lib.hid hh2
          have HF2 := Lib.hid hF2
          have HO2 := Lib.hid hol2
          have HO3 := Lib.hid hol3
          have HBS0 := Lib.hid hBS
          clear PB hFW hh2 hF2 hol2 hol3 hBS
          go_wp2_with fail
          refine (subw_any F v _ _ (GY.out.on IV.out.f9) IV.out.ft).mono ?_
          rintro e wz ⟨u, rfl, hsub, hb⟩
          rw [HF2.out, HO2.out, HH2.out] at hsub
          obtain ⟨za, zka, zb, zkb, zc, zkc, zo, zko, zL, rfl, ho, hol⟩ := hsub
          replace IV := Lib.hid (IV.out.on hb)
          have Oz := Lib.hid ho
          have Jz := Lib.hid hol
          clear hb ho hol pc0 pc1 pc2 sc0 sc1 sc2 sc3 fk hlt
          go_upto_region 34 with (fail)
          replace IV := Lib.hid (IV.out.on (below_of_grown (World.grownBy_alloc wz (.cells #[.slice za F2.owner.length zka, .slice zb F2.prio.length zkb, .slice zc F2.moves.length zkc] 25) none)))
          have bq : Box (wz.alloc (.cells #[.slice za F2.owner.length zka, .slice zb F2.prio.length zkb, .slice zc F2.moves.length zkc] 25)) wz.heap.size 25 #[.slice za F2.owner.length zka, .slice zb F2.prio.length zkb, .slice zc F2.moves.length zkc] := Box.new _ _ _
          have hgq := World.grownBy_alloc wz (.cells #[.slice za F2.owner.length zka, .slice zb F2.prio.length zkb, .slice zc F2.moves.length zkc] 25) none
          replace Oz := Lib.hid (Oz.out.grown hgq)
          have Jz := Lib.hid (own_grown Jz.out hgq)
          generalize (wz.alloc (.cells #[.slice za F2.owner.length zka, .slice zb F2.prio.length zkb, .slice zc F2.moves.length zkc] 25)) = wy at bq IV Jz Oz ⊢
          generalize wz.heap.size = qz at bq ⊢
          have BQz := Lib.hid bq
          clear bq hgq
          have Wb := Lib.hid (Below.refl wy.heap.size wy)
          go_wp2_with fail
          go_loopw [28, 29] (fun bv i wr => ∃ j : Nat, j ≤ k ∧ i = .int .i64 j ∧ OwnI wr wy.heap.size bv (P.back (P.pre2 s n) ((P.pre2 v j).map fun (i : Nat) => (i : Int))) ∧ Below wy.heap.size wy wr) (fun _ i _ => k - (intOf i).toNat)
          case atStart => exact ⟨0, Nat.zero_le _, rfl, OwnI.nil _ _, Below.refl _ _⟩
          case round =>
            obtain ⟨j, hj, rfl, hown, hbl⟩ := hrel
            have hj0 : (0 : Int) ≤ (j : Int) := Int.natCast_nonneg _
            have HO := Lib.hid hown
            have HB := Lib.hid hbl
            replace IV := Lib.hid (IV.out.on hbl)
            clear hown hbl
            by_cases hlj : j < k
            · have fj : decide ((j : Int) < (k : Int)) = true := decide_eq_true (by omega)
              have ij : (j : Int) < (k : Int) := by omega
              have bb := (Lib.hid IV.out.fv).out
              have sc0 : wr.cell? ⟨qv, 0, none⟩ = some (.int .u64 (P.wrd v 0)) := bb.cell 0 _ rfl
              have sc1 : wr.cell? ⟨qv, 1, none⟩ = some (.int .u64 (P.wrd v 1)) := bb.cell 1 _ rfl
              have sc2 : wr.cell? ⟨qv, 2, none⟩ = some (.int .u64 (P.wrd v 2)) := bb.cell 2 _ rfl
              have sc3 : wr.cell? ⟨qv, 3, none⟩ = some (.int .u64 (P.wrd v 3)) := bb.cell 3 _ rfl
              clear bb
              go_wp2_with fail
              refine (has_any v (j : Int) _).mono ?_
              rintro e wh ⟨rfl, hb⟩
              have HO := Lib.hid (own_grown HO.out (grown_of_below hb none))
              replace HB := Lib.hid (HB.out.trans (hb.mono HB.out.size))
              replace IV := Lib.hid (IV.out.on hb)
              rw [P.has_nat]
              clear hb sc0 sc1 sc2 sc3
              obtain ⟨bt, hbt⟩ : ∃ b, v.getLsbD j = b := ⟨_, rfl⟩
              rw [hbt]
              have HBT := Lib.hid hbt
              clear hbt
              cases bt with
              | false =>
                have HREL := Lib.hid (show OwnI wh wy.heap.size _ (P.back (P.pre2 s n) ((P.pre2 v (j + 1)).map fun (i : Nat) => (i : Int))) by rw [P.pre2_succ, if_neg (by rw [HBT.out]; decide)]; exact HO.out)
                go_wp2_with fail
                go_roundw
                case rel => exact ⟨j + 1, by omega, by go_num, HREL.out, HB.out⟩
                case measure => simp [intOf]; omega
              | true =>
                obtain ⟨y, hy⟩ : ∃ y, (P.pre2 s n).getD j 0 = y := ⟨_, rfl⟩
                have co := old_cell JI.out OPRE.out HM.out IV.out.f9 j hlj hy
                have HY := Lib.hid hy
                have hbl2 : (P.back (P.pre2 s n) ((P.pre2 v j).map fun (i : Nat) => (i : Int))).length ≤ 200 := by
                  unfold P.back
                  rw [List.length_map, List.length_map]
                  have := P.pre2_len v j
                  omega
                clear hy
                go_wp2_with (at_builtin; refine wpl_append elInt rfl (.tmp 223) (.tmp 228) rfl rfl (own_grown HO.out (World.grownBy_alloc _ _ none)) rfl (row_one _ _ _) ?_ ?_ ?_ ?_ ?_)
                · intro u hu; simp at hu; subst hu; rfl
                · simp; omega
                · simp; omega
                · have := HB.out.size; simp; omega
                intro v2 w7' hown hgr hat
                have HREL := Lib.hid (show OwnI w7' wy.heap.size v2 (P.back (P.pre2 s n) ((P.pre2 v (j + 1)).map fun (i : Nat) => (i : Int))) ∧ Below wy.heap.size wy w7' from
                  ⟨by
                    rw [P.pre2_succ, if_pos HBT.out, List.map_append]
                    unfold P.back
                    rw [List.map_append]
                    show OwnI w7' wy.heap.size v2 (P.back (P.pre2 s n) ((P.pre2 v j).map fun (i : Nat) => (i : Int)) ++ [(((P.pre2 s n).getD (j : Int).toNat 0 : Nat) : Int)])
                    rw [Int.toNat_natCast, HY.out]
                    unfold OwnI
                    simpa using hown, HB.out.trans (((Below.refl wy.heap.size wh).alloc HB.out.size _).grown hgr (by have := HB.out.size; simp; omega) (fun p hp => (own_lt HO.out p hp).1))⟩)
                clear hown hgr hat
                go_wp2_with fail
                go_roundw
                case rel => exact ⟨j + 1, by omega, by go_num, HREL.out.1, HREL.out.2⟩
                case measure => simp [intOf]; omega
            · obtain rfl : j = k := by omega
              have fj : decide ((j : Int) < (j : Int)) = false := decide_eq_false (Int.lt_irrefl _)
              have hown := HO.out
              obtain ⟨bl, hbll⟩ : ∃ bl, (P.back (P.pre2 s n) ((P.pre2 v j).map fun (i : Nat) => (i : Int))).length = bl := ⟨_, rfl⟩
              have hbl9 : bl ≤ 200 := by
                rw [← hbll]
                unfold P.back
                rw [List.length_map, List.length_map]
                have := P.pre2_len v j
                omega
              have hJB := OwnI.ints hown (by rw [hbll]; omega)
              obtain ⟨bvo, bvk, rfl, -⟩ := own_at hown
              rw [hbll] at hJB ⊢
              have JB := Lib.hid hJB
              have HBS := Lib.hid (show P.ofL (P.back (P.pre2 s n) ((P.pre2 v j).map fun (i : Nat) => (i : Int))) = BS by
                rw [← HBS0.out]
                exact bset_back s v n j hklen)
              have BQg := Lib.hid IV.out.fg
              have W := Lib.hid IV.out.fw
              have T := Lib.hid IV.out.ft
              replace Oz := Lib.hid (Oz.out.grown (grown_of_below HB.out none))
              have Jz := Lib.hid (own_grown Jz.out (grown_of_below HB.out none))
              replace BQz := Lib.hid (BQz.out.keep (grown_of_below HB.out none))
              have Wb := Lib.hid (IV.out.f9)
              clear hown hbll hJB HO HB fj
              go_wp2_with fail
              obtain ⟨wb, rfl⟩ : ∃ wb, wb = wr := ⟨_, rfl⟩
              refine Rk.wp_region_lit (fun idx => match idx with | 0 => (fun v _ _ => v = (.agg #[.slice (some ⟨ga, gao, none⟩) n gak, .slice (some ⟨gb, gbo, none⟩) n gbk, .slice (some ⟨gc, gco, none⟩) n gck])) | 1 => (fun v _ _ => v = (.slice bvo bl bvk)) | 2 => (fun v _ _ => v = (.agg #[.int .u64 (P.wrd BS 0), .int .u64 (P.wrd BS 1), .int .u64 (P.wrd BS 2), .int .u64 (P.wrd BS 3)])) | 3 => (fun v _ w' => SubW (F2) (ol3) (h2) wb.heap.size v w') | 4 => (fun v ds w' => v = ds.getD 0 undef ∧ SubW (F2) (ol3) (h2) wb.heap.size v w') | 5 => (fun v ds _ => v = tupleAt (ds.getD 0 undef) 0) | 6 => (fun v ds _ => v = tupleAt (ds.getD 0 undef) 1) | 7 => (fun v ds _ => v = tupleAt (ds.getD 0 undef) 2) | 8 => (fun v _ _ => ∃ p, v = .pointer (some ⟨p, 0, none⟩) ∧ wb.heap.size ≤ p) | 9 => (fun _ ds w' => ∃ p a1 k1 b1 k2 c1 k3, ds.getD 0 undef = .pointer (some ⟨p, 0, none⟩) ∧ ds.getD 1 undef = .agg #[.slice a1 (F2).owner.length k1, .slice b1 (F2).prio.length k2, .slice c1 (F2).moves.length k3] ∧ Box w' p 25 #[.slice a1 (F2).owner.length k1, .slice b1 (F2).prio.length k2, .slice c1 (F2).moves.length k3]) | 10 => (fun v ds _ => v = ds.getD 0 undef) | _ => fun _ _ _ => True) (fun idx => match idx with | 8 => (fun v _ w' => ∃ p, v = .pointer (some ⟨p, 0, none⟩) ∧ Box w' p 25 #[.slice none 0 0, .slice none 0 0, .slice none 0 0]) | _ => fun _ _ _ => True) (KG wb.heap.size 25) 9 (by kernel_rfl) (by rfl) (by kernel_rfl) (by rfl) ?_ ?_ ?_ ?_
              · refine ⟨?_, ?_, ?_, ?_, ?_, ?_, ?_, ?_, ?_, ?_, ?_, trivial⟩
                · intro A w' K vals h hn hT hgk hK0
                  have hg : wb.grownBy w' none := keeps_old hgk
                  have hK := fun v u (h1 : w'.grownBy u none) h2 => hK0 v u (Rk.keep_of h1) h2 trivial
                  clear hT hgk hK0
                  have r0 : A.tmps[3]?.getD undef = .pointer (some ⟨qg, 0, none⟩) := Rg.slot h.1
                  have b := BQg.out.keep hg
                  have cc0 : w'.cell? ⟨qg, 0, none⟩ = some (.slice (some ⟨ga, gao, none⟩) n gak) := b.cell 0 _ rfl
                  have cc1 : w'.cell? ⟨qg, 1, none⟩ = some (.slice (some ⟨gb, gbo, none⟩) n gbk) := b.cell 1 _ rfl
                  have cc2 : w'.cell? ⟨qg, 2, none⟩ = some (.slice (some ⟨gc, gco, none⟩) n gck) := b.cell 2 _ rfl
                  clear h hn hg b
                  simp [Oper.wp, execOp, go_sem, r0, cc0, cc1, cc2]
                  exact hK _ _ (Rg.grown_refl _ _) rfl
                · intro A w' K vals h hn hT hgk hK0
                  have hg : wb.grownBy w' none := keeps_old hgk
                  have hK := fun v u (h1 : w'.grownBy u none) h2 => hK0 v u (Rk.keep_of h1) h2 trivial
                  clear hT hgk hK0
                  have r0 : A.tmps[28]?.getD undef = (.slice bvo bl bvk) := Rg.slot (h.1)
                  clear h hn hg
                  simp [Oper.wp, execOp, go_sem, r0]
                  exact hK _ _ (Rg.grown_refl _ _) rfl
                · intro A w' K vals h hn hT hgk hK0
                  have hg : wb.grownBy w' none := keeps_old hgk
                  have hK := fun v u (h1 : w'.grownBy u none) h2 => hK0 v u (Rk.keep_of h1) h2 trivial
                  clear hT hgk hK0
                  have r0 : A.tmps[232]?.getD undef = vals 1 := Rg.slot h.2.1
                  have s0 : vals 1 = .slice bvo bl bvk := hn.1
                  clear h hn
                  simp [Oper.wp, go_sem, r0, s0]
                  refine (of_ints (JB.out.on (below_of_grown hg))).mono ?_
                  rintro e w'' ⟨rfl, hb⟩
                  rw [HBS.out]
                  exact hK _ _ (grown_of_below hb _) rfl
                · intro A w' K vals h hn hT hgk hK0
                  have hg : wb.grownBy w' none := keeps_old hgk
                  have hK := fun v u (h1 : w'.grownBy u none) h2 => hK0 v u (Rk.keep_of h1) h2 trivial
                  clear hT hgk hK0
                  have r0 : A.tmps[231]?.getD undef = vals 0 := Rg.slot h.2.1
                  have r1 : A.tmps[233]?.getD undef = vals 2 := Rg.slot h.2.2.1
                  have s0 : vals 0 = .agg #[.slice (some ⟨ga, gao, none⟩) n gak, .slice (some ⟨gb, gbo, none⟩) n gbk, .slice (some ⟨gc, gco, none⟩) n gck] := hn.1
                  have s1 : vals 2 = (.agg #[.int .u64 (P.wrd BS 0), .int .u64 (P.wrd BS 1), .int .u64 (P.wrd BS 2), .int .u64 (P.wrd BS 3)]) := hn.2.1
                  clear h hn
                  simp [Oper.wp, go_sem, r0, r1, s0, s1]
                  refine (subw_any g BS (.agg #[.slice (some ⟨ga, gao, none⟩) n gak, .slice (some ⟨gb, gbo, none⟩) n gbk, .slice (some ⟨gc, gco, none⟩) n gck]) w' (HV.out.on (W.out.trans ((below_of_grown hg).mono W.out.size))) (T.out.on (below_of_grown hg))).mono ?_
                  rintro e w'' ⟨u, rfl, hu, hb⟩
                  rw [HF3.out, HO3.out, HH3.out] at hu
                  exact hK _ _ (grown_of_below hb _) (hu.low hg.size)
                · intro A w' K vals h hn hT hgk hK0
                  have hg : wb.grownBy w' none := keeps_old hgk
                  have hK := fun v u (h1 : w'.grownBy u none) h2 => hK0 v u (Rk.keep_of h1) h2 trivial
                  clear hT hgk hK0
                  have r0 : A.tmps[234]?.getD undef = vals 3 := Rg.slot h.1
                  have n3 : SubW (F2) (ol3) (h2) wb.heap.size (vals 3) w' := hn.1
                  clear h hn hg
                  simp [Oper.wp, execOp, go_sem, r0]
                  exact hK _ _ (Rg.grown_refl _ _) ⟨rfl, n3⟩
                · intro A w' K vals h hn hT hgk hK0
                  have hg : wb.grownBy w' none := keeps_old hgk
                  have hK := fun v u (h1 : w'.grownBy u none) h2 => hK0 v u (Rk.keep_of h1) h2 trivial
                  clear hT hgk hK0
                  have r0 : A.tmps[230]?.getD undef = vals 4 := Rg.slot h.1
                  obtain ⟨a1, k1, b1, k2, c1, k3, x1, k4, L, hv, -, -⟩ : SubW (F2) (ol3) (h2) wb.heap.size (vals 4) w' := hn.1.2
                  clear h hn hg
                  simp [Oper.wp, execOp, go_sem, r0, hv]
                  refine hK _ _ (Rg.grown_refl _ _) ?_
                  show _ = tupleAt (vals 4) 0
                  rw [hv]
                  rfl
                · intro A w' K vals h hn hT hgk hK0
                  have hg : wb.grownBy w' none := keeps_old hgk
                  have hK := fun v u (h1 : w'.grownBy u none) h2 => hK0 v u (Rk.keep_of h1) h2 trivial
                  clear hT hgk hK0
                  have r0 : A.tmps[230]?.getD undef = vals 4 := Rg.slot h.1
                  obtain ⟨a1, k1, b1, k2, c1, k3, x1, k4, L, hv, -, -⟩ : SubW (F2) (ol3) (h2) wb.heap.size (vals 4) w' := hn.1.2
                  clear h hn hg
                  simp [Oper.wp, execOp, go_sem, r0, hv]
                  refine hK _ _ (Rg.grown_refl _ _) ?_
                  show _ = tupleAt (vals 4) 1
                  rw [hv]
                  rfl
                · intro A w' K vals h hn hT hgk hK0
                  have hg : wb.grownBy w' none := keeps_old hgk
                  have hK := fun v u (h1 : w'.grownBy u none) h2 => hK0 v u (Rk.keep_of h1) h2 trivial
                  clear hT hgk hK0
                  have r0 : A.tmps[230]?.getD undef = vals 4 := Rg.slot h.1
                  obtain ⟨a1, k1, b1, k2, c1, k3, x1, k4, L, hv, -, -⟩ : SubW (F2) (ol3) (h2) wb.heap.size (vals 4) w' := hn.1.2
                  clear h hn hg
                  simp [Oper.wp, execOp, go_sem, r0, hv]
                  refine hK _ _ (Rg.grown_refl _ _) ?_
                  show _ = tupleAt (vals 4) 2
                  rw [hv]
                  rfl
                · intro A w' K vals h hn hT hgk hK0
                  clear h hn hT
                  simp [Oper.wp, execOp, go_sem]
                  exact hK0 _ _ (Rk.keep_of (World.grownBy_alloc _ _ _)) ⟨_, rfl, hgk.size⟩ ⟨_, rfl, Box.new _ _ _⟩
                · intro A w' K vals h hn hT hgk hK0
                  have r0 : A.tmps[30]?.getD undef = vals 8 := Rg.slot h.1
                  have r1 : A.tmps[235]?.getD undef = vals 5 := Rg.slot h.2.1
                  obtain ⟨p, hp, hbx⟩ : ∃ p, vals 8 = .pointer (some ⟨p, 0, none⟩) ∧ Box w' p 25 #[.slice none 0 0, .slice none 0 0, .slice none 0 0] := (hT rfl).1
                  obtain ⟨p', hp', hlo⟩ : ∃ p, vals 8 = .pointer (some ⟨p, 0, none⟩) ∧ wb.heap.size ≤ p := hn.1
                  have s5 : vals 5 = tupleAt (vals 4) 0 := hn.2.1
                  obtain ⟨a1, k1, b1, k2, c1, k3, x1, k4, L, s3, ho, hi⟩ : SubW (F2) (ol3) (h2) wb.heap.size (vals 4) w' := hn.2.2.2.2.2.2.2.1.2
                  rw [s3] at s5
                  have s5 : vals 5 = .agg #[.slice a1 (F2).owner.length k1, .slice b1 (F2).prio.length k2, .slice c1 (F2).moves.length k3] := s5
                  obtain rfl : p' = p := by rw [hp'] at hp; injection hp with hp; injection hp with hp; injection hp with hp
                  clear h hn hT ho hi s3
                  have qc0 : w'.cell? ⟨p', 0, none⟩ = some (.slice none 0 0) := hbx.cell 0 _ rfl
                  have qc1 : w'.cell? ⟨p', 1, none⟩ = some (.slice none 0 0) := hbx.cell 1 _ rfl
                  have qc2 : w'.cell? ⟨p', 2, none⟩ = some (.slice none 0 0) := hbx.cell 2 _ rfl
                  have qf0 : w'.frozen? ⟨p', 0, none⟩ = false := hbx.frozen 0
                  have qf1 : w'.frozen? ⟨p', 1, none⟩ = false := hbx.frozen 1
                  have qf2 : w'.frozen? ⟨p', 2, none⟩ = false := hbx.frozen 2
                  simp [Oper.wp, execOp, go_sem, r0, r1, hp', s5, qc0, qc1, qc2, qf0, qf1, qf2]
                  refine hK0 undef _ (((keeps_set hbx hlo _ _).trans (keeps_set (hbx.set _ _) hlo _ _)).trans (keeps_set ((hbx.set _ _).set _ _) hlo _ _)) ⟨p', a1, k1, b1, k2, c1, k3, hp', s5, (((hbx.set 0 (.slice a1 (F2).owner.length k1)).set 1 (.slice b1 (F2).prio.length k2)).set 2 (.slice c1 (F2).moves.length k3))⟩ trivial
                · intro A w' K vals h hn hT hgk hK0
                  have hg : wb.grownBy w' none := keeps_old hgk
                  have hK := fun v u (h1 : w'.grownBy u none) h2 => hK0 v u (Rk.keep_of h1) h2 trivial
                  clear hT hgk hK0
                  have r0 : A.tmps[236]?.getD undef = vals 6 := Rg.slot h.1
                  clear h hn hg
                  simp [Oper.wp, execOp, go_sem, r0]
                  exact hK _ _ (Rg.grown_refl _ _) rfl
              · refine ⟨?_, ?_, ?_, ?_, ?_, ?_, ?_, ?_, ?_, ?_, ?_, trivial⟩
                · exact fun _ _ _ _ _ _ h => h
                · exact fun _ _ _ _ _ _ h => h
                · exact fun _ _ _ _ _ _ h => h
                · exact fun _ _ _ _ _ h hu => hu.other h (by decide) (by decide)
                · exact fun _ _ _ _ _ h hu => ⟨hu.1, hu.2.other h (by decide) (by decide)⟩
                · exact fun _ _ _ _ _ _ h => h
                · exact fun _ _ _ _ _ _ h => h
                · exact fun _ _ _ _ _ _ h => h
                · exact fun _ _ _ _ _ _ h => h
                · exact fun _ _ _ _ _ h ⟨p, a1, k1, b1, k2, c1, k3, h1, h2, hb⟩ => ⟨p, a1, k1, b1, k2, c1, k3, h1, h2, hb.keep (Rk.grown_of h)⟩
                · exact fun _ _ _ _ _ _ h => h
              · intro k v ds w w' hk h
                match k, h with
                | 8, h => exact ⟨h.choose, h.choose_spec.1, h.choose_spec.2.keep (Rk.grown_of hk)⟩
                | 0, _ | 1, _ | 2, _ | 3, _ | 4, _ | 5, _ | 6, _ | 7, _ | _ + 9, _ => trivial
              · intro vals wc G hgk hS hG
                have hg := keeps_old hgk
                obtain ⟨ea, eka, eb, ekb, ec, ekc, eo, eko, eL, s3, ho, hi⟩ : SubW (F2) (ol3) (h2) wb.heap.size (vals 4) wc := (hS.2.2.2.2.1).2
                have s5 : vals 5 = tupleAt (vals 4) 0 := hS.2.2.2.2.2.1
                have s6 : vals 6 = tupleAt (vals 4) 1 := hS.2.2.2.2.2.2.1
                have s7 : vals 7 = tupleAt (vals 4) 2 := hS.2.2.2.2.2.2.2.1
                obtain ⟨qe, a1', k1', b1', k2', c1', k3', s8, s5', hb5⟩ : ∃ p a1 k1 b1 k2 c1 k3, vals 8 = .pointer (some ⟨p, 0, none⟩) ∧ vals 5 = .agg #[.slice a1 (F2).owner.length k1, .slice b1 (F2).prio.length k2, .slice c1 (F2).moves.length k3] ∧ Box wc p 25 #[.slice a1 (F2).owner.length k1, .slice b1 (F2).prio.length k2, .slice c1 (F2).moves.length k3] := hS.2.2.2.2.2.2.2.2.2.1
                have s10 : vals 10 = vals 6 := hS.2.2.2.2.2.2.2.2.2.2.1
                clear hS
                rw [s3] at s5 s6 s7
                have s5 : vals 5 = .agg #[.slice ea (F2).owner.length eka, .slice eb (F2).prio.length ekb, .slice ec (F2).moves.length ekc] := s5
                have s6 : vals 6 = .slice eo (ol3).length eko := s6
                have s7 : vals 7 = .bool (h2) := s7
                rw [s5] at s5'
                simp only [Value.agg.injEq, Array.mk.injEq, List.cons.injEq, Value.slice.injEq, and_true, true_and] at s5'
                obtain ⟨⟨rfl, rfl⟩, ⟨rfl, rfl⟩, rfl, rfl⟩ := s5'
                rw [s6] at s10
                replace BQg := Lib.hid (BQg.out.keep (grown_of_below (below_of_grown hg) none))
                replace W := Lib.hid (W.out.trans ((below_of_grown hg).mono W.out.size))
                replace T := Lib.hid (T.out.on (below_of_grown hg))
                replace BQz := Lib.hid (BQz.out.keep (grown_of_below (below_of_grown hg) none))
                replace Oz := Lib.hid (Oz.out.grown (grown_of_below (below_of_grown hg) none))
                have Jz := Lib.hid (own_grown Jz.out (grown_of_below (below_of_grown hg) none))
                replace Wb := Lib.hid (Wb.out.trans ((below_of_grown hg).mono Wb.out.size))
                have BQe := Lib.hid hb5
                have Oe := Lib.hid ho
                have Je := Lib.hid hi
                clear hb5 ho hi hgk hg
                refine hG ?_
                clear hG
                simp [Rg.putAll, Oper.wp, execOp, go_sem, s5, s6, s7, s8, s10]
                clear s3 s5 s6 s7 s8 s10
                have fh : (h2 != h2) = false := by simp
                have bb := BQz.out
                have pc0 : wc.cell? ⟨qz, 0, none⟩ = some (.slice za F2.owner.length zka) := bb.cell 0 _ rfl
                have pc1 : wc.cell? ⟨qz, 1, none⟩ = some (.slice zb F2.prio.length zkb) := bb.cell 1 _ rfl
                have pc2 : wc.cell? ⟨qz, 2, none⟩ = some (.slice zc F2.moves.length zkc) := bb.cell 2 _ rfl
                clear bb
                have bb := BQe.out
                have rc0 : wc.cell? ⟨qe, 0, none⟩ = some (.slice ea F2.owner.length eka) := bb.cell 0 _ rfl
                have rc1 : wc.cell? ⟨qe, 1, none⟩ = some (.slice eb F2.prio.length ekb) := bb.cell 1 _ rfl
                have rc2 : wc.cell? ⟨qe, 2, none⟩ = some (.slice ec F2.moves.length ekc) := bb.cell 2 _ rfl
                clear bb
                go_wp2_with fail
                refine (samegame_any F2 F2 _ _ _ (Oz.out.game hf2.out) (Oe.out.game hf2.out)).mono ?_
                rintro e wd ⟨rfl, hb⟩
                rw [decide_eq_true rfl]
                replace W := Lib.hid (W.out.trans (hb.mono W.out.size))
                have Jz := Lib.hid (own_grown Jz.out (grown_of_below hb none))
                have Je := Lib.hid (own_grown Je.out (grown_of_below hb none))
                replace Wb := Lib.hid (Wb.out.trans (hb.mono Wb.out.size))
                clear hb pc0 pc1 pc2 rc0 rc1 rc2 fh
                have JZ := Lib.hid (OwnI.ints Jz.out (show ol2.length ≤ 17592186043904 by have := HL2.out; omega))
                have JE := Lib.hid (OwnI.ints Je.out (show ol3.length ≤ 17592186043904 by have := HL3.out; omega))
                have Wd := Lib.hid (Below.refl wd.heap.size wd)
                obtain ⟨c2, hc2⟩ : ∃ c, ol2.length = c := ⟨_, rfl⟩
                have hc3 : ol3.length = c2 := by rw [← HLE.out]; exact hc2
                have HC2 := Lib.hid hc2
                have HC3 := Lib.hid hc3
                rw [hc2, hc3]
                have hc256 : c2 ≤ 256 := by rw [← hc2]; exact HL2.out
                clear hc2 hc3 Jz Je BQz BQe Oz Oe
                rw [HC2.out] at JZ
                rw [HC3.out] at JE
                go_wp2_with fail
                go_loopw [33, 34] (fun ag i wr => ∃ t : Nat, t ≤ c2 ∧ ag = .bool true ∧ i = .int .i64 t ∧ Below wd.heap.size wd wr) (fun _ i _ => c2 - (intOf i).toNat)
                case atStart => exact ⟨0, Nat.zero_le _, rfl, rfl, Below.refl _ _⟩
                case round =>
                  obtain ⟨t, ht, rfl, rfl, hbl⟩ := hrel
                  have HB := Lib.hid hbl
                  have ht0 : (0 : Int) ≤ (t : Int) := Int.natCast_nonneg _
                  clear hbl
                  by_cases hlt : t < c2
                  · have ft : decide ((t : Int) < (c2 : Int)) = true := decide_eq_true (by omega)
                    have it : (t : Int) < (c2 : Int) := by omega
                    obtain ⟨za1, eb1, hz1, he1, hzk, hzy⟩ := HOO.out.2 t (by rw [HC2.out]; exact hlt)
                    have hz0 : (0 : Int) ≤ (za1 : Int) := Int.natCast_nonneg _
                    have izk : (za1 : Int) < (j : Int) := by omega
                    have co := old_cell JI.out OPRE.out HM.out (Wb.out.trans (HB.out.mono Wb.out.size)) za1 hzk hzy
                    obtain ⟨zb9, zoff, zcap, hze, hzc⟩ := JZ.out.open_ HC2.out (by omega)
                    obtain ⟨eb9, eoff, ecap, hee, hec⟩ := JE.out.open_ HC3.out (by omega)
                    have cz := hzc wr HB.out t hlt
                    have ce := hec wr HB.out t hlt
                    rw [hz1] at cz
                    rw [he1] at ce
                    injection hze with y1 y2 y3
                    injection hee with y4 y5 y6
                    subst y1 y3 y4 y6
                    have fe : ((eb1 : Int) == (eb1 : Int)) = true := by simp
                    clear hzc hec hz1 he1 hzy y2 y5
                    go_wp2_with fail
                    go_quiet (fail)
                    go_wp2_with fail
                    go_roundw
                    case rel => exact ⟨t + 1, by omega, rfl, by go_num, HB.out.trans ((below_drewN (Below.refl wr.heap.size wr) _).mono HB.out.size)⟩
                    case measure => simp [intOf]; omega
                  · obtain rfl : t = c2 := by omega
                    have ft : decide ((t : Int) < (t : Int)) = false := decide_eq_false (Int.lt_irrefl _)
                    go_wp2_with fail
                    exact bodyPost_ret (v := .bool true) (by simp [results, Tryd.results8, go_sem]) rfl ⟨rfl, W.out.trans (HB.out.mono W.out.size)⟩

theorem parts_any (g : P.G) (s v : BitVec 256) (u : Value) (w : World) (hv : GameV w u g) (hT : Tab w) : Calls Tryd.prog 8 #[u, .agg #[.int .u64 (P.wrd s 0), .int .u64 (P.wrd s 1), .int .u64 (P.wrd s 2), .int .u64 (P.wrd s 3)], .agg #[.int .u64 (P.wrd v 0), .int .u64 (P.wrd v 1), .int .u64 (P.wrd v 2), .int .u64 (P.wrd v 3)]] w fun e w' => e = .returned (.bool true) ∧ Below w.heap.size w w' := by
  cases hok : g.ok with
  | false => exact parts_bad g s v u w hv hT hok
  | true =>
    have hr := (P.G.ok_iff g).1 hok
    cases hs : g.has s with
    | false => exact parts_no g s v u w hv hT hr hs
    | true => exact parts_yes g s v u w hv hT hr hs
end W
end Go.Proofs.YtlbikfimfaecnaaDoor
