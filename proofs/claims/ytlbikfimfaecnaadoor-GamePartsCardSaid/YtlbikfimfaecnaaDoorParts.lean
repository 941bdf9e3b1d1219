/- GameParts: the walk. -/
import Derived.Test.YtlbikfimfaecnaaDoorShown
import Derived.Test.YtlbikfimfaecnaaDoorSubW
import Derived.Test.YtlbikfimfaecnaaDoorCls
import Derived.Test.YtlbikfimfaecnaaDoorPartsQ
import Derived.Test.YtlbikfimfaecnaaDoorIs
import Derived.Test.YtlbikfimfaecnaaDoorReads
import Derived.Deep.Cut
import Derived.Deep.CutRange
import Derived.Laws.StructEq
namespace Go.Proofs.YtlbikfimfaecnaaDoor
open Go.RowKit Go.Sort
namespace W

set_option maxRecDepth 100000 in
set_option maxHeartbeats 8000000 in
theorem parts_bad (g : P.G) (s v : BitVec 256) (u : Value) (w : World) (hv : GameV w u g) (hT : Tab w) (hok : g.ok = false) : Calls Tryd.prog 8 #[u, .agg #[.int .u64 (P.wrd s 0), .int .u64 (P.wrd s 1), .int .u64 (P.wrd s 2), .int .u64 (P.wrd s 3)], .agg #[.int .u64 (P.wrd v 0), .int .u64 (P.wrd v 1), .int .u64 (P.wrd v 2), .int .u64 (P.wrd v 3)]] w fun e w' => e = .returned (.bool true) ∧ Below w.heap.size w w' := by
  have HV := Lib.hid hv
  obtain ⟨a, b, c, rfl, -⟩ := hv
  have HOK := Lib.hid hok
  have T := Lib.hid hT
  clear hT hok
  go_enter Tryd.func8, Tryd.ntmps8
  go_wp2_with fail
  have b1q : Box (((w.alloc (.cells #[a, b, c] 25)).alloc (.cells #[.int .u64 (P.wrd s 0), .int .u64 (P.wrd s 1), .int .u64 (P.wrd s 2), .int .u64 (P.wrd s 3)] 35)).alloc (.cells #[.int .u64 (P.wrd v 0), .int .u64 (P.wrd v 1), .int .u64 (P.wrd v 2), .int .u64 (P.wrd v 3)] 35)) w.heap.size 25 #[a, b, c] := ((Box.new w _ _).alloc _).alloc _
  have b2q : Box (((w.alloc (.cells #[a, b, c] 25)).alloc (.cells #[.int .u64 (P.wrd s 0), .int .u64 (P.wrd s 1), .int .u64 (P.wrd s 2), .int .u64 (P.wrd s 3)] 35)).alloc (.cells #[.int .u64 (P.wrd v 0), .int .u64 (P.wrd v 1), .int .u64 (P.wrd v 2), .int .u64 (P.wrd v 3)] 35)) (w.heap.size + 1) 35 #[.int .u64 (P.wrd s 0), .int .u64 (P.wrd s 1), .int .u64 (P.wrd s 2), .int .u64 (P.wrd s 3)] := by
    have := (Box.new (w.alloc (.cells #[a, b, c] 25)) 35 #[.int .u64 (P.wrd s 0), .int .u64 (P.wrd s 1), .int .u64 (P.wrd s 2), .int .u64 (P.wrd s 3)]).alloc (.cells #[.int .u64 (P.wrd v 0), .int .u64 (P.wrd v 1), .int .u64 (P.wrd v 2), .int .u64 (P.wrd v 3)] 35)
    simpa using this
  have b3q : Box (((w.alloc (.cells #[a, b, c] 25)).alloc (.cells #[.int .u64 (P.wrd s 0), .int .u64 (P.wrd s 1), .int .u64 (P.wrd s 2), .int .u64 (P.wrd s 3)] 35)).alloc (.cells #[.int .u64 (P.wrd v 0), .int .u64 (P.wrd v 1), .int .u64 (P.wrd v 2), .int .u64 (P.wrd v 3)] 35)) (w.heap.size + 1 + 1) 35 #[.int .u64 (P.wrd v 0), .int .u64 (P.wrd v 1), .int .u64 (P.wrd v 2), .int .u64 (P.wrd v 3)] := by
    have := Box.new ((w.alloc (.cells #[a, b, c] 25)).alloc (.cells #[.int .u64 (P.wrd s 0), .int .u64 (P.wrd s 1), .int .u64 (P.wrd s 2), .int .u64 (P.wrd s 3)] 35)) 35 #[.int .u64 (P.wrd v 0), .int .u64 (P.wrd v 1), .int .u64 (P.wrd v 2), .int .u64 (P.wrd v 3)]
    simpa using this
  have hbq : Below w.heap.size w (((w.alloc (.cells #[a, b, c] 25)).alloc (.cells #[.int .u64 (P.wrd s 0), .int .u64 (P.wrd s 1), .int .u64 (P.wrd s 2), .int .u64 (P.wrd s 3)] 35)).alloc (.cells #[.int .u64 (P.wrd v 0), .int .u64 (P.wrd v 1), .int .u64 (P.wrd v 2), .int .u64 (P.wrd v 3)] 35)) := (((Below.refl _ w).alloc (Nat.le_refl _) _).alloc (by simp) _).alloc (by simp; omega) _
  replace T := Lib.hid (T.out.on hbq)
  generalize (((w.alloc (.cells #[a, b, c] 25)).alloc (.cells #[.int .u64 (P.wrd s 0), .int .u64 (P.wrd s 1), .int .u64 (P.wrd s 2), .int .u64 (P.wrd s 3)] 35)).alloc (.cells #[.int .u64 (P.wrd v 0), .int .u64 (P.wrd v 1), .int .u64 (P.wrd v 2), .int .u64 (P.wrd v 3)] 35)) = w1 at b1q b2q b3q hbq T ⊢
  have BQg := Lib.hid b1q
  have BQs := Lib.hid b2q
  have BQv := Lib.hid b3q
  have W := Lib.hid hbq
  clear b1q b2q b3q hbq
  generalize w.heap.size + 1 + 1 = qv at BQv ⊢
  generalize w.heap.size + 1 = qs at BQs ⊢
  generalize w.heap.size = qg at BQg ⊢
  refine (shown_any _ T.out).mono ?_
  rintro e w2 ⟨rfl, hb⟩
  replace BQg := Lib.hid (BQg.out.keep (grown_of_below hb none))
  replace BQs := Lib.hid (BQs.out.keep (grown_of_below hb none))
  replace BQv := Lib.hid (BQv.out.keep (grown_of_below hb none))
  replace W := Lib.hid (W.out.trans (hb.mono W.out.size))
  replace T := Lib.hid (T.out.on hb)
  clear hb
  have bb := BQg.out
  have pc0 : w2.cell? ⟨qg, 0, none⟩ = some a := bb.cell 0 _ rfl
  have pc1 : w2.cell? ⟨qg, 1, none⟩ = some b := bb.cell 1 _ rfl
  have pc2 : w2.cell? ⟨qg, 2, none⟩ = some c := bb.cell 2 _ rfl
  clear bb
  go_wp2_with fail
  refine (isright_any g _ _ (HV.out.on W.out)).mono ?_
  rintro e w3 ⟨rfl, hb⟩
  replace W := Lib.hid (W.out.trans (hb.mono W.out.size))
  rw [HOK.out]
  clear hb pc0 pc1 pc2
  go_wp2_with fail
  exact bodyPost_ret (v := .bool true) (by simp [results, Tryd.results8, go_sem]) rfl ⟨rfl, W.out⟩

structure InvN (w : World) (qg qi : Nat) (I : BitVec 256) (gv : Array Value) (wr : World) : Prop where
  fg : Box wr qg 25 gv
  fi : Box wr qi 47 #[.int .u64 (P.wrd I 0), .int .u64 (P.wrd I 1), .int .u64 (P.wrd I 2), .int .u64 (P.wrd I 3)]
  fw : Below w.heap.size w wr
  ft : Tab wr
theorem InvN.on {w : World} {qg qi : Nat} {I : BitVec 256} {gv : Array Value} {wr w' : World} (h : InvN w qg qi I gv wr) (hb : Below wr.heap.size wr w') : InvN w qg qi I gv w' :=
  ⟨h.fg.keep (grown_of_below hb none), h.fi.keep (grown_of_below hb none), h.fw.trans (hb.mono h.fw.size), h.ft.on hb⟩
set_option maxRecDepth 100000 in
set_option maxHeartbeats 8000000 in
theorem parts_no (g : P.G) (s v : BitVec 256) (u : Value) (w : World) (hv : GameV w u g) (hT : Tab w) (hr : g.Right) (hs : g.has s = false) : Calls Tryd.prog 8 #[u, .agg #[.int .u64 (P.wrd s 0), .int .u64 (P.wrd s 1), .int .u64 (P.wrd s 2), .int .u64 (P.wrd s 3)], .agg #[.int .u64 (P.wrd v 0), .int .u64 (P.wrd v 1), .int .u64 (P.wrd v 2), .int .u64 (P.wrd v 3)]] w fun e w' => e = .returned (.bool true) ∧ Below w.heap.size w w' := by
  have hfw := fits_fw hv.fits s
  have hlw := len_olw g s
  obtain ⟨F, hF⟩ : ∃ F, FW g s = F := ⟨_, rfl⟩
  obtain ⟨ol, hol⟩ : ∃ ol, OLW g s = ol := ⟨_, rfl⟩
  rw [hF] at hfw
  rw [hol] at hlw
  have HF := Lib.hid hF
  have HOLS := Lib.hid hol
  have HHS := Lib.hid hs
  have hff := Lib.hid hfw
  obtain ⟨I, hI⟩ : ∃ I, s &&& P.full ((g.owner.length : Nat) : Int) = I := ⟨_, rfl⟩
  have HI0 := Lib.hid hI
  clear hF hol hs hfw hI
  have hf := Lib.hid hv.fits
  have HV := Lib.hid hv
  have HR := Lib.hid hr
  have HOK := Lib.hid ((P.G.ok_iff g).2 hr)
  have HFF := Lib.hid (show FW g (P.full 256) = g ∧ g.has (P.full 256) = true by
    have h := P.part_full hr
    exact ⟨by unfold FW; rw [if_pos h.1]; exact h.2, h.1⟩)
  obtain ⟨n, hn⟩ : ∃ n, g.owner.length = n := ⟨_, rfl⟩
  have hn0 : 0 < n := by rw [← hn]; exact hr.pos
  have hn2 : n ≤ 200 := by rw [← hn]; exact hr.many
  obtain ⟨ga, gao, gak, gb, gbo, gbk, gc, gco, gck, rfl, hga, hgb, hgc⟩ := hv.open_ hn (by rw [hr.prio]; exact hn) (by rw [hr.moves]; exact hn) hn0
  have GA := Lib.hid hga
  have GB := Lib.hid hgb
  have GC := Lib.hid hgc
  have HN := Lib.hid hn
  have HI := Lib.hid (show s &&& P.full (n : Int) = I by rw [← HI0.out, hn])
  have T := Lib.hid hT
  clear hT hga hgb hgc hn hr hv
  go_enter Tryd.func8, Tryd.ntmps8
  go_wp2_with fail
  have b1q : Box (((w.alloc (.cells #[.slice (some ⟨ga, gao, none⟩) n gak, .slice (some ⟨gb, gbo, none⟩) n gbk, .slice (some ⟨gc, gco, none⟩) n gck] 25)).alloc (.cells #[.int .u64 (P.wrd s 0), .int .u64 (P.wrd s 1), .int .u64 (P.wrd s 2), .int .u64 (P.wrd s 3)] 35)).alloc (.cells #[.int .u64 (P.wrd v 0), .int .u64 (P.wrd v 1), .int .u64 (P.wrd v 2), .int .u64 (P.wrd v 3)] 35)) w.heap.size 25 #[.slice (some ⟨ga, gao, none⟩) n gak, .slice (some ⟨gb, gbo, none⟩) n gbk, .slice (some ⟨gc, gco, none⟩) n gck] := ((Box.new w _ _).alloc _).alloc _
  have b2q : Box (((w.alloc (.cells #[.slice (some ⟨ga, gao, none⟩) n gak, .slice (some ⟨gb, gbo, none⟩) n gbk, .slice (some ⟨gc, gco, none⟩) n gck] 25)).alloc (.cells #[.int .u64 (P.wrd s 0), .int .u64 (P.wrd s 1), .int .u64 (P.wrd s 2), .int .u64 (P.wrd s 3)] 35)).alloc (.cells #[.int .u64 (P.wrd v 0), .int .u64 (P.wrd v 1), .int .u64 (P.wrd v 2), .int .u64 (P.wrd v 3)] 35)) (w.heap.size + 1) 35 #[.int .u64 (P.wrd s 0), .int .u64 (P.wrd s 1), .int .u64 (P.wrd s 2), .int .u64 (P.wrd s 3)] := by
    have := (Box.new (w.alloc (.cells #[.slice (some ⟨ga, gao, none⟩) n gak, .slice (some ⟨gb, gbo, none⟩) n gbk, .slice (some ⟨gc, gco, none⟩) n gck] 25)) 35 #[.int .u64 (P.wrd s 0), .int .u64 (P.wrd s 1), .int .u64 (P.wrd s 2), .int .u64 (P.wrd s 3)]).alloc (.cells #[.int .u64 (P.wrd v 0), .int .u64 (P.wrd v 1), .int .u64 (P.wrd v 2), .int .u64 (P.wrd v 3)] 35)
    simpa using this
  have b3q : Box (((w.alloc (.cells #[.slice (some ⟨ga, gao, none⟩) n gak, .slice (some ⟨gb, gbo, none⟩) n gbk, .slice (some ⟨gc, gco, none⟩) n gck] 25)).alloc (.cells #[.int .u64 (P.wrd s 0), .int .u64 (P.wrd s 1), .int .u64 (P.wrd s 2), .int .u64 (P.wrd s 3)] 35)).alloc (.cells #[.int .u64 (P.wrd v 0), .int .u64 (P.wrd v 1), .int .u64 (P.wrd v 2), .int .u64 (P.wrd v 3)] 35)) (w.heap.size + 1 + 1) 35 #[.int .u64 (P.wrd v 0), .int .u64 (P.wrd v 1), .int .u64 (P.wrd v 2), .int .u64 (P.wrd v 3)] := by
    have := Box.new ((w.alloc (.cells #[.slice (some ⟨ga, gao, none⟩) n gak, .slice (some ⟨gb, gbo, none⟩) n gbk, .slice (some ⟨gc, gco, none⟩) n gck] 25)).alloc (.cells #[.int .u64 (P.wrd s 0), .int .u64 (P.wrd s 1), .int .u64 (P.wrd s 2), .int .u64 (P.wrd s 3)] 35)) 35 #[.int .u64 (P.wrd v 0), .int .u64 (P.wrd v 1), .int .u64 (P.wrd v 2), .int .u64 (P.wrd v 3)]
    simpa using this
  have hbq : Below w.heap.size w (((w.alloc (.cells #[.slice (some ⟨ga, gao, none⟩) n gak, .slice (some ⟨gb, gbo, none⟩) n gbk, .slice (some ⟨gc, gco, none⟩) n gck] 25)).alloc (.cells #[.int .u64 (P.wrd s 0), .int .u64 (P.wrd s 1), .int .u64 (P.wrd s 2), .int .u64 (P.wrd s 3)] 35)).alloc (.cells #[.int .u64 (P.wrd v 0), .int .u64 (P.wrd v 1), .int .u64 (P.wrd v 2), .int .u64 (P.wrd v 3)] 35)) := (((Below.refl _ w).alloc (Nat.le_refl _) _).alloc (by simp) _).alloc (by simp; omega) _
  replace T := Lib.hid (T.out.on hbq)
  generalize (((w.alloc (.cells #[.slice (some ⟨ga, gao, none⟩) n gak, .slice (some ⟨gb, gbo, none⟩) n gbk, .slice (some ⟨gc, gco, none⟩) n gck] 25)).alloc (.cells #[.int .u64 (P.wrd s 0), .int .u64 (P.wrd s 1), .int .u64 (P.wrd s 2), .int .u64 (P.wrd s 3)] 35)).alloc (.cells #[.int .u64 (P.wrd v 0), .int .u64 (P.wrd v 1), .int .u64 (P.wrd v 2), .int .u64 (P.wrd v 3)] 35)) = w1 at b1q b2q b3q hbq T ⊢
  have BQg := Lib.hid b1q
  have BQs := Lib.hid b2q
  have BQv := Lib.hid b3q
  have W := Lib.hid hbq
  clear b1q b2q b3q hbq
  generalize w.heap.size + 1 + 1 = qv at BQv ⊢
  generalize w.heap.size + 1 = qs at BQs ⊢
  generalize w.heap.size = qg at BQg ⊢
  refine (shown_any _ T.out).mono ?_
  rintro e w2 ⟨rfl, hb⟩
  replace BQg := Lib.hid (BQg.out.keep (grown_of_below hb none))
  replace BQs := Lib.hid (BQs.out.keep (grown_of_below hb none))
  replace BQv := Lib.hid (BQv.out.keep (grown_of_below hb none))
  replace W := Lib.hid (W.out.trans (hb.mono W.out.size))
  replace T := Lib.hid (T.out.on hb)
  clear hb
  have bb := BQg.out
  have pc0 : w2.cell? ⟨qg, 0, none⟩ = some (.slice (some ⟨ga, gao, none⟩) n gak) := bb.cell 0 _ rfl
  have pc1 : w2.cell? ⟨qg, 1, none⟩ = some (.slice (some ⟨gb, gbo, none⟩) n gbk) := bb.cell 1 _ rfl
  have pc2 : w2.cell? ⟨qg, 2, none⟩ = some (.slice (some ⟨gc, gco, none⟩) n gck) := bb.cell 2 _ rfl
  clear bb
  go_wp2_with fail
  refine (isright_any g _ _ (HV.out.on W.out)).mono ?_
  rintro e w3 ⟨rfl, hb⟩
  replace BQg := Lib.hid (BQg.out.keep (grown_of_below hb none))
  replace BQs := Lib.hid (BQs.out.keep (grown_of_below hb none))
  replace BQv := Lib.hid (BQv.out.keep (grown_of_below hb none))
  replace W := Lib.hid (W.out.trans (hb.mono W.out.size))
  replace T := Lib.hid (T.out.on hb)
  rw [HOK.out]
  clear hb pc0 pc1 pc2
  have bb := BQg.out
  have pc0 : w3.cell? ⟨qg, 0, none⟩ = some (.slice (some ⟨ga, gao, none⟩) n gak) := bb.cell 0 _ rfl
  have pc1 : w3.cell? ⟨qg, 1, none⟩ = some (.slice (some ⟨gb, gbo, none⟩) n gbk) := bb.cell 1 _ rfl
  have pc2 : w3.cell? ⟨qg, 2, none⟩ = some (.slice (some ⟨gc, gco, none⟩) n gck) := bb.cell 2 _ rfl
  clear bb
  go_wp2_with fail
  clear pc0 pc1 pc2
  refine Rk.wp_region_lit (fun idx => match idx with | 0 => (fun v _ _ => v = (.agg #[.slice (some ⟨ga, gao, none⟩) n gak, .slice (some ⟨gb, gbo, none⟩) n gbk, .slice (some ⟨gc, gco, none⟩) n gck])) | 1 => (fun v _ _ => v = .agg #[.int .u64 (P.wrd (P.full 256) 0), .int .u64 (P.wrd (P.full 256) 1), .int .u64 (P.wrd (P.full 256) 2), .int .u64 (P.wrd (P.full 256) 3)]) | 2 => (fun v _ w' => SubW (g) (OLW g (P.full 256)) (true) w3.heap.size v w') | 3 => (fun v ds w' => v = ds.getD 0 undef ∧ SubW (g) (OLW g (P.full 256)) (true) w3.heap.size v w') | 4 => (fun v ds _ => v = tupleAt (ds.getD 0 undef) 0) | 5 => (fun v ds _ => v = tupleAt (ds.getD 0 undef) 1) | 6 => (fun v ds _ => v = tupleAt (ds.getD 0 undef) 2) | 7 => (fun v _ _ => ∃ p, v = .pointer (some ⟨p, 0, none⟩) ∧ w3.heap.size ≤ p) | 8 => (fun _ ds w' => ∃ p a1 k1 b1 k2 c1 k3, ds.getD 0 undef = .pointer (some ⟨p, 0, none⟩) ∧ ds.getD 1 undef = .agg #[.slice a1 (g).owner.length k1, .slice b1 (g).prio.length k2, .slice c1 (g).moves.length k3] ∧ Box w' p 25 #[.slice a1 (g).owner.length k1, .slice b1 (g).prio.length k2, .slice c1 (g).moves.length k3]) | 9 => (fun v ds _ => v = ds.getD 0 undef) | _ => fun _ _ _ => True) (fun idx => match idx with | 7 => (fun v _ w' => ∃ p, v = .pointer (some ⟨p, 0, none⟩) ∧ Box w' p 25 #[.slice none 0 0, .slice none 0 0, .slice none 0 0]) | _ => fun _ _ _ => True) (KG w3.heap.size 25) 8 (by kernel_rfl) (by rfl) (by kernel_rfl) (by rfl) ?_ ?_ ?_ ?_
  · refine ⟨?_, ?_, ?_, ?_, ?_, ?_, ?_, ?_, ?_, ?_, trivial⟩
    · intro A w' K vals h hn hT hgk hK0
      have hg : w3.grownBy w' none := keeps_old hgk
      have hK := fun v u (h1 : w'.grownBy u none) h2 => hK0 v u (Rk.keep_of h1) h2 trivial
      clear hT hgk hK0
      have r0 : A.tmps[3]?.getD undef = .pointer (some ⟨qg, 0, none⟩) := Rg.slot h.1
      have b := BQg.out.keep hg
      have cc0 : w'.cell? ⟨qg, 0, none⟩ = some (.slice (some ⟨ga, gao, none⟩) n gak) := b.cell 0 _ rfl
      have cc1 : w'.cell? ⟨qg, 1, none⟩ = some (.slice (some ⟨gb, gbo, none⟩) n gbk) := b.cell 1 _ rfl
      have cc2 : w'.cell? ⟨qg, 2, none⟩ = some (.slice (some ⟨gc, gco, none⟩) n gck) := b.cell 2 _ rfl
      clear h hn hg b
      simp [Oper.wp, execOp, go_sem, r0, cc0, cc1, cc2]
      exact hK _ _ (Rg.grown_refl _ _) rfl
    · intro A w' K vals h hn hT hgk hK0
      have hg : w3.grownBy w' none := keeps_old hgk
      have hK := fun v u (h1 : w'.grownBy u none) h2 => hK0 v u (Rk.keep_of h1) h2 trivial
      clear hT hgk hK0
      clear h hn
      simp [Oper.wp, go_sem]
      refine (full_any 256 w').mono ?_
      rintro e w'' ⟨rfl, hb⟩
      exact hK _ _ (grown_of_below hb _) rfl
    · intro A w' K vals h hn hT hgk hK0
      have hg : w3.grownBy w' none := keeps_old hgk
      have hK := fun v u (h1 : w'.grownBy u none) h2 => hK0 v u (Rk.keep_of h1) h2 trivial
      clear hT hgk hK0
      have r0 : A.tmps[49]?.getD undef = vals 0 := Rg.slot h.2.1
      have r1 : A.tmps[50]?.getD undef = vals 1 := Rg.slot h.2.2.1
      have s0 : vals 0 = .agg #[.slice (some ⟨ga, gao, none⟩) n gak, .slice (some ⟨gb, gbo, none⟩) n gbk, .slice (some ⟨gc, gco, none⟩) n gck] := hn.1
      have s1 : vals 1 = .agg #[.int .u64 (P.wrd (P.full 256) 0), .int .u64 (P.wrd (P.full 256) 1), .int .u64 (P.wrd (P.full 256) 2), .int .u64 (P.wrd (P.full 256) 3)] := hn.2.1
      clear h hn
      simp [Oper.wp, go_sem, r0, r1, s0, s1]
      refine (subw_any g (P.full 256) (.agg #[.slice (some ⟨ga, gao, none⟩) n gak, .slice (some ⟨gb, gbo, none⟩) n gbk, .slice (some ⟨gc, gco, none⟩) n gck]) w' (HV.out.on (W.out.trans ((below_of_grown hg).mono W.out.size))) (T.out.on (below_of_grown hg))).mono ?_
      rintro e w'' ⟨u, rfl, hu, hb⟩
      rw [HFF.out.1, HFF.out.2] at hu
      exact hK _ _ (grown_of_below hb _) (hu.low hg.size)
    · intro A w' K vals h hn hT hgk hK0
      have hg : w3.grownBy w' none := keeps_old hgk
      have hK := fun v u (h1 : w'.grownBy u none) h2 => hK0 v u (Rk.keep_of h1) h2 trivial
      clear hT hgk hK0
      have r0 : A.tmps[51]?.getD undef = vals 2 := Rg.slot h.1
      have n3 : SubW (g) (OLW g (P.full 256)) (true) w3.heap.size (vals 2) w' := hn.1
      clear h hn hg
      simp [Oper.wp, execOp, go_sem, r0]
      exact hK _ _ (Rg.grown_refl _ _) ⟨rfl, n3⟩
    · intro A w' K vals h hn hT hgk hK0
      have hg : w3.grownBy w' none := keeps_old hgk
      have hK := fun v u (h1 : w'.grownBy u none) h2 => hK0 v u (Rk.keep_of h1) h2 trivial
      clear hT hgk hK0
      have r0 : A.tmps[48]?.getD undef = vals 3 := Rg.slot h.1
      obtain ⟨a1, k1, b1, k2, c1, k3, x1, k4, L, hv, -, -⟩ : SubW (g) (OLW g (P.full 256)) (true) w3.heap.size (vals 3) w' := hn.1.2
      clear h hn hg
      simp [Oper.wp, execOp, go_sem, r0, hv]
      refine hK _ _ (Rg.grown_refl _ _) ?_
      show _ = tupleAt (vals 3) 0
      rw [hv]
      rfl
    · intro A w' K vals h hn hT hgk hK0
      have hg : w3.grownBy w' none := keeps_old hgk
      have hK := fun v u (h1 : w'.grownBy u none) h2 => hK0 v u (Rk.keep_of h1) h2 trivial
      clear hT hgk hK0
      have r0 : A.tmps[48]?.getD undef = vals 3 := Rg.slot h.1
      obtain ⟨a1, k1, b1, k2, c1, k3, x1, k4, L, hv, -, -⟩ : SubW (g) (OLW g (P.full 256)) (true) w3.heap.size (vals 3) w' := hn.1.2
      clear h hn hg
      simp [Oper.wp, execOp, go_sem, r0, hv]
      refine hK _ _ (Rg.grown_refl _ _) ?_
      show _ = tupleAt (vals 3) 1
      rw [hv]
      rfl
    · intro A w' K vals h hn hT hgk hK0
      have hg : w3.grownBy w' none := keeps_old hgk
      have hK := fun v u (h1 : w'.grownBy u none) h2 => hK0 v u (Rk.keep_of h1) h2 trivial
      clear hT hgk hK0
      have r0 : A.tmps[48]?.getD undef = vals 3 := Rg.slot h.1
      obtain ⟨a1, k1, b1, k2, c1, k3, x1, k4, L, hv, -, -⟩ : SubW (g) (OLW g (P.full 256)) (true) w3.heap.size (vals 3) w' := hn.1.2
      clear h hn hg
      simp [Oper.wp, execOp, go_sem, r0, hv]
      refine hK _ _ (Rg.grown_refl _ _) ?_
      show _ = tupleAt (vals 3) 2
      rw [hv]
      rfl
    · intro A w' K vals h hn hT hgk hK0
      clear h hn hT
      simp [Oper.wp, execOp, go_sem]
      exact hK0 _ _ (Rk.keep_of (World.grownBy_alloc _ _ _)) ⟨_, rfl, hgk.size⟩ ⟨_, rfl, Box.new _ _ _⟩
    · intro A w' K vals h hn hT hgk hK0
      have r0 : A.tmps[10]?.getD undef = vals 7 := Rg.slot h.1
      have r1 : A.tmps[52]?.getD undef = vals 4 := Rg.slot h.2.1
      obtain ⟨p, hp, hbx⟩ : ∃ p, vals 7 = .pointer (some ⟨p, 0, none⟩) ∧ Box w' p 25 #[.slice none 0 0, .slice none 0 0, .slice none 0 0] := (hT rfl).1
      obtain ⟨p', hp', hlo⟩ : ∃ p, vals 7 = .pointer (some ⟨p, 0, none⟩) ∧ w3.heap.size ≤ p := hn.1
      have s5 : vals 4 = tupleAt (vals 3) 0 := hn.2.1
      obtain ⟨a1, k1, b1, k2, c1, k3, x1, k4, L, s3, ho, hi⟩ : SubW (g) (OLW g (P.full 256)) (true) w3.heap.size (vals 3) w' := hn.2.2.2.2.2.2.1.2
      rw [s3] at s5
      have s5 : vals 4 = .agg #[.slice a1 (g).owner.length k1, .slice b1 (g).prio.length k2, .slice c1 (g).moves.length k3] := s5
      obtain rfl : p' = p := by rw [hp'] at hp; injection hp with hp; injection hp with hp; injection hp with hp
      clear h hn hT ho hi s3
      have qc0 : w'.cell? ⟨p', 0, none⟩ = some (.slice none 0 0) := hbx.cell 0 _ rfl
      have qc1 : w'.cell? ⟨p', 1, none⟩ = some (.slice none 0 0) := hbx.cell 1 _ rfl
      have qc2 : w'.cell? ⟨p', 2, none⟩ = some (.slice none 0 0) := hbx.cell 2 _ rfl
      have qf0 : w'.frozen? ⟨p', 0, none⟩ = false := hbx.frozen 0
      have qf1 : w'.frozen? ⟨p', 1, none⟩ = false := hbx.frozen 1
      have qf2 : w'.frozen? ⟨p', 2, none⟩ = false := hbx.frozen 2
      simp [Oper.wp, execOp, go_sem, r0, r1, hp', s5, qc0, qc1, qc2, qf0, qf1, qf2]
      refine hK0 undef _ (((keeps_set hbx hlo _ _).trans (keeps_set (hbx.set _ _) hlo _ _)).trans (keeps_set ((hbx.set _ _).set _ _) hlo _ _)) ⟨p', a1, k1, b1, k2, c1, k3, hp', s5, (((hbx.set 0 (.slice a1 (g).owner.length k1)).set 1 (.slice b1 (g).prio.length k2)).set 2 (.slice c1 (g).moves.length k3))⟩ trivial
    · intro A w' K vals h hn hT hgk hK0
      have hg : w3.grownBy w' none := keeps_old hgk
      have hK := fun v u (h1 : w'.grownBy u none) h2 => hK0 v u (Rk.keep_of h1) h2 trivial
      clear hT hgk hK0
      have r0 : A.tmps[53]?.getD undef = vals 5 := Rg.slot h.1
      clear h hn hg
      simp [Oper.wp, execOp, go_sem, r0]
      exact hK _ _ (Rg.grown_refl _ _) rfl
  · refine ⟨?_, ?_, ?_, ?_, ?_, ?_, ?_, ?_, ?_, ?_, trivial⟩
    · exact fun _ _ _ _ _ _ h => h
    · exact fun _ _ _ _ _ _ h => h
    · exact fun _ _ _ _ _ h hu => hu.other h (by decide) (by decide)
    · exact fun _ _ _ _ _ h hu => ⟨hu.1, hu.2.other h (by decide) (by decide)⟩
    · exact fun _ _ _ _ _ _ h => h
    · exact fun _ _ _ _ _ _ h => h
    · exact fun _ _ _ _ _ _ h => h
    · exact fun _ _ _ _ _ _ h => h
    · exact fun _ _ _ _ _ h ⟨p, a1, k1, b1, k2, c1, k3, h1, h2, hb⟩ => ⟨p, a1, k1, b1, k2, c1, k3, h1, h2, hb.keep (Rk.grown_of h)⟩
    · exact fun _ _ _ _ _ _ h => h
  · intro k v ds w w' hk h
    match k, h with
    | 7, h => exact ⟨h.choose, h.choose_spec.1, h.choose_spec.2.keep (Rk.grown_of hk)⟩
    | 0, _ | 1, _ | 2, _ | 3, _ | 4, _ | 5, _ | 6, _ | _ + 8, _ => trivial
  · intro vals w4 G hgk hS hG
    have hg := keeps_old hgk
    obtain ⟨xa, xka, xb, xkb, xc, xkc, xo, xko, xL, s3, ho, hi⟩ : SubW (g) (OLW g (P.full 256)) (true) w3.heap.size (vals 3) w4 := (hS.2.2.2.1).2
    have s5 : vals 4 = tupleAt (vals 3) 0 := hS.2.2.2.2.1
    have s6 : vals 5 = tupleAt (vals 3) 1 := hS.2.2.2.2.2.1
    have s7 : vals 6 = tupleAt (vals 3) 2 := hS.2.2.2.2.2.2.1
    obtain ⟨qx, a1', k1', b1', k2', c1', k3', s8, s5', hb5⟩ : ∃ p a1 k1 b1 k2 c1 k3, vals 7 = .pointer (some ⟨p, 0, none⟩) ∧ vals 4 = .agg #[.slice a1 (g).owner.length k1, .slice b1 (g).prio.length k2, .slice c1 (g).moves.length k3] ∧ Box w4 p 25 #[.slice a1 (g).owner.length k1, .slice b1 (g).prio.length k2, .slice c1 (g).moves.length k3] := hS.2.2.2.2.2.2.2.2.1
    have s10 : vals 9 = vals 5 := hS.2.2.2.2.2.2.2.2.2.1
    clear hS
    rw [s3] at s5 s6 s7
    have s5 : vals 4 = .agg #[.slice xa (g).owner.length xka, .slice xb (g).prio.length xkb, .slice xc (g).moves.length xkc] := s5
    have s6 : vals 5 = .slice xo (OLW g (P.full 256)).length xko := s6
    have s7 : vals 6 = .bool (true) := s7
    rw [s5] at s5'
    simp only [Value.agg.injEq, Array.mk.injEq, List.cons.injEq, Value.slice.injEq, and_true, true_and] at s5'
    obtain ⟨⟨rfl, rfl⟩, ⟨rfl, rfl⟩, rfl, rfl⟩ := s5'
    rw [s6] at s10
    replace BQg := Lib.hid (BQg.out.keep (grown_of_below (below_of_grown hg) none))
    replace BQs := Lib.hid (BQs.out.keep (grown_of_below (below_of_grown hg) none))
    replace BQv := Lib.hid (BQv.out.keep (grown_of_below (below_of_grown hg) none))
    replace W := Lib.hid (W.out.trans ((below_of_grown hg).mono W.out.size))
    replace T := Lib.hid (T.out.on (below_of_grown hg))
    have BQx := Lib.hid hb5
    have Ox := Lib.hid ho
    have Jx := Lib.hid hi
    clear hb5 ho hi hgk hg
    refine hG ?_
    clear hG
    simp [Rg.putAll, Oper.wp, execOp, go_sem, s5, s6, s7, s8, s10]
    clear s3 s5 s6 s7 s8 s10
    have bb := BQx.out
    have pc0 : w4.cell? ⟨qx, 0, none⟩ = some (.slice xa g.owner.length xka) := bb.cell 0 _ rfl
    have pc1 : w4.cell? ⟨qx, 1, none⟩ = some (.slice xb g.prio.length xkb) := bb.cell 1 _ rfl
    have pc2 : w4.cell? ⟨qx, 2, none⟩ = some (.slice xc g.moves.length xkc) := bb.cell 2 _ rfl
    clear bb
    have bb := BQg.out
    have rc0 : w4.cell? ⟨qg, 0, none⟩ = some (.slice (some ⟨ga, gao, none⟩) n gak) := bb.cell 0 _ rfl
    have rc1 : w4.cell? ⟨qg, 1, none⟩ = some (.slice (some ⟨gb, gbo, none⟩) n gbk) := bb.cell 1 _ rfl
    have rc2 : w4.cell? ⟨qg, 2, none⟩ = some (.slice (some ⟨gc, gco, none⟩) n gck) := bb.cell 2 _ rfl
    clear bb
    go_wp2_with fail
    refine (samegame_any g g _ _ _ (Ox.out.game hf.out) (HV.out.on W.out)).mono ?_
    rintro e w5 ⟨rfl, hb⟩
    rw [decide_eq_true rfl]
    replace BQg := Lib.hid (BQg.out.keep (grown_of_below hb none))
    replace BQs := Lib.hid (BQs.out.keep (grown_of_below hb none))
    replace BQv := Lib.hid (BQv.out.keep (grown_of_below hb none))
    replace W := Lib.hid (W.out.trans (hb.mono W.out.size))
    replace T := Lib.hid (T.out.on hb)
    replace BQx := Lib.hid (BQx.out.keep (grown_of_below hb none))
    replace Ox := Lib.hid (Ox.out.grown (grown_of_below hb none))
    clear hb pc0 pc1 pc2 rc0 rc1 rc2
    have bb := BQg.out
    have pc0 : w5.cell? ⟨qg, 0, none⟩ = some (.slice (some ⟨ga, gao, none⟩) n gak) := bb.cell 0 _ rfl
    have pc1 : w5.cell? ⟨qg, 1, none⟩ = some (.slice (some ⟨gb, gbo, none⟩) n gbk) := bb.cell 1 _ rfl
    have pc2 : w5.cell? ⟨qg, 2, none⟩ = some (.slice (some ⟨gc, gco, none⟩) n gck) := bb.cell 2 _ rfl
    clear bb
    have bb := BQs.out
    have sc0 : w5.cell? ⟨qs, 0, none⟩ = some (.int .u64 (P.wrd s 0)) := bb.cell 0 _ rfl
    have sc1 : w5.cell? ⟨qs, 1, none⟩ = some (.int .u64 (P.wrd s 1)) := bb.cell 1 _ rfl
    have sc2 : w5.cell? ⟨qs, 2, none⟩ = some (.int .u64 (P.wrd s 2)) := bb.cell 2 _ rfl
    have sc3 : w5.cell? ⟨qs, 3, none⟩ = some (.int .u64 (P.wrd s 3)) := bb.cell 3 _ rfl
    clear bb
    go_wp2_with fail
    refine (subw_any g s _ _ (HV.out.on W.out) T.out).mono ?_
    rintro e w6 ⟨u, rfl, hsub, hb⟩
    rw [HF.out, HOLS.out, HHS.out] at hsub
    obtain ⟨ya, yka, yb, ykb, yc, ykc, yo, yko, yL, rfl, ho, hol⟩ := hsub
    replace BQg := Lib.hid (BQg.out.keep (grown_of_below hb none))
    replace BQs := Lib.hid (BQs.out.keep (grown_of_below hb none))
    replace BQv := Lib.hid (BQv.out.keep (grown_of_below hb none))
    replace W := Lib.hid (W.out.trans (hb.mono W.out.size))
    replace T := Lib.hid (T.out.on hb)
    replace BQx := Lib.hid (BQx.out.keep (grown_of_below hb none))
    replace Ox := Lib.hid (Ox.out.grown (grown_of_below hb none))
    have Oy := Lib.hid ho
    have Jy := Lib.hid hol
    clear hb ho hol pc0 pc1 pc2 sc0 sc1 sc2 sc3
    go_upto_region 11 with (fail)
    have bq : Box (w6.alloc (.cells #[.slice ya F.owner.length yka, .slice yb F.prio.length ykb, .slice yc F.moves.length ykc] 25)) w6.heap.size 25 #[.slice ya F.owner.length yka, .slice yb F.prio.length ykb, .slice yc F.moves.length ykc] := Box.new _ _ _
    have hgq := World.grownBy_alloc w6 (.cells #[.slice ya F.owner.length yka, .slice yb F.prio.length ykb, .slice yc F.moves.length ykc] 25) none
    replace BQg := Lib.hid (BQg.out.keep hgq)
    replace BQs := Lib.hid (BQs.out.keep hgq)
    replace BQv := Lib.hid (BQv.out.keep hgq)
    replace W := Lib.hid (W.out.trans ((below_of_grown hgq).mono W.out.size))
    replace T := Lib.hid (T.out.on (below_of_grown hgq))
    replace BQx := Lib.hid (BQx.out.keep hgq)
    replace Ox := Lib.hid (Ox.out.grown hgq)
    replace Oy := Lib.hid (Oy.out.grown hgq)
    have Jy := Lib.hid (own_grown Jy.out hgq)
    generalize (w6.alloc (.cells #[.slice ya F.owner.length yka, .slice yb F.prio.length ykb, .slice yc F.moves.length ykc] 25)) = w7 at bq Jy BQg BQs BQv W T BQx Ox Oy ⊢
    generalize w6.heap.size = qy at bq ⊢
    have BQy := Lib.hid bq
    clear bq hgq
    have LW7 := Lib.hid W.out.size
    have T7 := T
    go_wp2_with fail
    refine Rg.wp_region_lit (fun idx => match idx with | 0 => (fun v _ _ => v = (.agg #[.int .u64 (P.wrd s 0), .int .u64 (P.wrd s 1), .int .u64 (P.wrd s 2), .int .u64 (P.wrd s 3)])) | 1 => (fun v _ _ => v = (.int .i64 (n : Int))) | 2 => (fun v _ _ => v = (.agg #[.int .u64 (P.wrd (P.full (n : Int)) 0), .int .u64 (P.wrd (P.full (n : Int)) 1), .int .u64 (P.wrd (P.full (n : Int)) 2), .int .u64 (P.wrd (P.full (n : Int)) 3)])) | 3 => (fun v _ _ => v = (.agg #[.int .u64 (P.wrd I 0), .int .u64 (P.wrd I 1), .int .u64 (P.wrd I 2), .int .u64 (P.wrd I 3)])) | 4 => (fun v _ w' => ∃ q, v = .pointer (some ⟨q, 0, none⟩) ∧ w7.heap.size ≤ q ∧ Box w' q 47 #[.int .u64 0, .int .u64 0, .int .u64 0, .int .u64 0]) | _ => fun _ _ _ => True) (none) 99 (by kernel_rfl) (by rfl) (by kernel_rfl) (by rfl) ?_ ?_ ?_
    · refine ⟨?_, ?_, ?_, ?_, ?_, trivial⟩
      · intro A w' K vals h hn hg hK
        have r0 : A.tmps[4]?.getD undef = .pointer (some ⟨qs, 0, none⟩) := Rg.slot h.1
        have b := BQs.out.keep hg
        have cc0 : w'.cell? ⟨qs, 0, none⟩ = some (.int .u64 (P.wrd s 0)) := b.cell 0 _ rfl
        have cc1 : w'.cell? ⟨qs, 1, none⟩ = some (.int .u64 (P.wrd s 1)) := b.cell 1 _ rfl
        have cc2 : w'.cell? ⟨qs, 2, none⟩ = some (.int .u64 (P.wrd s 2)) := b.cell 2 _ rfl
        have cc3 : w'.cell? ⟨qs, 3, none⟩ = some (.int .u64 (P.wrd s 3)) := b.cell 3 _ rfl
        clear h hn hg b
        simp [Oper.wp, execOp, go_sem, r0, cc0, cc1, cc2, cc3]
        exact hK _ _ (Rg.grown_refl _ _) rfl
      · intro A w' K vals h hn hg hK
        have r0 : A.tmps[9]?.getD undef = (.int .i64 (n : Int)) := Rg.slot (h.1)
        clear h hn hg
        simp [Oper.wp, execOp, go_sem, r0]
        exact hK _ _ (Rg.grown_refl _ _) rfl
      · intro A w' K vals h hn hg hK
        have r0 : A.tmps[72]?.getD undef = vals 1 := Rg.slot h.2.1
        have s0 : vals 1 = .int .i64 (n : Int) := hn.1
        clear h hn
        simp [Oper.wp, go_sem, r0, s0]
        refine (full_any (n : Int) w').mono ?_
        rintro e w'' ⟨rfl, hb⟩
        exact hK _ _ (grown_of_below hb _) rfl
      · intro A w' K vals h hn hg hK
        have r0 : A.tmps[71]?.getD undef = vals 0 := Rg.slot h.2.1
        have r1 : A.tmps[73]?.getD undef = vals 2 := Rg.slot h.2.2.1
        have s0 : vals 0 = .agg #[.int .u64 (P.wrd s 0), .int .u64 (P.wrd s 1), .int .u64 (P.wrd s 2), .int .u64 (P.wrd s 3)] := hn.1
        have s1 : vals 2 = .agg #[.int .u64 (P.wrd (P.full (n : Int)) 0), .int .u64 (P.wrd (P.full (n : Int)) 1), .int .u64 (P.wrd (P.full (n : Int)) 2), .int .u64 (P.wrd (P.full (n : Int)) 3)] := hn.2.1
        clear h hn
        simp [Oper.wp, go_sem, r0, r1, s0, s1]
        refine (and_any s (P.full (n : Int)) w').mono ?_
        rintro e w'' ⟨rfl, hb⟩
        rw [HI.out]
        exact hK _ _ (grown_of_below hb _) rfl
      · intro A w' K vals h hn hg hK
        clear h hn
        simp [Oper.wp, execOp, go_sem]
        exact hK _ _ (World.grownBy_alloc _ _ _) ⟨_, rfl, hg.size, Box.new _ _ _⟩
    · refine ⟨?_, ?_, ?_, ?_, ?_, trivial⟩
      · exact fun _ _ _ _ _ _ h => h
      · exact fun _ _ _ _ _ _ h => h
      · exact fun _ _ _ _ _ _ h => h
      · exact fun _ _ _ _ _ _ h => h
      · exact fun _ _ _ _ _ h ⟨q, hv, hq, hb⟩ => ⟨q, hv, hq, hb.keep h⟩
    · intro vals w8 G hg hS hG
      have s3 : vals 3 = .agg #[.int .u64 (P.wrd I 0), .int .u64 (P.wrd I 1), .int .u64 (P.wrd I 2), .int .u64 (P.wrd I 3)] := hS.2.2.2.1
      obtain ⟨qi, s4, hq, hbi⟩ : ∃ q, vals 4 = .pointer (some ⟨q, 0, none⟩) ∧ w7.heap.size ≤ q ∧ Box w8 q 47 #[.int .u64 0, .int .u64 0, .int .u64 0, .int .u64 0] := hS.2.2.2.2.1
      clear hS
      replace BQg := Lib.hid (BQg.out.keep (grown_of_below (below_of_grown hg) none))
      replace BQs := Lib.hid (BQs.out.keep (grown_of_below (below_of_grown hg) none))
      replace BQv := Lib.hid (BQv.out.keep (grown_of_below (below_of_grown hg) none))
      replace W := Lib.hid (W.out.trans ((below_of_grown hg).mono W.out.size))
      replace T := Lib.hid (T.out.on (below_of_grown hg))
      replace BQx := Lib.hid (BQx.out.keep (grown_of_below (below_of_grown hg) none))
      replace Ox := Lib.hid (Ox.out.grown (grown_of_below (below_of_grown hg) none))
      replace BQy := Lib.hid (BQy.out.keep (grown_of_below (below_of_grown hg) none))
      replace Oy := Lib.hid (Oy.out.grown (grown_of_below (below_of_grown hg) none))
      have Jy := Lib.hid (own_grown Jy.out (grown_of_below (below_of_grown hg) none))
      have hk1 : Rk.Keeps (KG w7.heap.size 47) w8 ((((w8.setCell ⟨qi, 0, none⟩ (.int .u64 (P.wrd I 0))).setCell ⟨qi, 1, none⟩ (.int .u64 (P.wrd I 1))).setCell ⟨qi, 2, none⟩ (.int .u64 (P.wrd I 2))).setCell ⟨qi, 3, none⟩ (.int .u64 (P.wrd I 3))) := (((keeps_set hbi hq 0 _).trans (keeps_set (hbi.set 0 _) hq 1 _)).trans (keeps_set ((hbi.set 0 _).set 1 _) hq 2 _)).trans (keeps_set (((hbi.set 0 _).set 1 _).set 2 _) hq 3 _)
      have qc0 : w8.cell? ⟨qi, 0, none⟩ = some (.int .u64 0) := hbi.cell 0 _ rfl
      have qc1 : w8.cell? ⟨qi, 1, none⟩ = some (.int .u64 0) := hbi.cell 1 _ rfl
      have qc2 : w8.cell? ⟨qi, 2, none⟩ = some (.int .u64 0) := hbi.cell 2 _ rfl
      have qc3 : w8.cell? ⟨qi, 3, none⟩ = some (.int .u64 0) := hbi.cell 3 _ rfl
      have qf0 : w8.frozen? ⟨qi, 0, none⟩ = false := hbi.frozen 0
      have qf1 : w8.frozen? ⟨qi, 1, none⟩ = false := hbi.frozen 1
      have qf2 : w8.frozen? ⟨qi, 2, none⟩ = false := hbi.frozen 2
      have qf3 : w8.frozen? ⟨qi, 3, none⟩ = false := hbi.frozen 3
      have hbe : Below w7.heap.size w8 ((((w8.setCell ⟨qi, 0, none⟩ (.int .u64 (P.wrd I 0))).setCell ⟨qi, 1, none⟩ (.int .u64 (P.wrd I 1))).setCell ⟨qi, 2, none⟩ (.int .u64 (P.wrd I 2))).setCell ⟨qi, 3, none⟩ (.int .u64 (P.wrd I 3))) := (((((Below.refl _ _).setCell (p := ⟨qi, 0, none⟩) hq _).setCell (p := ⟨qi, 1, none⟩) hq _).setCell (p := ⟨qi, 2, none⟩) hq _).setCell (p := ⟨qi, 3, none⟩) hq _)
      have BQi := Lib.hid ((((hbi.set 0 (.int .u64 (P.wrd I 0))).set 1 (.int .u64 (P.wrd I 1))).set 2 (.int .u64 (P.wrd I 2))).set 3 (.int .u64 (P.wrd I 3)))
      replace BQg := Lib.hid (BQg.out.other hk1 (by decide))
      replace BQs := Lib.hid (BQs.out.other hk1 (by decide))
      replace BQv := Lib.hid (BQv.out.other hk1 (by decide))
      replace BQx := Lib.hid (BQx.out.other hk1 (by decide))
      replace BQy := Lib.hid (BQy.out.other hk1 (by decide))
      replace Ox := Lib.hid (Ox.out.other hk1 (by decide) (by decide))
      replace Oy := Lib.hid (Oy.out.other hk1 (by decide) (by decide))
      have Jy := Lib.hid (own_other Jy.out hk1 (by decide))
      have T := Lib.hid (T7.out.on ((below_of_grown hg).trans hbe))
      replace W := Lib.hid (W.out.trans (hbe.mono LW7.out))
      clear hk1 hbe hbi hg
      refine hG ?_
      clear hG
      simp [List.dropLast, Rg.putAll, Oper.wp, execOp, go_sem, s3, s4, qc0, qc1, qc2, qc3, qf0, qf1, qf2, qf3]
      clear s3 s4 qc0 qc1 qc2 qc3 qf0 qf1 qf2 qf3
      generalize ((((w8.setCell ⟨qi, 0, none⟩ (.int .u64 (P.wrd I 0))).setCell ⟨qi, 1, none⟩ (.int .u64 (P.wrd I 1))).setCell ⟨qi, 2, none⟩ (.int .u64 (P.wrd I 2))).setCell ⟨qi, 3, none⟩ (.int .u64 (P.wrd I 3))) = w9 at BQi BQg BQs BQv W T BQx Ox BQy Oy Jy ⊢
      have NOP := Lib.hid (show (∀ i, i < n → I.getLsbD i = true → P.ofL (g.moves.getD i []) &&& I ≠ 0#256) → I = 0#256 by
        intro h
        have h2 := P.no_part HR.out HHS.out
        rw [HI0.out, HN.out] at h2
        exact h2 h)
      have IV := Lib.hid (InvN.mk BQg.out BQi.out W.out T.out : InvN w qg qi I #[.slice (some ⟨ga, gao, none⟩) n gak, .slice (some ⟨gb, gbo, none⟩) n gbk, .slice (some ⟨gc, gco, none⟩) n gck] w9)
      clear BQx Ox BQy Oy Jy
      go_wp2_with fail
      go_loopw [18] (fun i wr => ∃ k : Nat, k ≤ n ∧ i = .int .i64 k ∧ InvN w qg qi I #[.slice (some ⟨ga, gao, none⟩) n gak, .slice (some ⟨gb, gbo, none⟩) n gbk, .slice (some ⟨gc, gco, none⟩) n gck] wr ∧ ∀ j, j < k → I.getLsbD j = true → P.ofL (g.moves.getD j []) &&& I ≠ 0#256) (fun i _ => n - (intOf i).toNat)
      case atStart => exact ⟨0, Nat.zero_le _, rfl, IV.out, fun j h => by omega⟩
      case round =>
        obtain ⟨k, hk, rfl, hI, hall⟩ := hrel
        have IV := Lib.hid hI
        have ALL_ := Lib.hid hall
        have hk0 : (0 : Int) ≤ (k : Int) := Int.natCast_nonneg _
        clear hI hall
        by_cases hlt : k < n
        · have fk : decide ((k : Int) < (n : Int)) = true := decide_eq_true (by omega)
          have il : (k : Int) < (n : Int) := by omega
          obtain ⟨xm, cxm, hxm⟩ := GC.out wr IV.out.fw k hlt
          obtain ⟨l, hl⟩ : ∃ l, g.moves.getD k [] = l := ⟨_, rfl⟩
          rw [hl] at hxm
          have HL := Lib.hid hl
          have k0 : ∀ (d : Nat) (os : Array Obj), (grow (redrawn wr d) os).cell? ⟨qg, 0, none⟩ = some (.slice (some ⟨ga, gao, none⟩) n gak) := fun d os => ((Lib.hid IV.out.fg).out.keep (grown_of_below (below_regrown wr d os) none)).cell 0 _ rfl
          have k1 : ∀ (d : Nat) (os : Array Obj), (grow (redrawn wr d) os).cell? ⟨qg, 1, none⟩ = some (.slice (some ⟨gb, gbo, none⟩) n gbk) := fun d os => ((Lib.hid IV.out.fg).out.keep (grown_of_below (below_regrown wr d os) none)).cell 1 _ rfl
          have k2 : ∀ (d : Nat) (os : Array Obj), (grow (redrawn wr d) os).cell? ⟨qg, 2, none⟩ = some (.slice (some ⟨gc, gco, none⟩) n gck) := fun d os => ((Lib.hid IV.out.fg).out.keep (grown_of_below (below_regrown wr d os) none)).cell 2 _ rfl
          have l0 : ∀ (d : Nat) (os : Array Obj), (grow (redrawn wr d) os).cell? ⟨qi, 0, none⟩ = some (.int .u64 (P.wrd I 0)) := fun d os => ((Lib.hid IV.out.fi).out.keep (grown_of_below (below_regrown wr d os) none)).cell 0 _ rfl
          have l1 : ∀ (d : Nat) (os : Array Obj), (grow (redrawn wr d) os).cell? ⟨qi, 1, none⟩ = some (.int .u64 (P.wrd I 1)) := fun d os => ((Lib.hid IV.out.fi).out.keep (grown_of_below (below_regrown wr d os) none)).cell 1 _ rfl
          have l2 : ∀ (d : Nat) (os : Array Obj), (grow (redrawn wr d) os).cell? ⟨qi, 2, none⟩ = some (.int .u64 (P.wrd I 2)) := fun d os => ((Lib.hid IV.out.fi).out.keep (grown_of_below (below_regrown wr d os) none)).cell 2 _ rfl
          have l3 : ∀ (d : Nat) (os : Array Obj), (grow (redrawn wr d) os).cell? ⟨qi, 3, none⟩ = some (.int .u64 (P.wrd I 3)) := fun d os => ((Lib.hid IV.out.fi).out.keep (grown_of_below (below_regrown wr d os) none)).cell 3 _ rfl
          have m0 := fun d os => cell_regrown cxm d os
          have kH := rHas wr I (k : Int)
          have kO := rOf wr xm l hxm
          have kA := rAnd wr (P.ofL l) I
          obtain ⟨bt, hbt⟩ : ∃ b, P.has I (k : Int) = b := ⟨_, rfl⟩
          rw [hbt] at kH
          have HBT := Lib.hid (show I.getLsbD k = bt by rw [← hbt]; exact (P.has_nat I k).symm)
          obtain ⟨X, hX⟩ : ∃ X, P.ofL l &&& I = X := ⟨_, rfl⟩
          rw [hX] at kA
          have kL := rLeast wr X IV.out.ft
          have kX := rHas wr X (P.least X)
          obtain ⟨xb, hxb⟩ : ∃ b, P.has X (P.least X) = b := ⟨_, rfl⟩
          rw [hxb] at kX
          have HX := Lib.hid hX
          have HXB := Lib.hid hxb
          clear hl hxm cxm hbt hX hxb
          cases bt with
          | false =>
            go_wp2_with fail
            refine wp_region_quiet_below (by kernel_rfl) (by kernel_rfl) ?_
            repeat (first | go_big_quiet_step ((go_at_call 32; with_reducible exact kH _ _)) | quiet_step ((go_at_call 32; with_reducible exact kH _ _)))
            refine wpQuiet_nil ?_
            intro _ hw'
            obtain ⟨⟨dq, osq⟩, hw''⟩ := hw'
            subst hw''
            clear k0 k1 k2 l0 l1 l2 l3 m0 kH kO kA kL kX
            go_wp2_with fail
            go_roundw
            case rel => exact ⟨k + 1, by omega, by go_num, IV.out.on (below_regrown wr dq osq), fun j hj hb => by
              by_cases e : j = k
              · subst e; rw [HBT.out] at hb; cases hb
              · exact ALL_.out j (by omega) hb⟩
            case measure => simp [intOf]; omega
          | true =>
            go_wp2_with fail
            refine wp_region_quiet_below (by kernel_rfl) (by kernel_rfl) ?_
            repeat (first | go_big_quiet_step (first | (go_at_call 32; with_reducible exact kH _ _) | (go_at_call 32; with_reducible exact kX _ _) | (go_at_call 33; with_reducible exact kO _ _) | (go_at_call 31; with_reducible exact kA _ _) | (go_at_call 34; with_reducible exact kL _ _)) | quiet_step (first | (go_at_call 32; with_reducible exact kH _ _) | (go_at_call 32; with_reducible exact kX _ _) | (go_at_call 33; with_reducible exact kO _ _) | (go_at_call 31; with_reducible exact kA _ _) | (go_at_call 34; with_reducible exact kL _ _)))
            refine wpQuiet_nil ?_
            intro _ hw'
            obtain ⟨⟨dq, osq⟩, hw''⟩ := hw'
            subst hw''
            clear k0 k1 k2 l0 l1 l2 l3 m0 kH kO kA kL kX
            cases xb with
            | false =>
              go_wp2_with fail
              exact bodyPost_ret (v := .bool true) (by simp [results, Tryd.results8, go_sem]) rfl ⟨rfl, (IV.out.on (below_regrown wr dq osq)).fw⟩
            | true =>
              go_wp2_with fail
              go_roundw
              case rel => exact ⟨k + 1, by omega, by go_num, IV.out.on (below_regrown wr dq osq), fun j hj hb => by
                by_cases e : j = k
                · subst e
                  rw [HL.out, HX.out]
                  intro e0
                  have := HXB.out
                  rw [e0] at this
                  revert this
                  decide +kernel
                · exact ALL_.out j (by omega) hb⟩
              case measure => simp [intOf]; omega
        · obtain rfl : k = n := by omega
          have fk : decide ((k : Int) < (k : Int)) = false := decide_eq_false (Int.lt_irrefl _)
          obtain rfl : I = 0#256 := NOP.out ALL_.out
          have bb := (Lib.hid IV.out.fi).out
          have pc0 : wr.cell? ⟨qi, 0, none⟩ = some (.int .u64 (P.wrd 0#256 0)) := bb.cell 0 _ rfl
          have pc1 : wr.cell? ⟨qi, 1, none⟩ = some (.int .u64 (P.wrd 0#256 1)) := bb.cell 1 _ rfl
          have pc2 : wr.cell? ⟨qi, 2, none⟩ = some (.int .u64 (P.wrd 0#256 2)) := bb.cell 2 _ rfl
          have pc3 : wr.cell? ⟨qi, 3, none⟩ = some (.int .u64 (P.wrd 0#256 3)) := bb.cell 3 _ rfl
          clear bb
          have e2 : ∀ w, (binOp .eql 47 (.agg #[.int .u64 0, .int .u64 0, .int .u64 0, .int .u64 0]) (.agg #[.int .u64 0, .int .u64 0, .int .u64 0, .int .u64 0])).run Tryd.prog w = .ok (.bool true) w := fun w => by
            have h := set_eq 0#256 0#256 w
            rw [wrd_none 0 (by decide), wrd_none 1 (by decide), wrd_none 2 (by decide), wrd_none 3 (by decide), decide_eq_true rfl] at h
            exact h
          rw [wrd_none 0 (by decide)] at pc0
          rw [wrd_none 1 (by decide)] at pc1
          rw [wrd_none 2 (by decide)] at pc2
          rw [wrd_none 3 (by decide)] at pc3
          go_wp2_with fail
          exact bodyPost_ret (v := .bool true) (by simp [results, Tryd.results8, go_sem]) rfl ⟨rfl, IV.out.fw⟩
end W
end Go.Proofs.YtlbikfimfaecnaaDoor
