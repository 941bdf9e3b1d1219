/- DecompFewer: the walk. -/
import Derived.Test.YtpjmboonaciplaaDoorShown13
import Derived.Test.YtpjmboonaciplaaDoorFewM
import Derived.Test.YtpjmboonaciplaaDoorCls
import Derived.Test.YtpjmboonaciplaaDoorKeep
import Derived.Test.YtpjmboonaciplaaDoorSam
import Derived.Test.YtpjmboonaciplaaDoorCopy
import Derived.Test.YtpjmboonaciplaaDoorAlike13
import Derived.Deep.Cut
import Derived.Lib.Hide
import Derived.Deep.QuietTactic
import Derived.BigQuiet
import Derived.StillTailTactics
namespace Go.Proofs.YtpjmboonaciplaaDoor
open Go.RowKit
namespace W

theorem ROWS.ints {w : World} {lo n : Nat} {g : P.G} {p : Int} {S : BitVec 256} {c : List Int} {r : Value} {b : Nat} (h : ROWS w lo n g p S c r b) : Ints w r (lstI S) := by
  have hl : (lstI S).length = (P.lst S).length := by unfold lstI; rw [List.length_map]
  refine OwnI.ints (lo := lo) ?_ ?_
  · unfold OwnI
    rw [hl]
    exact h.1
  · rw [hl]
    unfold P.lst
    exact Nat.le_trans (List.length_filter_le _ _) (by simp)
theorem lstI_len (S : BitVec 256) : (lstI S).length = (P.lst S).length := by unfold lstI; rw [List.length_map]
theorem lst_short (S : BitVec 256) : (P.lst S).length ≤ 256 := by unfold P.lst; exact Nat.le_trans (List.length_filter_le _ _) (by simp)

theorem ofL_lst (S : BitVec 256) : P.ofL (lstI S) = S := P.set_ext fun x hx => by
  rw [P.getLsbD_ofL _ x hx, decide_eq_true_eq]
  unfold lstI
  rw [List.mem_map]
  constructor
  · rintro ⟨j, h1, h2⟩
    obtain rfl : j = x := by omega
    exact (P.mem_lst S j).1 h1
  · exact fun h => ⟨x, (P.mem_lst S x).2 h, rfl⟩
theorem off2 {hb kb q n m hk kk : Nat} (h1 : (Value.slice (some ⟨hb, 0, none⟩) n hk).ownBlock ≠ some q) (h2 : (Value.slice (some ⟨kb, 0, none⟩) m kk).ownBlock ≠ some q) : q ∉ [hb, kb] := by
  intro h
  rcases List.mem_cons.1 h with rfl | h
  · exact h1 rfl
  · exact h2 (by rw [List.mem_singleton.1 h]; rfl)
theorem own_sep {w : World} {lo lo' n m b : Nat} {v c : Value} {xs L : List Value} (h : w.ownsRow lo 3 1 v n xs) (hh : w.ownsRow lo' 22 1 c m L) (e : v.ownBlock = some b) : c.ownBlock ≠ some b := fun e2 => by
  rcases own_ne h hh (by decide) with h1 | h1
  · rw [h1] at e; cases e
  · exact h1 (by rw [e, e2])
theorem rows_off {w : World} {lo lo' n m kk kb : Nat} {L M : List Value} {ls : List (List Int)} (hr : OwnRows w lo L ls) (hh : w.ownsRow lo' 22 1 (.slice (some ⟨kb, 0, none⟩) n kk) m M) (j : Nat) (l : List Int) (x : Value) (hj : ls[j]? = some l) (hx : L[j]? = some x) : x.ownBlock ≠ some kb := fun e => by
  obtain ⟨y, hy, ho⟩ := hr j l hj
  rw [hx] at hy
  injection hy with hy
  subst hy
  exact own_sep ho hh e rfl
theorem getD_mem_ {l : List Int} {i : Nat} (hi : i < l.length) : l.getD i 0 ∈ l := by
  rw [List.getD_eq_getElem?_getD, List.getElem?_eq_getElem hi]
  exact List.getElem_mem hi
theorem few_mv0 {g : P.G} {X : BitVec 256} {c : List Int} {k : Nat} (hx : P.Bit X k) (ho : g.owner.getD k 0 = P.winOf X k) : mvF g 0 X c k = c.getD k (-1) := by
  unfold mvF
  rw [if_pos ⟨hx, by rw [ho]; unfold P.winOf; rw [if_pos hx]⟩]
theorem few_mv1 {g : P.G} {X Y : BitVec 256} {c : List Int} {k : Nat} (hy : P.Bit Y k) (hx : ¬ P.Bit X k) (ho : g.owner.getD k 0 = P.winOf X k) : mvF g 1 Y c k = c.getD k (-1) := by
  unfold mvF
  rw [if_pos ⟨hy, by rw [ho]; unfold P.winOf; rw [if_neg hx]⟩]
theorem moves_cell {w : World} {lo n b k : Nat} {g : P.G} {p : Int} {S : BitVec 256} {c : List Int} {z y : Int} (h : w.ownsRow lo 3 1 (.slice (some ⟨b, 0, none⟩) n n) n ((P.rowOf n (mvF g p S c)).map (Value.int .i64))) (_hn : g.owner.length = n) (hk : k < n) (hm : mvF g p S c k = y) (hz : y = z) (w' : World) (hg : w.grownBy w' none) : w'.cell? ⟨b, k, none⟩ = some (.int .i64 z) := by
  have h1 : OwnI w' lo (.slice (some ⟨b, 0, none⟩) n n) (P.rowOf n (mvF g p S c)) := by
    have h2 := own_grown h hg
    unfold OwnI
    rw [P.rowOf_len]
    exact h2
  rw [(rowOf_cell h1 hk).1, hm, hz]
set_option maxRecDepth 100000 in
set_option maxHeartbeats 4000000 in
theorem few_wrong_ (g : P.G) (hok : g.ok = false) (v kv : Value) (zs : List Int) (w : World) (hv : GameV w v g) (hk : Ints w kv zs) (hT : Tab w) : Calls Tryd.prog 7 #[v, kv] w fun e w' => e = .returned (.bool true) ∧ Below w.heap.size w w' := by
  have hq0 : g.right.2 ≠ 0 := by unfold P.G.ok at hok; exact beq_eq_false_iff_ne.1 hok
  have HV := Lib.hid hv
  have T := Lib.hid hT
  obtain ⟨a, b, c, rfl, -⟩ := hv
  obtain ⟨ak, kk, rfl, -⟩ := hk
  clear hok hT
  go_enter Tryd.func7, Tryd.ntmps7
  go_wp2_with fail
  have bx0 : Box (w.alloc (.cells #[a, b, c] 25)) (w.heap.size) 25 #[a, b, c] := Box.new w 25 #[a, b, c]
  have hbq : Below w.heap.size w (w.alloc (.cells #[a, b, c] 25)) := (Below.refl _ w).alloc (Nat.le_refl _) _
  have hle0 : w.heap.size ≤ w.heap.size := Nat.le_refl _
  generalize (w.alloc (.cells #[a, b, c] 25)) = w0 at bx0 hbq  ⊢
  have BQg := Lib.hid bx0
  have W := Lib.hid hbq
  have LEg := Lib.hid hle0
  clear hbq hle0 bx0 
  obtain ⟨qg, hqg⟩ : ∃ qg, w.heap.size = qg := ⟨_, rfl⟩
  rw [hqg] at BQg ⊢
  have LEg : Hid (w.heap.size ≤ qg) := Lib.hid (by omega)
  clear hqg
  refine (shown_any w0 (T.out.on W.out)).mono ?_
  rintro e w1 ⟨rfl, hb⟩
  replace BQg := Lib.hid (BQg.out.keep (grown_of_below hb none))
  replace W := Lib.hid (W.out.trans (hb.mono W.out.size))
  clear hb
  have hbb := BQg.out
  have gc0 : w1.cell? ⟨qg, 0, none⟩ = some a := hbb.cell 0 _ rfl
  have gc1 : w1.cell? ⟨qg, 1, none⟩ = some b := hbb.cell 1 _ rfl
  have gc2 : w1.cell? ⟨qg, 2, none⟩ = some c := hbb.cell 2 _ rfl
  clear hbb
  go_wp2_with fail
  clear gc0 gc1 gc2
  refine (right_any g _ _ (HV.out.on W.out)).mono ?_
  rintro e w2 ⟨rfl, hb⟩
  replace BQg := Lib.hid (BQg.out.keep (grown_of_below hb none))
  replace W := Lib.hid (W.out.trans (hb.mono W.out.size))
  clear hb
  obtain ⟨z, hz⟩ : ∃ z, g.right.2 = z := ⟨_, rfl⟩
  rw [hz] at hq0 ⊢
  have fq : (((z : Nat) : Int) != 0) = true := by rw [bne_iff_ne]; omega
  clear hz hq0
  go_wp2_with fail
  exact bodyPost_ret (v := .bool true) (by simp [results, Tryd.results7, go_sem]) rfl ⟨rfl, W.out⟩

set_option maxRecDepth 100000 in
set_option maxHeartbeats 8000000 in
theorem few_right_ (g : P.G) (hr : g.Right) (v kv : Value) (zs : List Int) (w : World) (hv : GameV w v g) (hk : Ints w kv zs) (hzb : ∀ z ∈ zs, -9223372036854775808 ≤ z ∧ z ≤ 9223372036854775807) (hT : Tab w) : Calls Tryd.prog 7 #[v, kv] w fun e w' => e = .returned (.bool true) ∧ Below w.heap.size w w' := by
  have HZB := Lib.hid hzb
  clear hzb
  have hq0 : g.right.2 = 0 := by have hok := (P.G.ok_iff g).2 hr; unfold P.G.ok at hok; exact beq_iff_eq.1 hok
  have HV := Lib.hid hv
  have HFI := Lib.hid hv.fits
  have T := Lib.hid hT
  have HR := Lib.hid hr
  obtain ⟨n, hn⟩ : ∃ n, g.owner.length = n := ⟨_, rfl⟩
  have hop := hr.prio
  have hmp := hr.moves
  have hmany := hr.many
  have h0 := hr.pos
  rw [hn] at hop hmp hmany h0
  obtain ⟨ba, oa, ka, bb, ob, kb, bc_, oc, kc, rfl, hco, -, hcr⟩ := hv.open_ hn hop hmp h0
  have HCO := Lib.hid hco
  have HCR := Lib.hid hcr
  clear hco hcr
  obtain ⟨ak, kk, rfl, -⟩ := id hk
  obtain ⟨zl, hzl⟩ : ∃ zl, zs.length = zl := ⟨_, rfl⟩
  have HZL := Lib.hid hzl
  have IK := Lib.hid hk
  rw [hzl]
  clear hzl
  have HN := Lib.hid hn
  have HPN := Lib.hid hop
  have HMN := Lib.hid hmp
  clear hr hn hop hmp hv hT hk
  go_enter Tryd.func7, Tryd.ntmps7
  go_wp2_with fail
  have bx0 : Box (w.alloc (.cells #[.slice (some ⟨ba, oa, none⟩) n ka, .slice (some ⟨bb, ob, none⟩) n kb, .slice (some ⟨bc_, oc, none⟩) n kc] 25)) (w.heap.size) 25 #[.slice (some ⟨ba, oa, none⟩) n ka, .slice (some ⟨bb, ob, none⟩) n kb, .slice (some ⟨bc_, oc, none⟩) n kc] := Box.new w 25 #[.slice (some ⟨ba, oa, none⟩) n ka, .slice (some ⟨bb, ob, none⟩) n kb, .slice (some ⟨bc_, oc, none⟩) n kc]
  have hbq : Below w.heap.size w (w.alloc (.cells #[.slice (some ⟨ba, oa, none⟩) n ka, .slice (some ⟨bb, ob, none⟩) n kb, .slice (some ⟨bc_, oc, none⟩) n kc] 25)) := (Below.refl _ w).alloc (Nat.le_refl _) _
  have hle0 : w.heap.size ≤ w.heap.size := Nat.le_refl _
  generalize (w.alloc (.cells #[.slice (some ⟨ba, oa, none⟩) n ka, .slice (some ⟨bb, ob, none⟩) n kb, .slice (some ⟨bc_, oc, none⟩) n kc] 25)) = w0 at bx0 hbq  ⊢
  have BQg := Lib.hid bx0
  have W := Lib.hid hbq
  have LEg := Lib.hid hle0
  clear hbq hle0 bx0 
  obtain ⟨qg, hqg⟩ : ∃ qg, w.heap.size = qg := ⟨_, rfl⟩
  rw [hqg] at BQg ⊢
  have LEg : Hid (w.heap.size ≤ qg) := Lib.hid (by omega)
  clear hqg
  refine (shown_any w0 (T.out.on W.out)).mono ?_
  rintro e w1 ⟨rfl, hb⟩
  replace BQg := Lib.hid (BQg.out.keep (grown_of_below hb none))
  replace W := Lib.hid (W.out.trans (hb.mono W.out.size))
  clear hb
  have hbb := BQg.out
  have gc0 : w1.cell? ⟨qg, 0, none⟩ = some (.slice (some ⟨ba, oa, none⟩) n ka) := hbb.cell 0 _ rfl
  have gc1 : w1.cell? ⟨qg, 1, none⟩ = some (.slice (some ⟨bb, ob, none⟩) n kb) := hbb.cell 1 _ rfl
  have gc2 : w1.cell? ⟨qg, 2, none⟩ = some (.slice (some ⟨bc_, oc, none⟩) n kc) := hbb.cell 2 _ rfl
  clear hbb
  go_wp2_with fail
  clear gc0 gc1 gc2
  refine (right_any g _ _ (HV.out.on W.out)).mono ?_
  rintro e w2 ⟨rfl, hb⟩
  replace BQg := Lib.hid (BQg.out.keep (grown_of_below hb none))
  replace W := Lib.hid (W.out.trans (hb.mono W.out.size))
  clear hb
  obtain ⟨z, hz⟩ : ∃ z, g.right.2 = z := ⟨_, rfl⟩
  rw [hz] at hq0 ⊢
  have fq : (((z : Nat) : Int) != 0) = false := by rw [bne_eq_false_iff_eq]; omega
  clear hz hq0
  have hbb := BQg.out
  have gc0 : w2.cell? ⟨qg, 0, none⟩ = some (.slice (some ⟨ba, oa, none⟩) n ka) := hbb.cell 0 _ rfl
  have gc1 : w2.cell? ⟨qg, 1, none⟩ = some (.slice (some ⟨bb, ob, none⟩) n kb) := hbb.cell 1 _ rfl
  have gc2 : w2.cell? ⟨qg, 2, none⟩ = some (.slice (some ⟨bc_, oc, none⟩) n kc) := hbb.cell 2 _ rfl
  clear hbb
  go_wp2_with fail
  clear gc0 gc1 gc2
  refine (decomp_any g HR.out n HN.out _ w2 (HV.out.on W.out) (T.out.on W.out)).mono ?_
  rintro e w3 ⟨Xa, Ya, cha, depa, ra0, ra1, ba0, ba1, rfl, hd, hb⟩
  obtain ⟨xa0, ka0, rfl, -⟩ := own_at hd.zero.1
  obtain ⟨xa1, ka1, rfl, -⟩ := own_at hd.one.1
  have Da := Lib.hid hd
  have J0 := Lib.hid hd.zero.2.1
  have J1 := Lib.hid hd.one.2.1
  have Ia0 := Lib.hid hd.zero.ints
  have Ia1 := Lib.hid hd.one.ints
  replace BQg := Lib.hid (BQg.out.keep (grown_of_below hb none))
  replace W := Lib.hid (W.out.trans (hb.mono W.out.size))
  clear hb hd
  go_upto_region 6 with (fail)
  have bq : Box (w3.alloc (.cells #[.slice xa0 (P.lst Xa).length ka0, .slice xa1 (P.lst Ya).length ka1, .slice (some ⟨ba0, 0, none⟩) n n, .slice (some ⟨ba1, 0, none⟩) n n] 32)) w3.heap.size 32 #[.slice xa0 (P.lst Xa).length ka0, .slice xa1 (P.lst Ya).length ka1, .slice (some ⟨ba0, 0, none⟩) n n, .slice (some ⟨ba1, 0, none⟩) n n] := Box.new _ _ _
  have hgq := World.grownBy_alloc w3 (.cells #[.slice xa0 (P.lst Xa).length ka0, .slice xa1 (P.lst Ya).length ka1, .slice (some ⟨ba0, 0, none⟩) n n, .slice (some ⟨ba1, 0, none⟩) n n] 32) none
  replace BQg := Lib.hid (BQg.out.keep hgq)
  replace W := Lib.hid (W.out.trans ((below_of_grown hgq).mono W.out.size))
  replace Ia0 := Lib.hid (Ia0.out.on (below_of_grown hgq))
  replace Ia1 := Lib.hid (Ia1.out.on (below_of_grown hgq))
  have J0 := Lib.hid (own_grown J0.out hgq)
  have J1 := Lib.hid (own_grown J1.out hgq)
  generalize (w3.alloc (.cells #[.slice xa0 (P.lst Xa).length ka0, .slice xa1 (P.lst Ya).length ka1, .slice (some ⟨ba0, 0, none⟩) n n, .slice (some ⟨ba1, 0, none⟩) n n] 32)) = wb at bq J0 J1 BQg W Ia0 Ia1 ⊢
  generalize w3.heap.size = qa at bq ⊢
  have BQa := Lib.hid bq
  clear bq hgq
  have hbb := BQg.out
  have gc0 : wb.cell? ⟨qg, 0, none⟩ = some (.slice (some ⟨ba, oa, none⟩) n ka) := hbb.cell 0 _ rfl
  have gc1 : wb.cell? ⟨qg, 1, none⟩ = some (.slice (some ⟨bb, ob, none⟩) n kb) := hbb.cell 1 _ rfl
  have gc2 : wb.cell? ⟨qg, 2, none⟩ = some (.slice (some ⟨bc_, oc, none⟩) n kc) := hbb.cell 2 _ rfl
  clear hbb
  have hbb := BQa.out
  have pc0 : wb.cell? ⟨qa, 0, none⟩ = some (.slice xa0 (P.lst Xa).length ka0) := hbb.cell 0 _ rfl
  have pc1 : wb.cell? ⟨qa, 1, none⟩ = some (.slice xa1 (P.lst Ya).length ka1) := hbb.cell 1 _ rfl
  have pc2 : wb.cell? ⟨qa, 2, none⟩ = some (.slice (some ⟨ba0, 0, none⟩) n n) := hbb.cell 2 _ rfl
  have pc3 : wb.cell? ⟨qa, 3, none⟩ = some (.slice (some ⟨ba1, 0, none⟩) n n) := hbb.cell 3 _ rfl
  clear hbb
  have fl : (((n : Nat) : Int) != ((n : Nat) : Int)) = false := by rw [bne_eq_false_iff_eq]
  go_upto_region 8 with (fail)
  go_wp2_with fail
  clear gc0 gc1 gc2 pc0 pc1 pc2 pc3
  refine (of_ints Ia0.out).mono ?_
  rintro e w4 ⟨rfl, hb⟩
  rw [ofL_lst]
  replace BQg := Lib.hid (BQg.out.keep (grown_of_below hb none))
  replace BQa := Lib.hid (BQa.out.keep (grown_of_below hb none))
  replace Ia0 := Lib.hid (Ia0.out.on hb)
  replace Ia1 := Lib.hid (Ia1.out.on hb)
  have J0 := Lib.hid (own_grown J0.out (grown_of_below hb none))
  have J1 := Lib.hid (own_grown J1.out (grown_of_below hb none))
  replace W := Lib.hid (W.out.trans (hb.mono W.out.size))
  clear hb
  go_upto_region 9 with (fail)
  have bq : Box (w4.alloc (.cells #[.int .u64 (P.wrd Xa 0), .int .u64 (P.wrd Xa 1), .int .u64 (P.wrd Xa 2), .int .u64 (P.wrd Xa 3)] 45)) w4.heap.size 45 #[.int .u64 (P.wrd Xa 0), .int .u64 (P.wrd Xa 1), .int .u64 (P.wrd Xa 2), .int .u64 (P.wrd Xa 3)] := Box.new _ _ _
  have hgq := World.grownBy_alloc w4 (.cells #[.int .u64 (P.wrd Xa 0), .int .u64 (P.wrd Xa 1), .int .u64 (P.wrd Xa 2), .int .u64 (P.wrd Xa 3)] 45) none
  replace BQg := Lib.hid (BQg.out.keep hgq)
  replace BQa := Lib.hid (BQa.out.keep hgq)
  replace Ia0 := Lib.hid (Ia0.out.on (below_of_grown hgq))
  replace Ia1 := Lib.hid (Ia1.out.on (below_of_grown hgq))
  replace W := Lib.hid (W.out.trans ((below_of_grown hgq).mono W.out.size))
  have J0 := Lib.hid (own_grown J0.out hgq)
  have J1 := Lib.hid (own_grown J1.out hgq)
  generalize (w4.alloc (.cells #[.int .u64 (P.wrd Xa 0), .int .u64 (P.wrd Xa 1), .int .u64 (P.wrd Xa 2), .int .u64 (P.wrd Xa 3)] 45)) = wc at bq J0 J1 BQg BQa Ia0 Ia1 W ⊢
  generalize w4.heap.size = qs at bq ⊢
  have BQs := Lib.hid bq
  clear bq hgq
  have hbb := BQg.out
  have gc0 : wc.cell? ⟨qg, 0, none⟩ = some (.slice (some ⟨ba, oa, none⟩) n ka) := hbb.cell 0 _ rfl
  have gc1 : wc.cell? ⟨qg, 1, none⟩ = some (.slice (some ⟨bb, ob, none⟩) n kb) := hbb.cell 1 _ rfl
  have gc2 : wc.cell? ⟨qg, 2, none⟩ = some (.slice (some ⟨bc_, oc, none⟩) n kc) := hbb.cell 2 _ rfl
  clear hbb
  go_wp2_with fail
  clear gc0 gc1 gc2
  have HLC := Lib.hid (show w.heap.size ≤ wc.heap.size from W.out.size)
  have HIA0 := Lib.hid Ia0.out
  have HIA1 := Lib.hid Ia1.out
  have Wc := Lib.hid (Below.refl wc.heap.size wc)
  clear Ia0 Ia1
  refine (copy_any g _ _ (HV.out.on W.out)).mono ?_
  rintro e w5 ⟨oav, obv, ocv, hL, rfl, ho, hb⟩
  obtain ⟨hoa, hka, rfl, -⟩ := own_form ho.owner (by rw [HN.out]; exact h0)
  obtain ⟨hob, hkb, rfl, -⟩ := own_form ho.prio (by rw [HPN.out]; exact h0)
  obtain ⟨hoc, hkc, rfl, -⟩ := own_form ho.head (by rw [HMN.out]; exact h0)
  rw [HN.out, HPN.out, HMN.out] at ho ⊢
  simp only []
  replace BQg := Lib.hid (BQg.out.keep (grown_of_below hb none))
  replace BQa := Lib.hid (BQa.out.keep (grown_of_below hb none))
  replace BQs := Lib.hid (BQs.out.keep (grown_of_below hb none))
  have J0 := Lib.hid (own_grown J0.out (grown_of_below hb none))
  have J1 := Lib.hid (own_grown J1.out (grown_of_below hb none))
  replace W := Lib.hid (W.out.trans (hb.mono W.out.size))
  replace Wc := Lib.hid (Wc.out.trans (hb.mono Wc.out.size))
  have Oh := Lib.hid ho
  clear hb ho
  go_upto_region 10 with (fail)
  have bq : Box (w5.alloc (.cells #[.slice (some ⟨hoa, 0, none⟩) n hka, .slice (some ⟨hob, 0, none⟩) n hkb, .slice (some ⟨hoc, 0, none⟩) n hkc] 25)) w5.heap.size 25 #[.slice (some ⟨hoa, 0, none⟩) n hka, .slice (some ⟨hob, 0, none⟩) n hkb, .slice (some ⟨hoc, 0, none⟩) n hkc] := Box.new _ _ _
  have hgq := World.grownBy_alloc w5 (.cells #[.slice (some ⟨hoa, 0, none⟩) n hka, .slice (some ⟨hob, 0, none⟩) n hkb, .slice (some ⟨hoc, 0, none⟩) n hkc] 25) none
  replace BQg := Lib.hid (BQg.out.keep hgq)
  replace BQa := Lib.hid (BQa.out.keep hgq)
  replace BQs := Lib.hid (BQs.out.keep hgq)
  replace W := Lib.hid (W.out.trans ((below_of_grown hgq).mono W.out.size))
  replace Wc := Lib.hid (Wc.out.trans ((below_of_grown hgq).mono Wc.out.size))
  replace Oh := Lib.hid (Oh.out.grown hgq)
  have J0 := Lib.hid (own_grown J0.out hgq)
  have J1 := Lib.hid (own_grown J1.out hgq)
  generalize (w5.alloc (.cells #[.slice (some ⟨hoa, 0, none⟩) n hka, .slice (some ⟨hob, 0, none⟩) n hkb, .slice (some ⟨hoc, 0, none⟩) n hkc] 25)) = wd at bq J0 J1 BQg BQa BQs W Wc Oh ⊢
  generalize w5.heap.size = qh at bq ⊢
  have BQh := Lib.hid bq
  clear bq hgq
  have HLD := Lib.hid (show w.heap.size ≤ wd.heap.size from W.out.size)
  have hbb := BQg.out
  have gc0 : wd.cell? ⟨qg, 0, none⟩ = some (.slice (some ⟨ba, oa, none⟩) n ka) := hbb.cell 0 _ rfl
  have gc1 : wd.cell? ⟨qg, 1, none⟩ = some (.slice (some ⟨bb, ob, none⟩) n kb) := hbb.cell 1 _ rfl
  have gc2 : wd.cell? ⟨qg, 2, none⟩ = some (.slice (some ⟨bc_, oc, none⟩) n kc) := hbb.cell 2 _ rfl
  clear hbb
  go_wp2_with fail
  clear gc0 gc1 gc2
  have HLH := Lib.hid (own_lt Oh.out.head hoc rfl)
  refine (copy_any g _ _ (HV.out.on W.out)).mono ?_
  rintro e w6 ⟨oav, obv, ocv, kL, rfl, ho, hb⟩
  obtain ⟨koa, kka, rfl, -⟩ := own_form ho.owner (by rw [HN.out]; exact h0)
  obtain ⟨kob, kkb, rfl, -⟩ := own_form ho.prio (by rw [HPN.out]; exact h0)
  obtain ⟨koc, kkc, rfl, -⟩ := own_form ho.head (by rw [HMN.out]; exact h0)
  rw [HN.out, HPN.out, HMN.out] at ho ⊢
  simp only []
  replace BQg := Lib.hid (BQg.out.keep (grown_of_below hb none))
  replace BQa := Lib.hid (BQa.out.keep (grown_of_below hb none))
  replace BQs := Lib.hid (BQs.out.keep (grown_of_below hb none))
  have J0 := Lib.hid (own_grown J0.out (grown_of_below hb none))
  have J1 := Lib.hid (own_grown J1.out (grown_of_below hb none))
  replace W := Lib.hid (W.out.trans (hb.mono W.out.size))
  replace Wc := Lib.hid (Wc.out.trans (hb.mono Wc.out.size))
  replace BQh := Lib.hid (BQh.out.keep (grown_of_below hb none))
  replace Oh := Lib.hid (Oh.out.grown (grown_of_below hb none))
  have Ok := Lib.hid ho
  clear hb ho
  go_upto_region 11 with (fail)
  have bq : Box (w6.alloc (.cells #[.slice (some ⟨koa, 0, none⟩) n kka, .slice (some ⟨kob, 0, none⟩) n kkb, .slice (some ⟨koc, 0, none⟩) n kkc] 25)) w6.heap.size 25 #[.slice (some ⟨koa, 0, none⟩) n kka, .slice (some ⟨kob, 0, none⟩) n kkb, .slice (some ⟨koc, 0, none⟩) n kkc] := Box.new _ _ _
  have hgq := World.grownBy_alloc w6 (.cells #[.slice (some ⟨koa, 0, none⟩) n kka, .slice (some ⟨kob, 0, none⟩) n kkb, .slice (some ⟨koc, 0, none⟩) n kkc] 25) none
  replace BQg := Lib.hid (BQg.out.keep hgq)
  replace BQa := Lib.hid (BQa.out.keep hgq)
  replace BQs := Lib.hid (BQs.out.keep hgq)
  replace W := Lib.hid (W.out.trans ((below_of_grown hgq).mono W.out.size))
  replace Wc := Lib.hid (Wc.out.trans ((below_of_grown hgq).mono Wc.out.size))
  replace BQh := Lib.hid (BQh.out.keep hgq)
  replace Oh := Lib.hid (Oh.out.grown hgq)
  replace Ok := Lib.hid (Ok.out.grown hgq)
  have J0 := Lib.hid (own_grown J0.out hgq)
  have J1 := Lib.hid (own_grown J1.out hgq)
  generalize (w6.alloc (.cells #[.slice (some ⟨koa, 0, none⟩) n kka, .slice (some ⟨kob, 0, none⟩) n kkb, .slice (some ⟨koc, 0, none⟩) n kkc] 25)) = we at bq J0 J1 BQg BQa BQs W Wc BQh Oh Ok ⊢
  generalize w6.heap.size = qk at bq ⊢
  have BQk := Lib.hid bq
  clear bq hgq
  have HHK := Lib.hid (show hoc ≠ koc by
    have h1 := HLH.out.2
    have h2 := (own_lt Ok.out.head koc rfl).1
    omega)
  have HX := Lib.hid (show ∀ x ∈ [hoc, koc], w.heap.size ≤ x by
    intro x hx
    have h1 := HLC.out
    have h2 := HLD.out
    have h3 := HLH.out.1
    have h4 := (own_lt Ok.out.head koc rfl).1
    rcases List.mem_cons.1 hx with rfl | hx
    · omega
    · rw [List.mem_singleton.1 hx]; omega)
  have HOg := Lib.hid (off2 (own_box Oh.out.head BQg.out (by decide)) (own_box Ok.out.head BQg.out (by decide)))
  have HOa := Lib.hid (off2 (own_box Oh.out.head BQa.out (by decide)) (own_box Ok.out.head BQa.out (by decide)))
  have HOs := Lib.hid (off2 (own_box Oh.out.head BQs.out (by decide)) (own_box Ok.out.head BQs.out (by decide)))
  have HOh := Lib.hid (off2 (own_box Oh.out.head BQh.out (by decide)) (own_box Ok.out.head BQh.out (by decide)))
  have HOk := Lib.hid (off2 (own_box Oh.out.head BQk.out (by decide)) (own_box Ok.out.head BQk.out (by decide)))
  have HX2 := Lib.hid (show ∀ x ∈ [hoc, koc], wc.heap.size ≤ x by
    intro x hx
    have h3 := HLH.out.1
    have h5 := HLH.out.2
    have h4 := (own_lt Ok.out.head koc rfl).1
    rcases List.mem_cons.1 hx with rfl | hx
    · omega
    · rw [List.mem_singleton.1 hx]; omega)
  have HFI2 := Lib.hid (fun (j : Nat) (l : List Int) (h : g.moves[j]? = some l) => HFI.out.2.2.2 j l h)
  have HS := Lib.hid (show FewS we wc.heap.size wd.heap.size hoc koc n hkc kkc g Xa cha (keepE g zs) 0 we from ⟨Rk.Keeps.refl _ _,
    (RowsF.start (rows_off Oh.out.rows Ok.out.head) HMN.out Oh.out.head Oh.out.rows HFI2.out).same fun j _ => (parts_start g Xa cha (keepE g zs) j).1,
    (RowsF.start (rows_off Ok.out.rows Oh.out.head) HMN.out Ok.out.head Ok.out.rows HFI2.out).same fun j _ => (parts_start g Xa cha (keepE g zs) j).2⟩)
  go_wp2_with fail
  go_loopw [13] (fun iv wq => ∃ k : Nat, iv = .int .i64 (k : Int) ∧ k ≤ n ∧ FewS we wc.heap.size wd.heap.size hoc koc n hkc kkc g Xa cha (keepE g zs) k wq) (fun iv _ => n - (intOf iv).toNat)
  case atStart => exact ⟨0, rfl, Nat.zero_le _, HS.out⟩
  case round =>
    obtain ⟨k, rfl, hkn, hfr⟩ := hrel
    have HF := Lib.hid hfr
    clear hfr
    have BRg := Lib.hid (kx_box HF.out.keep BQg.out BQg.out.lt HOg.out)
    have BRa := Lib.hid (kx_box HF.out.keep BQa.out BQa.out.lt HOa.out)
    have BRs := Lib.hid (kx_box HF.out.keep BQs.out BQs.out.lt HOs.out)
    have BRh := Lib.hid (kx_box HF.out.keep BQh.out BQh.out.lt HOh.out)
    have BRk := Lib.hid (kx_box HF.out.keep BQk.out BQk.out.lt HOk.out)
    have WR := Lib.hid (W.out.trans (kx_below HF.out.keep HX.out W.out.size (Nat.le_refl _)))
    have hbb := BRg.out
    have gc0 : wr.cell? ⟨qg, 0, none⟩ = some (.slice (some ⟨ba, oa, none⟩) n ka) := hbb.cell 0 _ rfl
    have gc1 : wr.cell? ⟨qg, 1, none⟩ = some (.slice (some ⟨bb, ob, none⟩) n kb) := hbb.cell 1 _ rfl
    have gc2 : wr.cell? ⟨qg, 2, none⟩ = some (.slice (some ⟨bc_, oc, none⟩) n kc) := hbb.cell 2 _ rfl
    clear hbb
    by_cases hlt : k < n
    · replace hkn := hlt
      clear hlt
      have hki : (k : Int) < (n : Int) := by omega
      have hk0 : (0 : Int) ≤ (k : Int) := by omega
      have fk : decide ((k : Int) < (n : Int)) = true := decide_eq_true hki
      have hbb := BRs.out
      have sc0 : wr.cell? ⟨qs, 0, none⟩ = some (.int .u64 (P.wrd Xa 0)) := hbb.cell 0 _ rfl
      have sc1 : wr.cell? ⟨qs, 1, none⟩ = some (.int .u64 (P.wrd Xa 1)) := hbb.cell 1 _ rfl
      have sc2 : wr.cell? ⟨qs, 2, none⟩ = some (.int .u64 (P.wrd Xa 2)) := hbb.cell 2 _ rfl
      have sc3 : wr.cell? ⟨qs, 3, none⟩ = some (.int .u64 (P.wrd Xa 3)) := hbb.cell 3 _ rfl
      clear hbb
      go_wp2_with fail
      clear gc0 gc1 gc2 sc0 sc1 sc2 sc3
      refine (has_any Xa (k : Int) wr).mono ?_
      rintro e wx ⟨rfl, hb⟩
      rw [show P.has Xa (k : Int) = Xa.getLsbD k from P.has_nat Xa k]
      replace HF := Lib.hid (HF.out.on (grown_of_below hb none))
      replace WR := Lib.hid (WR.out.trans (hb.mono WR.out.size))
      replace BRg := Lib.hid (BRg.out.keep (grown_of_below hb none))
      replace BRa := Lib.hid (BRa.out.keep (grown_of_below hb none))
      replace BRs := Lib.hid (BRs.out.keep (grown_of_below hb none))
      replace BRh := Lib.hid (BRh.out.keep (grown_of_below hb none))
      replace BRk := Lib.hid (BRk.out.keep (grown_of_below hb none))
      clear hb
      cases hbit : Xa.getLsbD k
      · have HWB := Lib.hid (show ¬ P.Bit Xa k by unfold P.Bit; rw [hbit]; exact Bool.false_ne_true)
        have HWI := Lib.hid (show P.winOf Xa k = 1 by unfold P.winOf; rw [if_neg HWB.out])
        replace J1 := Lib.hid (kx_own J1.out HF.out.keep (fun b e => ⟨(own_lt J1.out b e).2, off2 (own_sep J1.out Oh.out.head e) (own_sep J1.out Ok.out.head e)⟩))
        clear hbit
        have hbb := BRg.out
        have gc0 : wx.cell? ⟨qg, 0, none⟩ = some (.slice (some ⟨ba, oa, none⟩) n ka) := hbb.cell 0 _ rfl
        have gc1 : wx.cell? ⟨qg, 1, none⟩ = some (.slice (some ⟨bb, ob, none⟩) n kb) := hbb.cell 1 _ rfl
        have gc2 : wx.cell? ⟨qg, 2, none⟩ = some (.slice (some ⟨bc_, oc, none⟩) n kc) := hbb.cell 2 _ rfl
        clear hbb
        have hoc_ := HCO.out wx WR.out k hkn
        by_cases how : g.owner.getD k 0 = 1
        · rw [how] at hoc_
          have HOW := Lib.hid (show g.owner.getD k 0 = P.winOf Xa k by rw [how]; exact HWI.out.symm)
          clear how
          go_upto_region 18 with (fail)
          clear gc0 gc1 gc2 hoc_
          obtain ⟨z, hz⟩ : ∃ z, cha.getD k (-1) = z := ⟨_, rfl⟩
          have HZ := Lib.hid hz.symm
          have HCM := Lib.hid (moves_cell J1.out HN.out hkn (few_mv1 ((Da.out.ap.all k (((P.full_bits HR.out HN.out).1 k).2 hkn)).resolve_left HWB.out) HWB.out HOW.out) hz)
          clear hz
          refine Rt.wp_region_tail 1 (fun idx => match idx with | 0 => (fun v _ _ => v = (.pointer (some ⟨qh, 2, none⟩))) | 1 => (fun v _ _ => v = (.slice (some ⟨hoc, 0, none⟩) n hkc)) | 2 => (fun v _ _ => v = (.int .i64 (k : Int))) | 3 => (fun v _ _ => v = (.int .i64 1)) | 4 => (fun v _ _ => v = (.pointer (some ⟨qa, 2, none⟩))) | 5 => (fun v _ _ => v = (.pointer (some ⟨qa, 3, none⟩))) | 6 => (fun v _ _ => v = (.slice (some ⟨ba1, 0, none⟩) n n)) | 7 => (fun v _ _ => v = (.int .i64 (k : Int))) | 8 => (fun v _ _ => v = (.pointer (some ⟨ba1, k, none⟩))) | 9 => (fun v _ _ => v = (.int .i64 z)) | 10 => (fun v _ w' => ∃ q, v = .slice (some ⟨q, 0, none⟩) 1 1 ∧ wx.heap.size ≤ q ∧ Box w' q 3 #[.int .i64 z]) | 11 => (fun v _ _ => v = (.pointer (some ⟨hoc, k, none⟩))) | _ => fun _ _ _ => True) (fun _ _ _ _ => True) (Rk.allK) 99 (by kernel_rfl) (by rfl) (by kernel_rfl) (by rfl) ?_ ?_ ?_ ?_
          · refine ⟨?_, ?_, ?_, ?_, ?_, ?_, ?_, ?_, ?_, ?_, ?_, ?_, trivial⟩
            · intro A w' K vals h hn hT hgk hK0
              have r0 : A.tmps[11]?.getD undef = .pointer (some ⟨qh, 0, none⟩) := Rg.slot h.1
              clear h hn hT hgk
              simp [Oper.wp, execOp, go_sem, r0]
              exact hK0 _ _ (Rk.Keeps.refl _ _) rfl trivial
            · intro A w' K vals h hn hT hgk hK0
              have r0 : A.tmps[81]?.getD undef = vals 0 := Rg.slot (h.1)
              have r1 : vals 0 = (.pointer (some ⟨qh, 2, none⟩)) := hn.1
              have hbx := BRh.out.keep (Rk.grown_of hgk)
              have c0 : w'.cell? ⟨qh, 2, none⟩ = some (.slice (some ⟨hoc, 0, none⟩) n hkc) := hbx.cell 2 _ rfl
              clear h hn hT hgk hbx
              simp [Oper.wp, execOp, go_sem, r0, r1, c0]
              exact hK0 _ _ (Rk.Keeps.refl _ _) rfl trivial
            · intro A w' K vals h hn hT hgk hK0
              have r0 : A.tmps[13]?.getD undef = .int .i64 (k : Int) := Rg.slot h.1
              clear h hn hT hgk
              simp [Oper.wp, execOp, go_sem, r0]
              exact hK0 _ _ (Rk.Keeps.refl _ _) rfl trivial
            · intro A w' K vals h hn hT hgk hK0
              have r0 : A.tmps[14]?.getD undef = .int .i64 1 := Rg.slot h.1
              clear h hn hT hgk
              simp [Oper.wp, execOp, go_sem, r0]
              exact hK0 _ _ (Rk.Keeps.refl _ _) rfl trivial
            · intro A w' K vals h hn hT hgk hK0
              have r0 : A.tmps[8]?.getD undef = .pointer (some ⟨qa, 0, none⟩) := Rg.slot h.1
              clear h hn hT hgk
              simp [Oper.wp, execOp, go_sem, r0]
              exact hK0 _ _ (Rk.Keeps.refl _ _) rfl trivial
            · intro A w' K vals h hn hT hgk hK0
              have r0 : A.tmps[85]?.getD undef = vals 4 := Rg.slot h.1
              have s0 : vals 4 = (.pointer (some ⟨qa, 2, none⟩)) := hn.1
              have r1 : A.tmps[84]?.getD undef = vals 3 := Rg.slot h.2.1
              have s1 : vals 3 = (.int .i64 1) := hn.2.1
              clear h hn hT hgk
              simp [Oper.wp, execOp, go_sem, r0, r1, s0, s1]
              exact hK0 _ _ (Rk.Keeps.refl _ _) rfl trivial
            · intro A w' K vals h hn hT hgk hK0
              have r0 : A.tmps[86]?.getD undef = vals 5 := Rg.slot (h.1)
              have r1 : vals 5 = (.pointer (some ⟨qa, 3, none⟩)) := hn.1
              have hbx := BRa.out.keep (Rk.grown_of hgk)
              have c0 : w'.cell? ⟨qa, 3, none⟩ = some (.slice (some ⟨ba1, 0, none⟩) n n) := hbx.cell 3 _ rfl
              clear h hn hT hgk hbx
              simp [Oper.wp, execOp, go_sem, r0, r1, c0]
              exact hK0 _ _ (Rk.Keeps.refl _ _) rfl trivial
            · intro A w' K vals h hn hT hgk hK0
              have r0 : A.tmps[13]?.getD undef = .int .i64 (k : Int) := Rg.slot h.1
              clear h hn hT hgk
              simp [Oper.wp, execOp, go_sem, r0]
              exact hK0 _ _ (Rk.Keeps.refl _ _) rfl trivial
            · intro A w' K vals h hn hT hgk hK0
              have r0 : A.tmps[87]?.getD undef = vals 6 := Rg.slot h.1
              have s0 : vals 6 = (.slice (some ⟨ba1, 0, none⟩) n n) := hn.1
              have r1 : A.tmps[88]?.getD undef = vals 7 := Rg.slot h.2.1
              have s1 : vals 7 = (.int .i64 (k : Int)) := hn.2.1
              clear h hn hT hgk
              simp [Oper.wp, execOp, go_sem, r0, r1, s0, s1, hki, hk0]
              exact hK0 _ _ (Rk.Keeps.refl _ _) rfl trivial
            · intro A w' K vals h hn hT hgk hK0
              have r0 : A.tmps[89]?.getD undef = vals 8 := Rg.slot (h.1)
              have r1 : vals 8 = (.pointer (some ⟨ba1, k, none⟩)) := hn.1
              have c : w'.cell? ⟨ba1, k, none⟩ = some (.int .i64 z) := HCM.out w' (Rk.grown_of hgk)
              clear h hn hT hgk
              simp [Oper.wp, execOp, go_sem, r0, r1, c]
              exact hK0 _ _ (Rk.Keeps.refl _ _) rfl trivial
            · intro A w' K vals h hn hT hgk hK0
              have r0 : A.tmps[90]?.getD undef = vals 9 := Rg.slot h.1
              have s0 : vals 9 = .int .i64 z := hn.1
              have hsz := hgk.size
              clear h hn hT hgk
              simp [Oper.wp, execOp, go_sem, r0, s0]
              exact hK0 _ _ (Rk.keep_of (World.grownBy_alloc _ _ _)) ⟨_, rfl, hsz, Box.new _ _ _⟩ trivial
            · intro A w' K vals h hn hT hgk hK0
              have r0 : A.tmps[82]?.getD undef = vals 1 := Rg.slot h.1
              have s0 : vals 1 = (.slice (some ⟨hoc, 0, none⟩) n hkc) := hn.1
              have r1 : A.tmps[83]?.getD undef = vals 2 := Rg.slot h.2.1
              have s1 : vals 2 = (.int .i64 (k : Int)) := hn.2.1
              clear h hn hT hgk
              simp [Oper.wp, execOp, go_sem, r0, r1, s0, s1, hki, hk0]
              exact hK0 _ _ (Rk.Keeps.refl _ _) rfl trivial
          · refine ⟨?_, ?_, ?_, ?_, ?_, ?_, ?_, ?_, ?_, ?_, ?_, ?_, trivial⟩
            · exact fun _ _ _ _ _ _ h => h
            · exact fun _ _ _ _ _ _ h => h
            · exact fun _ _ _ _ _ _ h => h
            · exact fun _ _ _ _ _ _ h => h
            · exact fun _ _ _ _ _ _ h => h
            · exact fun _ _ _ _ _ _ h => h
            · exact fun _ _ _ _ _ _ h => h
            · exact fun _ _ _ _ _ _ h => h
            · exact fun _ _ _ _ _ _ h => h
            · exact fun _ _ _ _ _ _ h => h
            · exact fun _ _ _ _ _ h ⟨q, h1, h2, hb⟩ => ⟨q, h1, h2, hb.keep (Rk.grown_of h)⟩
            · exact fun _ _ _ _ _ _ h => h
          · exact fun _ _ _ _ _ _ h => h
          · intro vals w8 G hgk hS hG
            have s11 : vals 11 = .pointer (some ⟨hoc, k, none⟩) := hS.2.2.2.2.2.2.2.2.2.2.2.1
            obtain ⟨q, sB, hq, hbx⟩ : ∃ q, vals 10 = .slice (some ⟨q, 0, none⟩) 1 1 ∧ wx.heap.size ≤ q ∧ Box w8 q 3 #[.int .i64 z] := hS.2.2.2.2.2.2.2.2.2.2.1
            clear hS
            have hg := Rk.grown_of hgk
            have hf8 := HF.out.on hg
            have hl1 := HF.out.h.lt
            have hl2 := HF.out.k.lt
            obtain ⟨⟨u, hcu⟩, hcf⟩ := hf8.h.cell hkn
            have HR8 := Lib.hid (hf8.putH HHK.out (by omega) (by omega) hbx HOW.out HZ.out)
            clear hgk hbx hf8 hl1 hl2 hg
            refine hG ?_
            clear hG
            simp only [List.take, List.drop, List.length, Nat.reduceSub, Nat.reduceAdd, Rg.putAll, Act.put, List.setIfInBounds_toArray, List.set_cons_succ, List.set_cons_zero, s11, sB]
            clear s11 sB
            go_wp2_with fail
            clear hcu hcf
            go_roundw
            case rel => exact ⟨k + 1, by go_num, by omega, HR8.out⟩
            case measure => simp [intOf]; omega
        · obtain ⟨ow, how_⟩ : ∃ ow, g.owner.getD k 0 = ow := ⟨_, rfl⟩
          rw [how_] at hoc_
          have HOW := Lib.hid (show ¬ g.owner.getD k 0 = P.winOf Xa k by intro e; exact how (by rw [e]; exact HWI.out))
          have fow : (ow == 1) = false := by rw [beq_eq_false_iff_ne, ← how_]; exact how
          clear how how_
          go_upto_region 20 with (fail)
          clear gc0 gc1 gc2 hoc_
          by_cases hz0 : 0 < zl
          · obtain ⟨bz, oz, cz, hzv, hzc⟩ := IK.out.open_ HZL.out hz0
            have hkz : keepAt zs k = zs.getD (k % zl) 0 := by unfold keepAt; rw [HZL.out, if_pos hz0]
            injection hzv with hak _ hkk
            subst hak hkk
            have fz : decide ((0 : Int) < (zl : Int)) = true := decide_eq_true (by omega)
            obtain ⟨r, hr⟩ : ∃ r, k % zl = r := ⟨_, rfl⟩
            have hrl : r < zl := by rw [← hr]; exact Nat.mod_lt _ hz0
            have hzb : zs.getD r 0 ∈ zs := getD_mem_ (by rw [HZL.out]; exact hrl)
            replace hzb := HZB.out _ hzb
            have htm : Int.tmod (k : Int) (zl : Int) = (r : Int) := by rw [Int.tmod_eq_emod_of_nonneg (Int.natCast_nonneg _), ← hr]; rfl
            have hzl0 : ((zl : Nat) : Int) ≠ 0 := by omega
            have hzl1 : zl ≠ 0 := by omega
            rw [hr] at hkz
            obtain ⟨zz, hzz⟩ : ∃ zz, zs.getD r 0 = zz := ⟨_, rfl⟩
            have hcz := hzc wx WR.out r hrl
            rw [hzz] at hcz hkz hzb
            have HKA := Lib.hid hkz
            obtain ⟨hzb1, hzb2⟩ := hzb
            clear hzc hkz hr hzz hz0
            by_cases hneg : zz < 0
            · have fn : decide (zz < 0) = true := decide_eq_true hneg
              have hfo := fold_neg hneg
              obtain ⟨mm, hmm⟩ : ∃ mm, foldN zz = mm := ⟨_, rfl⟩
              have HMM := Lib.hid (show foldN (keepAt zs k) = mm by rw [HKA.out]; exact hmm)
              rw [hmm] at hfo
              go_upto_region 24 with (fail)
              clear hmm hfo fn hneg hcz hzb1 hzb2 htm hzl0 hzl1 fz hrl fow
              obtain ⟨x, hcx, hix⟩ := HCR.out wx WR.out k hkn
              obtain ⟨ml, hml⟩ : ∃ ml, (g.moves.getD k []).length = ml := ⟨_, rfl⟩
              have hml2 : 0 < ml := by
                rw [← hml]
                exact List.length_pos_iff.2 (HR.out.at k (by rw [HN.out]; exact hkn)).2.2.2.1
              obtain ⟨bm, om, km, rfl, hcm⟩ := hix.open_ hml hml2
              have HRX := Lib.hid hcx
              obtain ⟨ei, hei_⟩ : ∃ ei, mm % ml = ei := ⟨_, rfl⟩
              have heil : ei < ml := by rw [← hei_]; exact Nat.mod_lt _ hml2
              have htm : Int.tmod (mm : Int) (ml : Int) = (ei : Int) := by rw [Int.tmod_eq_emod_of_nonneg (Int.natCast_nonneg _), ← hei_]; rfl
              have HEI := Lib.hid (show keepE g zs k = ei by unfold keepE; rw [HMM.out, hml]; exact hei_)
              have hml0 : ((ml : Nat) : Int) ≠ 0 := by omega
              have hml1 : ml ≠ 0 := by omega
              have hei : (ei : Int) < (ml : Int) := by omega
              have hei0 : (0 : Int) ≤ (ei : Int) := by omega
              obtain ⟨z, hz⟩ : ∃ z, (g.moves.getD k []).getD ei 0 = z := ⟨_, rfl⟩
              have HZ := Lib.hid (show z = (g.moves.getD k []).getD (keepE g zs k) 0 by rw [HEI.out]; exact hz.symm)
              have HCE := Lib.hid (show ∀ w', wx.grownBy w' none → w'.cell? ⟨bm, om + ei, none⟩ = some (.int .i64 z) from fun w' hg => by rw [← hz]; exact hcm w' (below_of_grown hg) ei heil)
              clear hcx hcm hml hml2 hei_ heil hz
              refine Rt.wp_region_tail 1 (fun idx => match idx with | 0 => (fun v _ _ => v = (.pointer (some ⟨qk, 2, none⟩))) | 1 => (fun v _ _ => v = (.slice (some ⟨koc, 0, none⟩) n kkc)) | 2 => (fun v _ _ => v = (.int .i64 (k : Int))) | 3 => (fun v _ _ => v = (.pointer (some ⟨qg, 2, none⟩))) | 4 => (fun v _ _ => v = (.slice (some ⟨bc_, oc, none⟩) n kc)) | 5 => (fun v _ _ => v = (.int .i64 (k : Int))) | 6 => (fun v _ _ => v = (.pointer (some ⟨bc_, oc + k, none⟩))) | 7 => (fun v _ _ => v = (.slice (some ⟨bm, om, none⟩) ml km)) | 8 => (fun v _ _ => v = (.int .i64 (mm : Int))) | 9 => (fun v _ _ => v = (.pointer (some ⟨qg, 2, none⟩))) | 10 => (fun v _ _ => v = (.slice (some ⟨bc_, oc, none⟩) n kc)) | 11 => (fun v _ _ => v = (.int .i64 (k : Int))) | 12 => (fun v _ _ => v = (.pointer (some ⟨bc_, oc + k, none⟩))) | 13 => (fun v _ _ => v = (.slice (some ⟨bm, om, none⟩) ml km)) | 14 => (fun v _ _ => v = (.int .i64 (ml : Int))) | 15 => (fun v _ _ => v = (.int .i64 (ei : Int))) | 16 => (fun v _ _ => v = (.pointer (some ⟨bm, om + ei, none⟩))) | 17 => (fun v _ _ => v = (.int .i64 z)) | 18 => (fun v _ w' => ∃ q, v = .slice (some ⟨q, 0, none⟩) 1 1 ∧ wx.heap.size ≤ q ∧ Box w' q 3 #[.int .i64 z]) | 19 => (fun v _ _ => v = (.pointer (some ⟨koc, k, none⟩))) | _ => fun _ _ _ => True) (fun _ _ _ _ => True) (Rk.allK) 99 (by kernel_rfl) (by rfl) (by kernel_rfl) (by rfl) ?_ ?_ ?_ ?_
              · refine ⟨?_, ?_, ?_, ?_, ?_, ?_, ?_, ?_, ?_, ?_, ?_, ?_, ?_, ?_, ?_, ?_, ?_, ?_, ?_, ?_, trivial⟩
                · intro A w' K vals h hn hT hgk hK0
                  have r0 : A.tmps[12]?.getD undef = .pointer (some ⟨qk, 0, none⟩) := Rg.slot h.1
                  clear h hn hT hgk
                  simp [Oper.wp, execOp, go_sem, r0]
                  exact hK0 _ _ (Rk.Keeps.refl _ _) rfl trivial
                · intro A w' K vals h hn hT hgk hK0
                  have r0 : A.tmps[108]?.getD undef = vals 0 := Rg.slot (h.1)
                  have r1 : vals 0 = (.pointer (some ⟨qk, 2, none⟩)) := hn.1
                  have hbx := BRk.out.keep (Rk.grown_of hgk)
                  have c0 : w'.cell? ⟨qk, 2, none⟩ = some (.slice (some ⟨koc, 0, none⟩) n kkc) := hbx.cell 2 _ rfl
                  clear h hn hT hgk hbx
                  simp [Oper.wp, execOp, go_sem, r0, r1, c0]
                  exact hK0 _ _ (Rk.Keeps.refl _ _) rfl trivial
                · intro A w' K vals h hn hT hgk hK0
                  have r0 : A.tmps[13]?.getD undef = .int .i64 (k : Int) := Rg.slot h.1
                  clear h hn hT hgk
                  simp [Oper.wp, execOp, go_sem, r0]
                  exact hK0 _ _ (Rk.Keeps.refl _ _) rfl trivial
                · intro A w' K vals h hn hT hgk hK0
                  have r0 : A.tmps[2]?.getD undef = .pointer (some ⟨qg, 0, none⟩) := Rg.slot h.1
                  clear h hn hT hgk
                  simp [Oper.wp, execOp, go_sem, r0]
                  exact hK0 _ _ (Rk.Keeps.refl _ _) rfl trivial
                · intro A w' K vals h hn hT hgk hK0
                  have r0 : A.tmps[111]?.getD undef = vals 3 := Rg.slot (h.1)
                  have r1 : vals 3 = (.pointer (some ⟨qg, 2, none⟩)) := hn.1
                  have hbx := BRg.out.keep (Rk.grown_of hgk)
                  have c0 : w'.cell? ⟨qg, 2, none⟩ = some (.slice (some ⟨bc_, oc, none⟩) n kc) := hbx.cell 2 _ rfl
                  clear h hn hT hgk hbx
                  simp [Oper.wp, execOp, go_sem, r0, r1, c0]
                  exact hK0 _ _ (Rk.Keeps.refl _ _) rfl trivial
                · intro A w' K vals h hn hT hgk hK0
                  have r0 : A.tmps[13]?.getD undef = .int .i64 (k : Int) := Rg.slot h.1
                  clear h hn hT hgk
                  simp [Oper.wp, execOp, go_sem, r0]
                  exact hK0 _ _ (Rk.Keeps.refl _ _) rfl trivial
                · intro A w' K vals h hn hT hgk hK0
                  have r0 : A.tmps[112]?.getD undef = vals 4 := Rg.slot h.1
                  have s0 : vals 4 = (.slice (some ⟨bc_, oc, none⟩) n kc) := hn.1
                  have r1 : A.tmps[113]?.getD undef = vals 5 := Rg.slot h.2.1
                  have s1 : vals 5 = (.int .i64 (k : Int)) := hn.2.1
                  clear h hn hT hgk
                  simp [Oper.wp, execOp, go_sem, r0, r1, s0, s1, hki, hk0]
                  exact hK0 _ _ (Rk.Keeps.refl _ _) rfl trivial
                · intro A w' K vals h hn hT hgk hK0
                  have r0 : A.tmps[114]?.getD undef = vals 6 := Rg.slot (h.1)
                  have r1 : vals 6 = (.pointer (some ⟨bc_, oc + k, none⟩)) := hn.1
                  have c : w'.cell? ⟨bc_, oc + k, none⟩ = some (.slice (some ⟨bm, om, none⟩) ml km) := (Rk.grown_of hgk).cell HRX.out (by simp)
                  clear h hn hT hgk
                  simp [Oper.wp, execOp, go_sem, r0, r1, c]
                  exact hK0 _ _ (Rk.Keeps.refl _ _) rfl trivial
                · intro A w' K vals h hn hT hgk hK0
                  have r0 : A.tmps[15]?.getD undef = .int .i64 (mm : Int) := Rg.slot h.1
                  clear h hn hT hgk
                  simp [Oper.wp, execOp, go_sem, r0]
                  exact hK0 _ _ (Rk.Keeps.refl _ _) rfl trivial
                · intro A w' K vals h hn hT hgk hK0
                  have r0 : A.tmps[2]?.getD undef = .pointer (some ⟨qg, 0, none⟩) := Rg.slot h.1
                  clear h hn hT hgk
                  simp [Oper.wp, execOp, go_sem, r0]
                  exact hK0 _ _ (Rk.Keeps.refl _ _) rfl trivial
                · intro A w' K vals h hn hT hgk hK0
                  have r0 : A.tmps[117]?.getD undef = vals 9 := Rg.slot (h.1)
                  have r1 : vals 9 = (.pointer (some ⟨qg, 2, none⟩)) := hn.1
                  have hbx := BRg.out.keep (Rk.grown_of hgk)
                  have c0 : w'.cell? ⟨qg, 2, none⟩ = some (.slice (some ⟨bc_, oc, none⟩) n kc) := hbx.cell 2 _ rfl
                  clear h hn hT hgk hbx
                  simp [Oper.wp, execOp, go_sem, r0, r1, c0]
                  exact hK0 _ _ (Rk.Keeps.refl _ _) rfl trivial
                · intro A w' K vals h hn hT hgk hK0
                  have r0 : A.tmps[13]?.getD undef = .int .i64 (k : Int) := Rg.slot h.1
                  clear h hn hT hgk
                  simp [Oper.wp, execOp, go_sem, r0]
                  exact hK0 _ _ (Rk.Keeps.refl _ _) rfl trivial
                · intro A w' K vals h hn hT hgk hK0
                  have r0 : A.tmps[118]?.getD undef = vals 10 := Rg.slot h.1
                  have s0 : vals 10 = (.slice (some ⟨bc_, oc, none⟩) n kc) := hn.1
                  have r1 : A.tmps[119]?.getD undef = vals 11 := Rg.slot h.2.1
                  have s1 : vals 11 = (.int .i64 (k : Int)) := hn.2.1
                  clear h hn hT hgk
                  simp [Oper.wp, execOp, go_sem, r0, r1, s0, s1, hki, hk0]
                  exact hK0 _ _ (Rk.Keeps.refl _ _) rfl trivial
                · intro A w' K vals h hn hT hgk hK0
                  have r0 : A.tmps[120]?.getD undef = vals 12 := Rg.slot (h.1)
                  have r1 : vals 12 = (.pointer (some ⟨bc_, oc + k, none⟩)) := hn.1
                  have c : w'.cell? ⟨bc_, oc + k, none⟩ = some (.slice (some ⟨bm, om, none⟩) ml km) := (Rk.grown_of hgk).cell HRX.out (by simp)
                  clear h hn hT hgk
                  simp [Oper.wp, execOp, go_sem, r0, r1, c]
                  exact hK0 _ _ (Rk.Keeps.refl _ _) rfl trivial
                · intro A w' K vals h hn hT hgk hK0
                  have r0 : A.tmps[121]?.getD undef = vals 13 := Rg.slot h.1
                  have s0 : vals 13 = (.slice (some ⟨bm, om, none⟩) ml km) := hn.1
                  clear h hn hT hgk
                  simp [Oper.wp, go_sem, r0, s0]
                  exact hK0 _ _ (Rk.Keeps.refl _ _) rfl trivial
                · intro A w' K vals h hn hT hgk hK0
                  have r0 : A.tmps[116]?.getD undef = vals 8 := Rg.slot h.1
                  have s0 : vals 8 = (.int .i64 (mm : Int)) := hn.1
                  have r1 : A.tmps[122]?.getD undef = vals 14 := Rg.slot h.2.1
                  have s1 : vals 14 = (.int .i64 (ml : Int)) := hn.2.1
                  clear h hn hT hgk
                  simp [Oper.wp, execOp, go_sem, r0, r1, s0, s1, htm, hml1]
                  exact hK0 _ _ (Rk.Keeps.refl _ _) rfl trivial
                · intro A w' K vals h hn hT hgk hK0
                  have r0 : A.tmps[115]?.getD undef = vals 7 := Rg.slot h.1
                  have s0 : vals 7 = (.slice (some ⟨bm, om, none⟩) ml km) := hn.1
                  have r1 : A.tmps[123]?.getD undef = vals 15 := Rg.slot h.2.1
                  have s1 : vals 15 = (.int .i64 (ei : Int)) := hn.2.1
                  clear h hn hT hgk
                  simp [Oper.wp, execOp, go_sem, r0, r1, s0, s1, hei, hei0]
                  exact hK0 _ _ (Rk.Keeps.refl _ _) rfl trivial
                · intro A w' K vals h hn hT hgk hK0
                  have r0 : A.tmps[124]?.getD undef = vals 16 := Rg.slot (h.1)
                  have r1 : vals 16 = (.pointer (some ⟨bm, om + ei, none⟩)) := hn.1
                  have c : w'.cell? ⟨bm, om + ei, none⟩ = some (.int .i64 z) := HCE.out w' (Rk.grown_of hgk)
                  clear h hn hT hgk
                  simp [Oper.wp, execOp, go_sem, r0, r1, c]
                  exact hK0 _ _ (Rk.Keeps.refl _ _) rfl trivial
                · intro A w' K vals h hn hT hgk hK0
                  have r0 : A.tmps[125]?.getD undef = vals 17 := Rg.slot h.1
                  have s0 : vals 17 = .int .i64 z := hn.1
                  have hsz := hgk.size
                  clear h hn hT hgk
                  simp [Oper.wp, execOp, go_sem, r0, s0]
                  exact hK0 _ _ (Rk.keep_of (World.grownBy_alloc _ _ _)) ⟨_, rfl, hsz, Box.new _ _ _⟩ trivial
                · intro A w' K vals h hn hT hgk hK0
                  have r0 : A.tmps[109]?.getD undef = vals 1 := Rg.slot h.1
                  have s0 : vals 1 = (.slice (some ⟨koc, 0, none⟩) n kkc) := hn.1
                  have r1 : A.tmps[110]?.getD undef = vals 2 := Rg.slot h.2.1
                  have s1 : vals 2 = (.int .i64 (k : Int)) := hn.2.1
                  clear h hn hT hgk
                  simp [Oper.wp, execOp, go_sem, r0, r1, s0, s1, hki, hk0]
                  exact hK0 _ _ (Rk.Keeps.refl _ _) rfl trivial
              · refine ⟨?_, ?_, ?_, ?_, ?_, ?_, ?_, ?_, ?_, ?_, ?_, ?_, ?_, ?_, ?_, ?_, ?_, ?_, ?_, ?_, trivial⟩
                · exact fun _ _ _ _ _ _ h => h
                · exact fun _ _ _ _ _ _ h => h
                · exact fun _ _ _ _ _ _ h => h
                · exact fun _ _ _ _ _ _ h => h
                · exact fun _ _ _ _ _ _ h => h
                · exact fun _ _ _ _ _ _ h => h
                · exact fun _ _ _ _ _ _ h => h
                · exact fun _ _ _ _ _ _ h => h
                · exact fun _ _ _ _ _ _ h => h
                · exact fun _ _ _ _ _ _ h => h
                · exact fun _ _ _ _ _ _ h => h
                · exact fun _ _ _ _ _ _ h => h
                · exact fun _ _ _ _ _ _ h => h
                · exact fun _ _ _ _ _ _ h => h
                · exact fun _ _ _ _ _ _ h => h
                · exact fun _ _ _ _ _ _ h => h
                · exact fun _ _ _ _ _ _ h => h
                · exact fun _ _ _ _ _ _ h => h
                · exact fun _ _ _ _ _ h ⟨q, h1, h2, hb⟩ => ⟨q, h1, h2, hb.keep (Rk.grown_of h)⟩
                · exact fun _ _ _ _ _ _ h => h
              · exact fun _ _ _ _ _ _ h => h
              · intro vals w8 G hgk hS hG
                have s11 : vals 19 = .pointer (some ⟨koc, k, none⟩) := hS.2.2.2.2.2.2.2.2.2.2.2.2.2.2.2.2.2.2.2.1
                obtain ⟨q, sB, hq, hbx⟩ : ∃ q, vals 18 = .slice (some ⟨q, 0, none⟩) 1 1 ∧ wx.heap.size ≤ q ∧ Box w8 q 3 #[.int .i64 z] := hS.2.2.2.2.2.2.2.2.2.2.2.2.2.2.2.2.2.2.1
                clear hS
                have hg := Rk.grown_of hgk
                have hf8 := HF.out.on hg
                have hl1 := HF.out.h.lt
                have hl2 := HF.out.k.lt
                obtain ⟨⟨u, hcu⟩, hcf⟩ := hf8.k.cell hkn
                have HR8 := Lib.hid (hf8.putK HHK.out (by omega) (by omega) hbx HOW.out HZ.out)
                clear hgk hbx hf8 hl1 hl2 hg
                refine hG ?_
                clear hG
                simp only [List.take, List.drop, List.length, Nat.reduceSub, Nat.reduceAdd, Rg.putAll, Act.put, List.setIfInBounds_toArray, List.set_cons_succ, List.set_cons_zero, s11, sB]
                clear s11 sB
                go_wp2_with fail
                clear hcu hcf
                go_roundw
                case rel => exact ⟨k + 1, by go_num, by omega, HR8.out⟩
                case measure => simp [intOf]; omega
            · have fn : decide (zz < 0) = false := decide_eq_false hneg
              have hfo := fold_pos hneg
              obtain ⟨mm, hmm⟩ : ∃ mm, foldN zz = mm := ⟨_, rfl⟩
              have HMM := Lib.hid (show foldN (keepAt zs k) = mm by rw [HKA.out]; exact hmm)
              rw [hmm] at hfo
              go_upto_region 24 with (fail)
              clear hmm hfo fn hneg hcz hzb1 hzb2 htm hzl0 hzl1 fz hrl fow
              obtain ⟨x, hcx, hix⟩ := HCR.out wx WR.out k hkn
              obtain ⟨ml, hml⟩ : ∃ ml, (g.moves.getD k []).length = ml := ⟨_, rfl⟩
              have hml2 : 0 < ml := by
                rw [← hml]
                exact List.length_pos_iff.2 (HR.out.at k (by rw [HN.out]; exact hkn)).2.2.2.1
              obtain ⟨bm, om, km, rfl, hcm⟩ := hix.open_ hml hml2
              have HRX := Lib.hid hcx
              obtain ⟨ei, hei_⟩ : ∃ ei, mm % ml = ei := ⟨_, rfl⟩
              have heil : ei < ml := by rw [← hei_]; exact Nat.mod_lt _ hml2
              have htm : Int.tmod (mm : Int) (ml : Int) = (ei : Int) := by rw [Int.tmod_eq_emod_of_nonneg (Int.natCast_nonneg _), ← hei_]; rfl
              have HEI := Lib.hid (show keepE g zs k = ei by unfold keepE; rw [HMM.out, hml]; exact hei_)
              have hml0 : ((ml : Nat) : Int) ≠ 0 := by omega
              have hml1 : ml ≠ 0 := by omega
              have hei : (ei : Int) < (ml : Int) := by omega
              have hei0 : (0 : Int) ≤ (ei : Int) := by omega
              obtain ⟨z, hz⟩ : ∃ z, (g.moves.getD k []).getD ei 0 = z := ⟨_, rfl⟩
              have HZ := Lib.hid (show z = (g.moves.getD k []).getD (keepE g zs k) 0 by rw [HEI.out]; exact hz.symm)
              have HCE := Lib.hid (show ∀ w', wx.grownBy w' none → w'.cell? ⟨bm, om + ei, none⟩ = some (.int .i64 z) from fun w' hg => by rw [← hz]; exact hcm w' (below_of_grown hg) ei heil)
              clear hcx hcm hml hml2 hei_ heil hz
              refine Rt.wp_region_tail 1 (fun idx => match idx with | 0 => (fun v _ _ => v = (.pointer (some ⟨qk, 2, none⟩))) | 1 => (fun v _ _ => v = (.slice (some ⟨koc, 0, none⟩) n kkc)) | 2 => (fun v _ _ => v = (.int .i64 (k : Int))) | 3 => (fun v _ _ => v = (.pointer (some ⟨qg, 2, none⟩))) | 4 => (fun v _ _ => v = (.slice (some ⟨bc_, oc, none⟩) n kc)) | 5 => (fun v _ _ => v = (.int .i64 (k : Int))) | 6 => (fun v _ _ => v = (.pointer (some ⟨bc_, oc + k, none⟩))) | 7 => (fun v _ _ => v = (.slice (some ⟨bm, om, none⟩) ml km)) | 8 => (fun v _ _ => v = (.int .i64 (mm : Int))) | 9 => (fun v _ _ => v = (.pointer (some ⟨qg, 2, none⟩))) | 10 => (fun v _ _ => v = (.slice (some ⟨bc_, oc, none⟩) n kc)) | 11 => (fun v _ _ => v = (.int .i64 (k : Int))) | 12 => (fun v _ _ => v = (.pointer (some ⟨bc_, oc + k, none⟩))) | 13 => (fun v _ _ => v = (.slice (some ⟨bm, om, none⟩) ml km)) | 14 => (fun v _ _ => v = (.int .i64 (ml : Int))) | 15 => (fun v _ _ => v = (.int .i64 (ei : Int))) | 16 => (fun v _ _ => v = (.pointer (some ⟨bm, om + ei, none⟩))) | 17 => (fun v _ _ => v = (.int .i64 z)) | 18 => (fun v _ w' => ∃ q, v = .slice (some ⟨q, 0, none⟩) 1 1 ∧ wx.heap.size ≤ q ∧ Box w' q 3 #[.int .i64 z]) | 19 => (fun v _ _ => v = (.pointer (some ⟨koc, k, none⟩))) | _ => fun _ _ _ => True) (fun _ _ _ _ => True) (Rk.allK) 99 (by kernel_rfl) (by rfl) (by kernel_rfl) (by rfl) ?_ ?_ ?_ ?_
              · refine ⟨?_, ?_, ?_, ?_, ?_, ?_, ?_, ?_, ?_, ?_, ?_, ?_, ?_, ?_, ?_, ?_, ?_, ?_, ?_, ?_, trivial⟩
                · intro A w' K vals h hn hT hgk hK0
                  have r0 : A.tmps[12]?.getD undef = .pointer (some ⟨qk, 0, none⟩) := Rg.slot h.1
                  clear h hn hT hgk
                  simp [Oper.wp, execOp, go_sem, r0]
                  exact hK0 _ _ (Rk.Keeps.refl _ _) rfl trivial
                · intro A w' K vals h hn hT hgk hK0
                  have r0 : A.tmps[108]?.getD undef = vals 0 := Rg.slot (h.1)
                  have r1 : vals 0 = (.pointer (some ⟨qk, 2, none⟩)) := hn.1
                  have hbx := BRk.out.keep (Rk.grown_of hgk)
                  have c0 : w'.cell? ⟨qk, 2, none⟩ = some (.slice (some ⟨koc, 0, none⟩) n kkc) := hbx.cell 2 _ rfl
                  clear h hn hT hgk hbx
                  simp [Oper.wp, execOp, go_sem, r0, r1, c0]
                  exact hK0 _ _ (Rk.Keeps.refl _ _) rfl trivial
                · intro A w' K vals h hn hT hgk hK0
                  have r0 : A.tmps[13]?.getD undef = .int .i64 (k : Int) := Rg.slot h.1
                  clear h hn hT hgk
                  simp [Oper.wp, execOp, go_sem, r0]
                  exact hK0 _ _ (Rk.Keeps.refl _ _) rfl trivial
                · intro A w' K vals h hn hT hgk hK0
                  have r0 : A.tmps[2]?.getD undef = .pointer (some ⟨qg, 0, none⟩) := Rg.slot h.1
                  clear h hn hT hgk
                  simp [Oper.wp, execOp, go_sem, r0]
                  exact hK0 _ _ (Rk.Keeps.refl _ _) rfl trivial
                · intro A w' K vals h hn hT hgk hK0
                  have r0 : A.tmps[111]?.getD undef = vals 3 := Rg.slot (h.1)
                  have r1 : vals 3 = (.pointer (some ⟨qg, 2, none⟩)) := hn.1
                  have hbx := BRg.out.keep (Rk.grown_of hgk)
                  have c0 : w'.cell? ⟨qg, 2, none⟩ = some (.slice (some ⟨bc_, oc, none⟩) n kc) := hbx.cell 2 _ rfl
                  clear h hn hT hgk hbx
                  simp [Oper.wp, execOp, go_sem, r0, r1, c0]
                  exact hK0 _ _ (Rk.Keeps.refl _ _) rfl trivial
                · intro A w' K vals h hn hT hgk hK0
                  have r0 : A.tmps[13]?.getD undef = .int .i64 (k : Int) := Rg.slot h.1
                  clear h hn hT hgk
                  simp [Oper.wp, execOp, go_sem, r0]
                  exact hK0 _ _ (Rk.Keeps.refl _ _) rfl trivial
                · intro A w' K vals h hn hT hgk hK0
                  have r0 : A.tmps[112]?.getD undef = vals 4 := Rg.slot h.1
                  have s0 : vals 4 = (.slice (some ⟨bc_, oc, none⟩) n kc) := hn.1
                  have r1 : A.tmps[113]?.getD undef = vals 5 := Rg.slot h.2.1
                  have s1 : vals 5 = (.int .i64 (k : Int)) := hn.2.1
                  clear h hn hT hgk
                  simp [Oper.wp, execOp, go_sem, r0, r1, s0, s1, hki, hk0]
                  exact hK0 _ _ (Rk.Keeps.refl _ _) rfl trivial
                · intro A w' K vals h hn hT hgk hK0
                  have r0 : A.tmps[114]?.getD undef = vals 6 := Rg.slot (h.1)
                  have r1 : vals 6 = (.pointer (some ⟨bc_, oc + k, none⟩)) := hn.1
                  have c : w'.cell? ⟨bc_, oc + k, none⟩ = some (.slice (some ⟨bm, om, none⟩) ml km) := (Rk.grown_of hgk).cell HRX.out (by simp)
                  clear h hn hT hgk
                  simp [Oper.wp, execOp, go_sem, r0, r1, c]
                  exact hK0 _ _ (Rk.Keeps.refl _ _) rfl trivial
                · intro A w' K vals h hn hT hgk hK0
                  have r0 : A.tmps[15]?.getD undef = .int .i64 (mm : Int) := Rg.slot h.1
                  clear h hn hT hgk
                  simp [Oper.wp, execOp, go_sem, r0]
                  exact hK0 _ _ (Rk.Keeps.refl _ _) rfl trivial
                · intro A w' K vals h hn hT hgk hK0
                  have r0 : A.tmps[2]?.getD undef = .pointer (some ⟨qg, 0, none⟩) := Rg.slot h.1
                  clear h hn hT hgk
                  simp [Oper.wp, execOp, go_sem, r0]
                  exact hK0 _ _ (Rk.Keeps.refl _ _) rfl trivial
                · intro A w' K vals h hn hT hgk hK0
                  have r0 : A.tmps[117]?.getD undef = vals 9 := Rg.slot (h.1)
                  have r1 : vals 9 = (.pointer (some ⟨qg, 2, none⟩)) := hn.1
                  have hbx := BRg.out.keep (Rk.grown_of hgk)
                  have c0 : w'.cell? ⟨qg, 2, none⟩ = some (.slice (some ⟨bc_, oc, none⟩) n kc) := hbx.cell 2 _ rfl
                  clear h hn hT hgk hbx
                  simp [Oper.wp, execOp, go_sem, r0, r1, c0]
                  exact hK0 _ _ (Rk.Keeps.refl _ _) rfl trivial
                · intro A w' K vals h hn hT hgk hK0
                  have r0 : A.tmps[13]?.getD undef = .int .i64 (k : Int) := Rg.slot h.1
                  clear h hn hT hgk
                  simp [Oper.wp, execOp, go_sem, r0]
                  exact hK0 _ _ (Rk.Keeps.refl _ _) rfl trivial
                · intro A w' K vals h hn hT hgk hK0
                  have r0 : A.tmps[118]?.getD undef = vals 10 := Rg.slot h.1
                  have s0 : vals 10 = (.slice (some ⟨bc_, oc, none⟩) n kc) := hn.1
                  have r1 : A.tmps[119]?.getD undef = vals 11 := Rg.slot h.2.1
                  have s1 : vals 11 = (.int .i64 (k : Int)) := hn.2.1
                  clear h hn hT hgk
                  simp [Oper.wp, execOp, go_sem, r0, r1, s0, s1, hki, hk0]
                  exact hK0 _ _ (Rk.Keeps.refl _ _) rfl trivial
                · intro A w' K vals h hn hT hgk hK0
                  have r0 : A.tmps[120]?.getD undef = vals 12 := Rg.slot (h.1)
                  have r1 : vals 12 = (.pointer (some ⟨bc_, oc + k, none⟩)) := hn.1
                  have c : w'.cell? ⟨bc_, oc + k, none⟩ = some (.slice (some ⟨bm, om, none⟩) ml km) := (Rk.grown_of hgk).cell HRX.out (by simp)
                  clear h hn hT hgk
                  simp [Oper.wp, execOp, go_sem, r0, r1, c]
                  exact hK0 _ _ (Rk.Keeps.refl _ _) rfl trivial
                · intro A w' K vals h hn hT hgk hK0
                  have r0 : A.tmps[121]?.getD undef = vals 13 := Rg.slot h.1
                  have s0 : vals 13 = (.slice (some ⟨bm, om, none⟩) ml km) := hn.1
                  clear h hn hT hgk
                  simp [Oper.wp, go_sem, r0, s0]
                  exact hK0 _ _ (Rk.Keeps.refl _ _) rfl trivial
                · intro A w' K vals h hn hT hgk hK0
                  have r0 : A.tmps[116]?.getD undef = vals 8 := Rg.slot h.1
                  have s0 : vals 8 = (.int .i64 (mm : Int)) := hn.1
                  have r1 : A.tmps[122]?.getD undef = vals 14 := Rg.slot h.2.1
                  have s1 : vals 14 = (.int .i64 (ml : Int)) := hn.2.1
                  clear h hn hT hgk
                  simp [Oper.wp, execOp, go_sem, r0, r1, s0, s1, htm, hml1]
                  exact hK0 _ _ (Rk.Keeps.refl _ _) rfl trivial
                · intro A w' K vals h hn hT hgk hK0
                  have r0 : A.tmps[115]?.getD undef = vals 7 := Rg.slot h.1
                  have s0 : vals 7 = (.slice (some ⟨bm, om, none⟩) ml km) := hn.1
                  have r1 : A.tmps[123]?.getD undef = vals 15 := Rg.slot h.2.1
                  have s1 : vals 15 = (.int .i64 (ei : Int)) := hn.2.1
                  clear h hn hT hgk
                  simp [Oper.wp, execOp, go_sem, r0, r1, s0, s1, hei, hei0]
                  exact hK0 _ _ (Rk.Keeps.refl _ _) rfl trivial
                · intro A w' K vals h hn hT hgk hK0
                  have r0 : A.tmps[124]?.getD undef = vals 16 := Rg.slot (h.1)
                  have r1 : vals 16 = (.pointer (some ⟨bm, om + ei, none⟩)) := hn.1
                  have c : w'.cell? ⟨bm, om + ei, none⟩ = some (.int .i64 z) := HCE.out w' (Rk.grown_of hgk)
                  clear h hn hT hgk
                  simp [Oper.wp, execOp, go_sem, r0, r1, c]
                  exact hK0 _ _ (Rk.Keeps.refl _ _) rfl trivial
                · intro A w' K vals h hn hT hgk hK0
                  have r0 : A.tmps[125]?.getD undef = vals 17 := Rg.slot h.1
                  have s0 : vals 17 = .int .i64 z := hn.1
                  have hsz := hgk.size
                  clear h hn hT hgk
                  simp [Oper.wp, execOp, go_sem, r0, s0]
                  exact hK0 _ _ (Rk.keep_of (World.grownBy_alloc _ _ _)) ⟨_, rfl, hsz, Box.new _ _ _⟩ trivial
                · intro A w' K vals h hn hT hgk hK0
                  have r0 : A.tmps[109]?.getD undef = vals 1 := Rg.slot h.1
                  have s0 : vals 1 = (.slice (some ⟨koc, 0, none⟩) n kkc) := hn.1
                  have r1 : A.tmps[110]?.getD undef = vals 2 := Rg.slot h.2.1
                  have s1 : vals 2 = (.int .i64 (k : Int)) := hn.2.1
                  clear h hn hT hgk
                  simp [Oper.wp, execOp, go_sem, r0, r1, s0, s1, hki, hk0]
                  exact hK0 _ _ (Rk.Keeps.refl _ _) rfl trivial
              · refine ⟨?_, ?_, ?_, ?_, ?_, ?_, ?_, ?_, ?_, ?_, ?_, ?_, ?_, ?_, ?_, ?_, ?_, ?_, ?_, ?_, trivial⟩
                · exact fun _ _ _ _ _ _ h => h
                · exact fun _ _ _ _ _ _ h => h
                · exact fun _ _ _ _ _ _ h => h
                · exact fun _ _ _ _ _ _ h => h
                · exact fun _ _ _ _ _ _ h => h
                · exact fun _ _ _ _ _ _ h => h
                · exact fun _ _ _ _ _ _ h => h
                · exact fun _ _ _ _ _ _ h => h
                · exact fun _ _ _ _ _ _ h => h
                · exact fun _ _ _ _ _ _ h => h
                · exact fun _ _ _ _ _ _ h => h
                · exact fun _ _ _ _ _ _ h => h
                · exact fun _ _ _ _ _ _ h => h
                · exact fun _ _ _ _ _ _ h => h
                · exact fun _ _ _ _ _ _ h => h
                · exact fun _ _ _ _ _ _ h => h
                · exact fun _ _ _ _ _ _ h => h
                · exact fun _ _ _ _ _ _ h => h
                · exact fun _ _ _ _ _ h ⟨q, h1, h2, hb⟩ => ⟨q, h1, h2, hb.keep (Rk.grown_of h)⟩
                · exact fun _ _ _ _ _ _ h => h
              · exact fun _ _ _ _ _ _ h => h
              · intro vals w8 G hgk hS hG
                have s11 : vals 19 = .pointer (some ⟨koc, k, none⟩) := hS.2.2.2.2.2.2.2.2.2.2.2.2.2.2.2.2.2.2.2.1
                obtain ⟨q, sB, hq, hbx⟩ : ∃ q, vals 18 = .slice (some ⟨q, 0, none⟩) 1 1 ∧ wx.heap.size ≤ q ∧ Box w8 q 3 #[.int .i64 z] := hS.2.2.2.2.2.2.2.2.2.2.2.2.2.2.2.2.2.2.1
                clear hS
                have hg := Rk.grown_of hgk
                have hf8 := HF.out.on hg
                have hl1 := HF.out.h.lt
                have hl2 := HF.out.k.lt
                obtain ⟨⟨u, hcu⟩, hcf⟩ := hf8.k.cell hkn
                have HR8 := Lib.hid (hf8.putK HHK.out (by omega) (by omega) hbx HOW.out HZ.out)
                clear hgk hbx hf8 hl1 hl2 hg
                refine hG ?_
                clear hG
                simp only [List.take, List.drop, List.length, Nat.reduceSub, Nat.reduceAdd, Rg.putAll, Act.put, List.setIfInBounds_toArray, List.set_cons_succ, List.set_cons_zero, s11, sB]
                clear s11 sB
                go_wp2_with fail
                clear hcu hcf
                go_roundw
                case rel => exact ⟨k + 1, by go_num, by omega, HR8.out⟩
                case measure => simp [intOf]; omega
          · have HKA := Lib.hid (show keepAt zs k = 0 by unfold keepAt; rw [HZL.out, if_neg hz0])
            have fz : decide ((0 : Int) < (zl : Int)) = false := decide_eq_false (by omega)
            have fn : decide ((0 : Int) < 0) = false := decide_eq_false (by decide)
            obtain ⟨mm, hmm⟩ : ∃ mm, foldN 0 = mm := ⟨_, rfl⟩
            have HMM := Lib.hid (show foldN (keepAt zs k) = mm by rw [HKA.out]; exact hmm)
            have hm0 : mm = 0 := by rw [← hmm]; rfl
            go_upto_region 24 with (fail)
            clear hmm fn fz fow
            obtain ⟨x, hcx, hix⟩ := HCR.out wx WR.out k hkn
            obtain ⟨ml, hml⟩ : ∃ ml, (g.moves.getD k []).length = ml := ⟨_, rfl⟩
            have hml2 : 0 < ml := by
              rw [← hml]
              exact List.length_pos_iff.2 (HR.out.at k (by rw [HN.out]; exact hkn)).2.2.2.1
            obtain ⟨bm, om, km, rfl, hcm⟩ := hix.open_ hml hml2
            have HRX := Lib.hid hcx
            obtain ⟨ei, hei_⟩ : ∃ ei, mm % ml = ei := ⟨_, rfl⟩
            have heil : ei < ml := by rw [← hei_]; exact Nat.mod_lt _ hml2
            have htm : Int.tmod 0 (ml : Int) = (ei : Int) := by subst hm0; rw [Int.zero_tmod, ← hei_, Nat.zero_mod]; rfl
            have HEI := Lib.hid (show keepE g zs k = ei by unfold keepE; rw [HMM.out, hml]; exact hei_)
            have hml0 : ((ml : Nat) : Int) ≠ 0 := by omega
            have hml1 : ml ≠ 0 := by omega
            have hei : (ei : Int) < (ml : Int) := by omega
            have hei0 : (0 : Int) ≤ (ei : Int) := by omega
            obtain ⟨z, hz⟩ : ∃ z, (g.moves.getD k []).getD ei 0 = z := ⟨_, rfl⟩
            have HZ := Lib.hid (show z = (g.moves.getD k []).getD (keepE g zs k) 0 by rw [HEI.out]; exact hz.symm)
            have HCE := Lib.hid (show ∀ w', wx.grownBy w' none → w'.cell? ⟨bm, om + ei, none⟩ = some (.int .i64 z) from fun w' hg => by rw [← hz]; exact hcm w' (below_of_grown hg) ei heil)
            clear hcx hcm hml hml2 hei_ heil hz
            refine Rt.wp_region_tail 1 (fun idx => match idx with | 0 => (fun v _ _ => v = (.pointer (some ⟨qk, 2, none⟩))) | 1 => (fun v _ _ => v = (.slice (some ⟨koc, 0, none⟩) n kkc)) | 2 => (fun v _ _ => v = (.int .i64 (k : Int))) | 3 => (fun v _ _ => v = (.pointer (some ⟨qg, 2, none⟩))) | 4 => (fun v _ _ => v = (.slice (some ⟨bc_, oc, none⟩) n kc)) | 5 => (fun v _ _ => v = (.int .i64 (k : Int))) | 6 => (fun v _ _ => v = (.pointer (some ⟨bc_, oc + k, none⟩))) | 7 => (fun v _ _ => v = (.slice (some ⟨bm, om, none⟩) ml km)) | 8 => (fun v _ _ => v = (.int .i64 0)) | 9 => (fun v _ _ => v = (.pointer (some ⟨qg, 2, none⟩))) | 10 => (fun v _ _ => v = (.slice (some ⟨bc_, oc, none⟩) n kc)) | 11 => (fun v _ _ => v = (.int .i64 (k : Int))) | 12 => (fun v _ _ => v = (.pointer (some ⟨bc_, oc + k, none⟩))) | 13 => (fun v _ _ => v = (.slice (some ⟨bm, om, none⟩) ml km)) | 14 => (fun v _ _ => v = (.int .i64 (ml : Int))) | 15 => (fun v _ _ => v = (.int .i64 (ei : Int))) | 16 => (fun v _ _ => v = (.pointer (some ⟨bm, om + ei, none⟩))) | 17 => (fun v _ _ => v = (.int .i64 z)) | 18 => (fun v _ w' => ∃ q, v = .slice (some ⟨q, 0, none⟩) 1 1 ∧ wx.heap.size ≤ q ∧ Box w' q 3 #[.int .i64 z]) | 19 => (fun v _ _ => v = (.pointer (some ⟨koc, k, none⟩))) | _ => fun _ _ _ => True) (fun _ _ _ _ => True) (Rk.allK) 99 (by kernel_rfl) (by rfl) (by kernel_rfl) (by rfl) ?_ ?_ ?_ ?_
            · refine ⟨?_, ?_, ?_, ?_, ?_, ?_, ?_, ?_, ?_, ?_, ?_, ?_, ?_, ?_, ?_, ?_, ?_, ?_, ?_, ?_, trivial⟩
              · intro A w' K vals h hn hT hgk hK0
                have r0 : A.tmps[12]?.getD undef = .pointer (some ⟨qk, 0, none⟩) := Rg.slot h.1
                clear h hn hT hgk
                simp [Oper.wp, execOp, go_sem, r0]
                exact hK0 _ _ (Rk.Keeps.refl _ _) rfl trivial
              · intro A w' K vals h hn hT hgk hK0
                have r0 : A.tmps[108]?.getD undef = vals 0 := Rg.slot (h.1)
                have r1 : vals 0 = (.pointer (some ⟨qk, 2, none⟩)) := hn.1
                have hbx := BRk.out.keep (Rk.grown_of hgk)
                have c0 : w'.cell? ⟨qk, 2, none⟩ = some (.slice (some ⟨koc, 0, none⟩) n kkc) := hbx.cell 2 _ rfl
                clear h hn hT hgk hbx
                simp [Oper.wp, execOp, go_sem, r0, r1, c0]
                exact hK0 _ _ (Rk.Keeps.refl _ _) rfl trivial
              · intro A w' K vals h hn hT hgk hK0
                have r0 : A.tmps[13]?.getD undef = .int .i64 (k : Int) := Rg.slot h.1
                clear h hn hT hgk
                simp [Oper.wp, execOp, go_sem, r0]
                exact hK0 _ _ (Rk.Keeps.refl _ _) rfl trivial
              · intro A w' K vals h hn hT hgk hK0
                have r0 : A.tmps[2]?.getD undef = .pointer (some ⟨qg, 0, none⟩) := Rg.slot h.1
                clear h hn hT hgk
                simp [Oper.wp, execOp, go_sem, r0]
                exact hK0 _ _ (Rk.Keeps.refl _ _) rfl trivial
              · intro A w' K vals h hn hT hgk hK0
                have r0 : A.tmps[111]?.getD undef = vals 3 := Rg.slot (h.1)
                have r1 : vals 3 = (.pointer (some ⟨qg, 2, none⟩)) := hn.1
                have hbx := BRg.out.keep (Rk.grown_of hgk)
                have c0 : w'.cell? ⟨qg, 2, none⟩ = some (.slice (some ⟨bc_, oc, none⟩) n kc) := hbx.cell 2 _ rfl
                clear h hn hT hgk hbx
                simp [Oper.wp, execOp, go_sem, r0, r1, c0]
                exact hK0 _ _ (Rk.Keeps.refl _ _) rfl trivial
              · intro A w' K vals h hn hT hgk hK0
                have r0 : A.tmps[13]?.getD undef = .int .i64 (k : Int) := Rg.slot h.1
                clear h hn hT hgk
                simp [Oper.wp, execOp, go_sem, r0]
                exact hK0 _ _ (Rk.Keeps.refl _ _) rfl trivial
              · intro A w' K vals h hn hT hgk hK0
                have r0 : A.tmps[112]?.getD undef = vals 4 := Rg.slot h.1
                have s0 : vals 4 = (.slice (some ⟨bc_, oc, none⟩) n kc) := hn.1
                have r1 : A.tmps[113]?.getD undef = vals 5 := Rg.slot h.2.1
                have s1 : vals 5 = (.int .i64 (k : Int)) := hn.2.1
                clear h hn hT hgk
                simp [Oper.wp, execOp, go_sem, r0, r1, s0, s1, hki, hk0]
                exact hK0 _ _ (Rk.Keeps.refl _ _) rfl trivial
              · intro A w' K vals h hn hT hgk hK0
                have r0 : A.tmps[114]?.getD undef = vals 6 := Rg.slot (h.1)
                have r1 : vals 6 = (.pointer (some ⟨bc_, oc + k, none⟩)) := hn.1
                have c : w'.cell? ⟨bc_, oc + k, none⟩ = some (.slice (some ⟨bm, om, none⟩) ml km) := (Rk.grown_of hgk).cell HRX.out (by simp)
                clear h hn hT hgk
                simp [Oper.wp, execOp, go_sem, r0, r1, c]
                exact hK0 _ _ (Rk.Keeps.refl _ _) rfl trivial
              · intro A w' K vals h hn hT hgk hK0
                have r0 : A.tmps[15]?.getD undef = .int .i64 0 := Rg.slot h.1
                clear h hn hT hgk
                simp [Oper.wp, execOp, go_sem, r0]
                exact hK0 _ _ (Rk.Keeps.refl _ _) rfl trivial
              · intro A w' K vals h hn hT hgk hK0
                have r0 : A.tmps[2]?.getD undef = .pointer (some ⟨qg, 0, none⟩) := Rg.slot h.1
                clear h hn hT hgk
                simp [Oper.wp, execOp, go_sem, r0]
                exact hK0 _ _ (Rk.Keeps.refl _ _) rfl trivial
              · intro A w' K vals h hn hT hgk hK0
                have r0 : A.tmps[117]?.getD undef = vals 9 := Rg.slot (h.1)
                have r1 : vals 9 = (.pointer (some ⟨qg, 2, none⟩)) := hn.1
                have hbx := BRg.out.keep (Rk.grown_of hgk)
                have c0 : w'.cell? ⟨qg, 2, none⟩ = some (.slice (some ⟨bc_, oc, none⟩) n kc) := hbx.cell 2 _ rfl
                clear h hn hT hgk hbx
                simp [Oper.wp, execOp, go_sem, r0, r1, c0]
                exact hK0 _ _ (Rk.Keeps.refl _ _) rfl trivial
              · intro A w' K vals h hn hT hgk hK0
                have r0 : A.tmps[13]?.getD undef = .int .i64 (k : Int) := Rg.slot h.1
                clear h hn hT hgk
                simp [Oper.wp, execOp, go_sem, r0]
                exact hK0 _ _ (Rk.Keeps.refl _ _) rfl trivial
              · intro A w' K vals h hn hT hgk hK0
                have r0 : A.tmps[118]?.getD undef = vals 10 := Rg.slot h.1
                have s0 : vals 10 = (.slice (some ⟨bc_, oc, none⟩) n kc) := hn.1
                have r1 : A.tmps[119]?.getD undef = vals 11 := Rg.slot h.2.1
                have s1 : vals 11 = (.int .i64 (k : Int)) := hn.2.1
                clear h hn hT hgk
                simp [Oper.wp, execOp, go_sem, r0, r1, s0, s1, hki, hk0]
                exact hK0 _ _ (Rk.Keeps.refl _ _) rfl trivial
              · intro A w' K vals h hn hT hgk hK0
                have r0 : A.tmps[120]?.getD undef = vals 12 := Rg.slot (h.1)
                have r1 : vals 12 = (.pointer (some ⟨bc_, oc + k, none⟩)) := hn.1
                have c : w'.cell? ⟨bc_, oc + k, none⟩ = some (.slice (some ⟨bm, om, none⟩) ml km) := (Rk.grown_of hgk).cell HRX.out (by simp)
                clear h hn hT hgk
                simp [Oper.wp, execOp, go_sem, r0, r1, c]
                exact hK0 _ _ (Rk.Keeps.refl _ _) rfl trivial
              · intro A w' K vals h hn hT hgk hK0
                have r0 : A.tmps[121]?.getD undef = vals 13 := Rg.slot h.1
                have s0 : vals 13 = (.slice (some ⟨bm, om, none⟩) ml km) := hn.1
                clear h hn hT hgk
                simp [Oper.wp, go_sem, r0, s0]
                exact hK0 _ _ (Rk.Keeps.refl _ _) rfl trivial
              · intro A w' K vals h hn hT hgk hK0
                have r0 : A.tmps[116]?.getD undef = vals 8 := Rg.slot h.1
                have s0 : vals 8 = (.int .i64 0) := hn.1
                have r1 : A.tmps[122]?.getD undef = vals 14 := Rg.slot h.2.1
                have s1 : vals 14 = (.int .i64 (ml : Int)) := hn.2.1
                clear h hn hT hgk
                simp [Oper.wp, execOp, go_sem, r0, r1, s0, s1, htm, hml1]
                exact hK0 _ _ (Rk.Keeps.refl _ _) rfl trivial
              · intro A w' K vals h hn hT hgk hK0
                have r0 : A.tmps[115]?.getD undef = vals 7 := Rg.slot h.1
                have s0 : vals 7 = (.slice (some ⟨bm, om, none⟩) ml km) := hn.1
                have r1 : A.tmps[123]?.getD undef = vals 15 := Rg.slot h.2.1
                have s1 : vals 15 = (.int .i64 (ei : Int)) := hn.2.1
                clear h hn hT hgk
                simp [Oper.wp, execOp, go_sem, r0, r1, s0, s1, hei, hei0]
                exact hK0 _ _ (Rk.Keeps.refl _ _) rfl trivial
              · intro A w' K vals h hn hT hgk hK0
                have r0 : A.tmps[124]?.getD undef = vals 16 := Rg.slot (h.1)
                have r1 : vals 16 = (.pointer (some ⟨bm, om + ei, none⟩)) := hn.1
                have c : w'.cell? ⟨bm, om + ei, none⟩ = some (.int .i64 z) := HCE.out w' (Rk.grown_of hgk)
                clear h hn hT hgk
                simp [Oper.wp, execOp, go_sem, r0, r1, c]
                exact hK0 _ _ (Rk.Keeps.refl _ _) rfl trivial
              · intro A w' K vals h hn hT hgk hK0
                have r0 : A.tmps[125]?.getD undef = vals 17 := Rg.slot h.1
                have s0 : vals 17 = .int .i64 z := hn.1
                have hsz := hgk.size
                clear h hn hT hgk
                simp [Oper.wp, execOp, go_sem, r0, s0]
                exact hK0 _ _ (Rk.keep_of (World.grownBy_alloc _ _ _)) ⟨_, rfl, hsz, Box.new _ _ _⟩ trivial
              · intro A w' K vals h hn hT hgk hK0
                have r0 : A.tmps[109]?.getD undef = vals 1 := Rg.slot h.1
                have s0 : vals 1 = (.slice (some ⟨koc, 0, none⟩) n kkc) := hn.1
                have r1 : A.tmps[110]?.getD undef = vals 2 := Rg.slot h.2.1
                have s1 : vals 2 = (.int .i64 (k : Int)) := hn.2.1
                clear h hn hT hgk
                simp [Oper.wp, execOp, go_sem, r0, r1, s0, s1, hki, hk0]
                exact hK0 _ _ (Rk.Keeps.refl _ _) rfl trivial
            · refine ⟨?_, ?_, ?_, ?_, ?_, ?_, ?_, ?_, ?_, ?_, ?_, ?_, ?_, ?_, ?_, ?_, ?_, ?_, ?_, ?_, trivial⟩
              · exact fun _ _ _ _ _ _ h => h
              · exact fun _ _ _ _ _ _ h => h
              · exact fun _ _ _ _ _ _ h => h
              · exact fun _ _ _ _ _ _ h => h
              · exact fun _ _ _ _ _ _ h => h
              · exact fun _ _ _ _ _ _ h => h
              · exact fun _ _ _ _ _ _ h => h
              · exact fun _ _ _ _ _ _ h => h
              · exact fun _ _ _ _ _ _ h => h
              · exact fun _ _ _ _ _ _ h => h
              · exact fun _ _ _ _ _ _ h => h
              · exact fun _ _ _ _ _ _ h => h
              · exact fun _ _ _ _ _ _ h => h
              · exact fun _ _ _ _ _ _ h => h
              · exact fun _ _ _ _ _ _ h => h
              · exact fun _ _ _ _ _ _ h => h
              · exact fun _ _ _ _ _ _ h => h
              · exact fun _ _ _ _ _ _ h => h
              · exact fun _ _ _ _ _ h ⟨q, h1, h2, hb⟩ => ⟨q, h1, h2, hb.keep (Rk.grown_of h)⟩
              · exact fun _ _ _ _ _ _ h => h
            · exact fun _ _ _ _ _ _ h => h
            · intro vals w8 G hgk hS hG
              have s11 : vals 19 = .pointer (some ⟨koc, k, none⟩) := hS.2.2.2.2.2.2.2.2.2.2.2.2.2.2.2.2.2.2.2.1
              obtain ⟨q, sB, hq, hbx⟩ : ∃ q, vals 18 = .slice (some ⟨q, 0, none⟩) 1 1 ∧ wx.heap.size ≤ q ∧ Box w8 q 3 #[.int .i64 z] := hS.2.2.2.2.2.2.2.2.2.2.2.2.2.2.2.2.2.2.1
              clear hS
              have hg := Rk.grown_of hgk
              have hf8 := HF.out.on hg
              have hl1 := HF.out.h.lt
              have hl2 := HF.out.k.lt
              obtain ⟨⟨u, hcu⟩, hcf⟩ := hf8.k.cell hkn
              have HR8 := Lib.hid (hf8.putK HHK.out (by omega) (by omega) hbx HOW.out HZ.out)
              clear hgk hbx hf8 hl1 hl2 hg
              refine hG ?_
              clear hG
              simp only [List.take, List.drop, List.length, Nat.reduceSub, Nat.reduceAdd, Rg.putAll, Act.put, List.setIfInBounds_toArray, List.set_cons_succ, List.set_cons_zero, s11, sB]
              clear s11 sB
              go_wp2_with fail
              clear hcu hcf
              go_roundw
              case rel => exact ⟨k + 1, by go_num, by omega, HR8.out⟩
              case measure => simp [intOf]; omega
      · have HWB := Lib.hid (show P.Bit Xa k from hbit)
        have HWI := Lib.hid (show P.winOf Xa k = 0 by unfold P.winOf; rw [if_pos HWB.out])
        replace J0 := Lib.hid (kx_own J0.out HF.out.keep (fun b e => ⟨(own_lt J0.out b e).2, off2 (own_sep J0.out Oh.out.head e) (own_sep J0.out Ok.out.head e)⟩))
        clear hbit
        have hbb := BRg.out
        have gc0 : wx.cell? ⟨qg, 0, none⟩ = some (.slice (some ⟨ba, oa, none⟩) n ka) := hbb.cell 0 _ rfl
        have gc1 : wx.cell? ⟨qg, 1, none⟩ = some (.slice (some ⟨bb, ob, none⟩) n kb) := hbb.cell 1 _ rfl
        have gc2 : wx.cell? ⟨qg, 2, none⟩ = some (.slice (some ⟨bc_, oc, none⟩) n kc) := hbb.cell 2 _ rfl
        clear hbb
        have hoc_ := HCO.out wx WR.out k hkn
        by_cases how : g.owner.getD k 0 = 0
        · rw [how] at hoc_
          have HOW := Lib.hid (show g.owner.getD k 0 = P.winOf Xa k by rw [how]; exact HWI.out.symm)
          clear how
          go_upto_region 18 with (fail)
          clear gc0 gc1 gc2 hoc_
          obtain ⟨z, hz⟩ : ∃ z, cha.getD k (-1) = z := ⟨_, rfl⟩
          have HZ := Lib.hid hz.symm
          have HCM := Lib.hid (moves_cell J0.out HN.out hkn (few_mv0 HWB.out HOW.out) hz)
          clear hz
          refine Rt.wp_region_tail 1 (fun idx => match idx with | 0 => (fun v _ _ => v = (.pointer (some ⟨qh, 2, none⟩))) | 1 => (fun v _ _ => v = (.slice (some ⟨hoc, 0, none⟩) n hkc)) | 2 => (fun v _ _ => v = (.int .i64 (k : Int))) | 3 => (fun v _ _ => v = (.int .i64 0)) | 4 => (fun v _ _ => v = (.pointer (some ⟨qa, 2, none⟩))) | 5 => (fun v _ _ => v = (.pointer (some ⟨qa, 2, none⟩))) | 6 => (fun v _ _ => v = (.slice (some ⟨ba0, 0, none⟩) n n)) | 7 => (fun v _ _ => v = (.int .i64 (k : Int))) | 8 => (fun v _ _ => v = (.pointer (some ⟨ba0, k, none⟩))) | 9 => (fun v _ _ => v = (.int .i64 z)) | 10 => (fun v _ w' => ∃ q, v = .slice (some ⟨q, 0, none⟩) 1 1 ∧ wx.heap.size ≤ q ∧ Box w' q 3 #[.int .i64 z]) | 11 => (fun v _ _ => v = (.pointer (some ⟨hoc, k, none⟩))) | _ => fun _ _ _ => True) (fun _ _ _ _ => True) (Rk.allK) 99 (by kernel_rfl) (by rfl) (by kernel_rfl) (by rfl) ?_ ?_ ?_ ?_
          · refine ⟨?_, ?_, ?_, ?_, ?_, ?_, ?_, ?_, ?_, ?_, ?_, ?_, trivial⟩
            · intro A w' K vals h hn hT hgk hK0
              have r0 : A.tmps[11]?.getD undef = .pointer (some ⟨qh, 0, none⟩) := Rg.slot h.1
              clear h hn hT hgk
              simp [Oper.wp, execOp, go_sem, r0]
              exact hK0 _ _ (Rk.Keeps.refl _ _) rfl trivial
            · intro A w' K vals h hn hT hgk hK0
              have r0 : A.tmps[81]?.getD undef = vals 0 := Rg.slot (h.1)
              have r1 : vals 0 = (.pointer (some ⟨qh, 2, none⟩)) := hn.1
              have hbx := BRh.out.keep (Rk.grown_of hgk)
              have c0 : w'.cell? ⟨qh, 2, none⟩ = some (.slice (some ⟨hoc, 0, none⟩) n hkc) := hbx.cell 2 _ rfl
              clear h hn hT hgk hbx
              simp [Oper.wp, execOp, go_sem, r0, r1, c0]
              exact hK0 _ _ (Rk.Keeps.refl _ _) rfl trivial
            · intro A w' K vals h hn hT hgk hK0
              have r0 : A.tmps[13]?.getD undef = .int .i64 (k : Int) := Rg.slot h.1
              clear h hn hT hgk
              simp [Oper.wp, execOp, go_sem, r0]
              exact hK0 _ _ (Rk.Keeps.refl _ _) rfl trivial
            · intro A w' K vals h hn hT hgk hK0
              have r0 : A.tmps[14]?.getD undef = .int .i64 0 := Rg.slot h.1
              clear h hn hT hgk
              simp [Oper.wp, execOp, go_sem, r0]
              exact hK0 _ _ (Rk.Keeps.refl _ _) rfl trivial
            · intro A w' K vals h hn hT hgk hK0
              have r0 : A.tmps[8]?.getD undef = .pointer (some ⟨qa, 0, none⟩) := Rg.slot h.1
              clear h hn hT hgk
              simp [Oper.wp, execOp, go_sem, r0]
              exact hK0 _ _ (Rk.Keeps.refl _ _) rfl trivial
            · intro A w' K vals h hn hT hgk hK0
              have r0 : A.tmps[85]?.getD undef = vals 4 := Rg.slot h.1
              have s0 : vals 4 = (.pointer (some ⟨qa, 2, none⟩)) := hn.1
              have r1 : A.tmps[84]?.getD undef = vals 3 := Rg.slot h.2.1
              have s1 : vals 3 = (.int .i64 0) := hn.2.1
              clear h hn hT hgk
              simp [Oper.wp, execOp, go_sem, r0, r1, s0, s1]
              exact hK0 _ _ (Rk.Keeps.refl _ _) rfl trivial
            · intro A w' K vals h hn hT hgk hK0
              have r0 : A.tmps[86]?.getD undef = vals 5 := Rg.slot (h.1)
              have r1 : vals 5 = (.pointer (some ⟨qa, 2, none⟩)) := hn.1
              have hbx := BRa.out.keep (Rk.grown_of hgk)
              have c0 : w'.cell? ⟨qa, 2, none⟩ = some (.slice (some ⟨ba0, 0, none⟩) n n) := hbx.cell 2 _ rfl
              clear h hn hT hgk hbx
              simp [Oper.wp, execOp, go_sem, r0, r1, c0]
              exact hK0 _ _ (Rk.Keeps.refl _ _) rfl trivial
            · intro A w' K vals h hn hT hgk hK0
              have r0 : A.tmps[13]?.getD undef = .int .i64 (k : Int) := Rg.slot h.1
              clear h hn hT hgk
              simp [Oper.wp, execOp, go_sem, r0]
              exact hK0 _ _ (Rk.Keeps.refl _ _) rfl trivial
            · intro A w' K vals h hn hT hgk hK0
              have r0 : A.tmps[87]?.getD undef = vals 6 := Rg.slot h.1
              have s0 : vals 6 = (.slice (some ⟨ba0, 0, none⟩) n n) := hn.1
              have r1 : A.tmps[88]?.getD undef = vals 7 := Rg.slot h.2.1
              have s1 : vals 7 = (.int .i64 (k : Int)) := hn.2.1
              clear h hn hT hgk
              simp [Oper.wp, execOp, go_sem, r0, r1, s0, s1, hki, hk0]
              exact hK0 _ _ (Rk.Keeps.refl _ _) rfl trivial
            · intro A w' K vals h hn hT hgk hK0
              have r0 : A.tmps[89]?.getD undef = vals 8 := Rg.slot (h.1)
              have r1 : vals 8 = (.pointer (some ⟨ba0, k, none⟩)) := hn.1
              have c : w'.cell? ⟨ba0, k, none⟩ = some (.int .i64 z) := HCM.out w' (Rk.grown_of hgk)
              clear h hn hT hgk
              simp [Oper.wp, execOp, go_sem, r0, r1, c]
              exact hK0 _ _ (Rk.Keeps.refl _ _) rfl trivial
            · intro A w' K vals h hn hT hgk hK0
              have r0 : A.tmps[90]?.getD undef = vals 9 := Rg.slot h.1
              have s0 : vals 9 = .int .i64 z := hn.1
              have hsz := hgk.size
              clear h hn hT hgk
              simp [Oper.wp, execOp, go_sem, r0, s0]
              exact hK0 _ _ (Rk.keep_of (World.grownBy_alloc _ _ _)) ⟨_, rfl, hsz, Box.new _ _ _⟩ trivial
            · intro A w' K vals h hn hT hgk hK0
              have r0 : A.tmps[82]?.getD undef = vals 1 := Rg.slot h.1
              have s0 : vals 1 = (.slice (some ⟨hoc, 0, none⟩) n hkc) := hn.1
              have r1 : A.tmps[83]?.getD undef = vals 2 := Rg.slot h.2.1
              have s1 : vals 2 = (.int .i64 (k : Int)) := hn.2.1
              clear h hn hT hgk
              simp [Oper.wp, execOp, go_sem, r0, r1, s0, s1, hki, hk0]
              exact hK0 _ _ (Rk.Keeps.refl _ _) rfl trivial
          · refine ⟨?_, ?_, ?_, ?_, ?_, ?_, ?_, ?_, ?_, ?_, ?_, ?_, trivial⟩
            · exact fun _ _ _ _ _ _ h => h
            · exact fun _ _ _ _ _ _ h => h
            · exact fun _ _ _ _ _ _ h => h
            · exact fun _ _ _ _ _ _ h => h
            · exact fun _ _ _ _ _ _ h => h
            · exact fun _ _ _ _ _ _ h => h
            · exact fun _ _ _ _ _ _ h => h
            · exact fun _ _ _ _ _ _ h => h
            · exact fun _ _ _ _ _ _ h => h
            · exact fun _ _ _ _ _ _ h => h
            · exact fun _ _ _ _ _ h ⟨q, h1, h2, hb⟩ => ⟨q, h1, h2, hb.keep (Rk.grown_of h)⟩
            · exact fun _ _ _ _ _ _ h => h
          · exact fun _ _ _ _ _ _ h => h
          · intro vals w8 G hgk hS hG
            have s11 : vals 11 = .pointer (some ⟨hoc, k, none⟩) := hS.2.2.2.2.2.2.2.2.2.2.2.1
            obtain ⟨q, sB, hq, hbx⟩ : ∃ q, vals 10 = .slice (some ⟨q, 0, none⟩) 1 1 ∧ wx.heap.size ≤ q ∧ Box w8 q 3 #[.int .i64 z] := hS.2.2.2.2.2.2.2.2.2.2.1
            clear hS
            have hg := Rk.grown_of hgk
            have hf8 := HF.out.on hg
            have hl1 := HF.out.h.lt
            have hl2 := HF.out.k.lt
            obtain ⟨⟨u, hcu⟩, hcf⟩ := hf8.h.cell hkn
            have HR8 := Lib.hid (hf8.putH HHK.out (by omega) (by omega) hbx HOW.out HZ.out)
            clear hgk hbx hf8 hl1 hl2 hg
            refine hG ?_
            clear hG
            simp only [List.take, List.drop, List.length, Nat.reduceSub, Nat.reduceAdd, Rg.putAll, Act.put, List.setIfInBounds_toArray, List.set_cons_succ, List.set_cons_zero, s11, sB]
            clear s11 sB
            go_wp2_with fail
            clear hcu hcf
            go_roundw
            case rel => exact ⟨k + 1, by go_num, by omega, HR8.out⟩
            case measure => simp [intOf]; omega
        · obtain ⟨ow, how_⟩ : ∃ ow, g.owner.getD k 0 = ow := ⟨_, rfl⟩
          rw [how_] at hoc_
          have HOW := Lib.hid (show ¬ g.owner.getD k 0 = P.winOf Xa k by intro e; exact how (by rw [e]; exact HWI.out))
          have fow : (ow == 0) = false := by rw [beq_eq_false_iff_ne, ← how_]; exact how
          clear how how_
          go_upto_region 20 with (fail)
          clear gc0 gc1 gc2 hoc_
          by_cases hz0 : 0 < zl
          · obtain ⟨bz, oz, cz, hzv, hzc⟩ := IK.out.open_ HZL.out hz0
            have hkz : keepAt zs k = zs.getD (k % zl) 0 := by unfold keepAt; rw [HZL.out, if_pos hz0]
            injection hzv with hak _ hkk
            subst hak hkk
            have fz : decide ((0 : Int) < (zl : Int)) = true := decide_eq_true (by omega)
            obtain ⟨r, hr⟩ : ∃ r, k % zl = r := ⟨_, rfl⟩
            have hrl : r < zl := by rw [← hr]; exact Nat.mod_lt _ hz0
            have hzb : zs.getD r 0 ∈ zs := getD_mem_ (by rw [HZL.out]; exact hrl)
            replace hzb := HZB.out _ hzb
            have htm : Int.tmod (k : Int) (zl : Int) = (r : Int) := by rw [Int.tmod_eq_emod_of_nonneg (Int.natCast_nonneg _), ← hr]; rfl
            have hzl0 : ((zl : Nat) : Int) ≠ 0 := by omega
            have hzl1 : zl ≠ 0 := by omega
            rw [hr] at hkz
            obtain ⟨zz, hzz⟩ : ∃ zz, zs.getD r 0 = zz := ⟨_, rfl⟩
            have hcz := hzc wx WR.out r hrl
            rw [hzz] at hcz hkz hzb
            have HKA := Lib.hid hkz
            obtain ⟨hzb1, hzb2⟩ := hzb
            clear hzc hkz hr hzz hz0
            by_cases hneg : zz < 0
            · have fn : decide (zz < 0) = true := decide_eq_true hneg
              have hfo := fold_neg hneg
              obtain ⟨mm, hmm⟩ : ∃ mm, foldN zz = mm := ⟨_, rfl⟩
              have HMM := Lib.hid (show foldN (keepAt zs k) = mm by rw [HKA.out]; exact hmm)
              rw [hmm] at hfo
              go_upto_region 24 with (fail)
              clear hmm hfo fn hneg hcz hzb1 hzb2 htm hzl0 hzl1 fz hrl fow
              obtain ⟨x, hcx, hix⟩ := HCR.out wx WR.out k hkn
              obtain ⟨ml, hml⟩ : ∃ ml, (g.moves.getD k []).length = ml := ⟨_, rfl⟩
              have hml2 : 0 < ml := by
                rw [← hml]
                exact List.length_pos_iff.2 (HR.out.at k (by rw [HN.out]; exact hkn)).2.2.2.1
              obtain ⟨bm, om, km, rfl, hcm⟩ := hix.open_ hml hml2
              have HRX := Lib.hid hcx
              obtain ⟨ei, hei_⟩ : ∃ ei, mm % ml = ei := ⟨_, rfl⟩
              have heil : ei < ml := by rw [← hei_]; exact Nat.mod_lt _ hml2
              have htm : Int.tmod (mm : Int) (ml : Int) = (ei : Int) := by rw [Int.tmod_eq_emod_of_nonneg (Int.natCast_nonneg _), ← hei_]; rfl
              have HEI := Lib.hid (show keepE g zs k = ei by unfold keepE; rw [HMM.out, hml]; exact hei_)
              have hml0 : ((ml : Nat) : Int) ≠ 0 := by omega
              have hml1 : ml ≠ 0 := by omega
              have hei : (ei : Int) < (ml : Int) := by omega
              have hei0 : (0 : Int) ≤ (ei : Int) := by omega
              obtain ⟨z, hz⟩ : ∃ z, (g.moves.getD k []).getD ei 0 = z := ⟨_, rfl⟩
              have HZ := Lib.hid (show z = (g.moves.getD k []).getD (keepE g zs k) 0 by rw [HEI.out]; exact hz.symm)
              have HCE := Lib.hid (show ∀ w', wx.grownBy w' none → w'.cell? ⟨bm, om + ei, none⟩ = some (.int .i64 z) from fun w' hg => by rw [← hz]; exact hcm w' (below_of_grown hg) ei heil)
              clear hcx hcm hml hml2 hei_ heil hz
              refine Rt.wp_region_tail 1 (fun idx => match idx with | 0 => (fun v _ _ => v = (.pointer (some ⟨qk, 2, none⟩))) | 1 => (fun v _ _ => v = (.slice (some ⟨koc, 0, none⟩) n kkc)) | 2 => (fun v _ _ => v = (.int .i64 (k : Int))) | 3 => (fun v _ _ => v = (.pointer (some ⟨qg, 2, none⟩))) | 4 => (fun v _ _ => v = (.slice (some ⟨bc_, oc, none⟩) n kc)) | 5 => (fun v _ _ => v = (.int .i64 (k : Int))) | 6 => (fun v _ _ => v = (.pointer (some ⟨bc_, oc + k, none⟩))) | 7 => (fun v _ _ => v = (.slice (some ⟨bm, om, none⟩) ml km)) | 8 => (fun v _ _ => v = (.int .i64 (mm : Int))) | 9 => (fun v _ _ => v = (.pointer (some ⟨qg, 2, none⟩))) | 10 => (fun v _ _ => v = (.slice (some ⟨bc_, oc, none⟩) n kc)) | 11 => (fun v _ _ => v = (.int .i64 (k : Int))) | 12 => (fun v _ _ => v = (.pointer (some ⟨bc_, oc + k, none⟩))) | 13 => (fun v _ _ => v = (.slice (some ⟨bm, om, none⟩) ml km)) | 14 => (fun v _ _ => v = (.int .i64 (ml : Int))) | 15 => (fun v _ _ => v = (.int .i64 (ei : Int))) | 16 => (fun v _ _ => v = (.pointer (some ⟨bm, om + ei, none⟩))) | 17 => (fun v _ _ => v = (.int .i64 z)) | 18 => (fun v _ w' => ∃ q, v = .slice (some ⟨q, 0, none⟩) 1 1 ∧ wx.heap.size ≤ q ∧ Box w' q 3 #[.int .i64 z]) | 19 => (fun v _ _ => v = (.pointer (some ⟨koc, k, none⟩))) | _ => fun _ _ _ => True) (fun _ _ _ _ => True) (Rk.allK) 99 (by kernel_rfl) (by rfl) (by kernel_rfl) (by rfl) ?_ ?_ ?_ ?_
              · refine ⟨?_, ?_, ?_, ?_, ?_, ?_, ?_, ?_, ?_, ?_, ?_, ?_, ?_, ?_, ?_, ?_, ?_, ?_, ?_, ?_, trivial⟩
                · intro A w' K vals h hn hT hgk hK0
                  have r0 : A.tmps[12]?.getD undef = .pointer (some ⟨qk, 0, none⟩) := Rg.slot h.1
                  clear h hn hT hgk
                  simp [Oper.wp, execOp, go_sem, r0]
                  exact hK0 _ _ (Rk.Keeps.refl _ _) rfl trivial
                · intro A w' K vals h hn hT hgk hK0
                  have r0 : A.tmps[108]?.getD undef = vals 0 := Rg.slot (h.1)
                  have r1 : vals 0 = (.pointer (some ⟨qk, 2, none⟩)) := hn.1
                  have hbx := BRk.out.keep (Rk.grown_of hgk)
                  have c0 : w'.cell? ⟨qk, 2, none⟩ = some (.slice (some ⟨koc, 0, none⟩) n kkc) := hbx.cell 2 _ rfl
                  clear h hn hT hgk hbx
                  simp [Oper.wp, execOp, go_sem, r0, r1, c0]
                  exact hK0 _ _ (Rk.Keeps.refl _ _) rfl trivial
                · intro A w' K vals h hn hT hgk hK0
                  have r0 : A.tmps[13]?.getD undef = .int .i64 (k : Int) := Rg.slot h.1
                  clear h hn hT hgk
                  simp [Oper.wp, execOp, go_sem, r0]
                  exact hK0 _ _ (Rk.Keeps.refl _ _) rfl trivial
                · intro A w' K vals h hn hT hgk hK0
                  have r0 : A.tmps[2]?.getD undef = .pointer (some ⟨qg, 0, none⟩) := Rg.slot h.1
                  clear h hn hT hgk
                  simp [Oper.wp, execOp, go_sem, r0]
                  exact hK0 _ _ (Rk.Keeps.refl _ _) rfl trivial
                · intro A w' K vals h hn hT hgk hK0
                  have r0 : A.tmps[111]?.getD undef = vals 3 := Rg.slot (h.1)
                  have r1 : vals 3 = (.pointer (some ⟨qg, 2, none⟩)) := hn.1
                  have hbx := BRg.out.keep (Rk.grown_of hgk)
                  have c0 : w'.cell? ⟨qg, 2, none⟩ = some (.slice (some ⟨bc_, oc, none⟩) n kc) := hbx.cell 2 _ rfl
                  clear h hn hT hgk hbx
                  simp [Oper.wp, execOp, go_sem, r0, r1, c0]
                  exact hK0 _ _ (Rk.Keeps.refl _ _) rfl trivial
                · intro A w' K vals h hn hT hgk hK0
                  have r0 : A.tmps[13]?.getD undef = .int .i64 (k : Int) := Rg.slot h.1
                  clear h hn hT hgk
                  simp [Oper.wp, execOp, go_sem, r0]
                  exact hK0 _ _ (Rk.Keeps.refl _ _) rfl trivial
                · intro A w' K vals h hn hT hgk hK0
                  have r0 : A.tmps[112]?.getD undef = vals 4 := Rg.slot h.1
                  have s0 : vals 4 = (.slice (some ⟨bc_, oc, none⟩) n kc) := hn.1
                  have r1 : A.tmps[113]?.getD undef = vals 5 := Rg.slot h.2.1
                  have s1 : vals 5 = (.int .i64 (k : Int)) := hn.2.1
                  clear h hn hT hgk
                  simp [Oper.wp, execOp, go_sem, r0, r1, s0, s1, hki, hk0]
                  exact hK0 _ _ (Rk.Keeps.refl _ _) rfl trivial
                · intro A w' K vals h hn hT hgk hK0
                  have r0 : A.tmps[114]?.getD undef = vals 6 := Rg.slot (h.1)
                  have r1 : vals 6 = (.pointer (some ⟨bc_, oc + k, none⟩)) := hn.1
                  have c : w'.cell? ⟨bc_, oc + k, none⟩ = some (.slice (some ⟨bm, om, none⟩) ml km) := (Rk.grown_of hgk).cell HRX.out (by simp)
                  clear h hn hT hgk
                  simp [Oper.wp, execOp, go_sem, r0, r1, c]
                  exact hK0 _ _ (Rk.Keeps.refl _ _) rfl trivial
                · intro A w' K vals h hn hT hgk hK0
                  have r0 : A.tmps[15]?.getD undef = .int .i64 (mm : Int) := Rg.slot h.1
                  clear h hn hT hgk
                  simp [Oper.wp, execOp, go_sem, r0]
                  exact hK0 _ _ (Rk.Keeps.refl _ _) rfl trivial
                · intro A w' K vals h hn hT hgk hK0
                  have r0 : A.tmps[2]?.getD undef = .pointer (some ⟨qg, 0, none⟩) := Rg.slot h.1
                  clear h hn hT hgk
                  simp [Oper.wp, execOp, go_sem, r0]
                  exact hK0 _ _ (Rk.Keeps.refl _ _) rfl trivial
                · intro A w' K vals h hn hT hgk hK0
                  have r0 : A.tmps[117]?.getD undef = vals 9 := Rg.slot (h.1)
                  have r1 : vals 9 = (.pointer (some ⟨qg, 2, none⟩)) := hn.1
                  have hbx := BRg.out.keep (Rk.grown_of hgk)
                  have c0 : w'.cell? ⟨qg, 2, none⟩ = some (.slice (some ⟨bc_, oc, none⟩) n kc) := hbx.cell 2 _ rfl
                  clear h hn hT hgk hbx
                  simp [Oper.wp, execOp, go_sem, r0, r1, c0]
                  exact hK0 _ _ (Rk.Keeps.refl _ _) rfl trivial
                · intro A w' K vals h hn hT hgk hK0
                  have r0 : A.tmps[13]?.getD undef = .int .i64 (k : Int) := Rg.slot h.1
                  clear h hn hT hgk
                  simp [Oper.wp, execOp, go_sem, r0]
                  exact hK0 _ _ (Rk.Keeps.refl _ _) rfl trivial
                · intro A w' K vals h hn hT hgk hK0
                  have r0 : A.tmps[118]?.getD undef = vals 10 := Rg.slot h.1
                  have s0 : vals 10 = (.slice (some ⟨bc_, oc, none⟩) n kc) := hn.1
                  have r1 : A.tmps[119]?.getD undef = vals 11 := Rg.slot h.2.1
                  have s1 : vals 11 = (.int .i64 (k : Int)) := hn.2.1
                  clear h hn hT hgk
                  simp [Oper.wp, execOp, go_sem, r0, r1, s0, s1, hki, hk0]
                  exact hK0 _ _ (Rk.Keeps.refl _ _) rfl trivial
                · intro A w' K vals h hn hT hgk hK0
                  have r0 : A.tmps[120]?.getD undef = vals 12 := Rg.slot (h.1)
                  have r1 : vals 12 = (.pointer (some ⟨bc_, oc + k, none⟩)) := hn.1
                  have c : w'.cell? ⟨bc_, oc + k, none⟩ = some (.slice (some ⟨bm, om, none⟩) ml km) := (Rk.grown_of hgk).cell HRX.out (by simp)
                  clear h hn hT hgk
                  simp [Oper.wp, execOp, go_sem, r0, r1, c]
                  exact hK0 _ _ (Rk.Keeps.refl _ _) rfl trivial
                · intro A w' K vals h hn hT hgk hK0
                  have r0 : A.tmps[121]?.getD undef = vals 13 := Rg.slot h.1
                  have s0 : vals 13 = (.slice (some ⟨bm, om, none⟩) ml km) := hn.1
                  clear h hn hT hgk
                  simp [Oper.wp, go_sem, r0, s0]
                  exact hK0 _ _ (Rk.Keeps.refl _ _) rfl trivial
                · intro A w' K vals h hn hT hgk hK0
                  have r0 : A.tmps[116]?.getD undef = vals 8 := Rg.slot h.1
                  have s0 : vals 8 = (.int .i64 (mm : Int)) := hn.1
                  have r1 : A.tmps[122]?.getD undef = vals 14 := Rg.slot h.2.1
                  have s1 : vals 14 = (.int .i64 (ml : Int)) := hn.2.1
                  clear h hn hT hgk
                  simp [Oper.wp, execOp, go_sem, r0, r1, s0, s1, htm, hml1]
                  exact hK0 _ _ (Rk.Keeps.refl _ _) rfl trivial
                · intro A w' K vals h hn hT hgk hK0
                  have r0 : A.tmps[115]?.getD undef = vals 7 := Rg.slot h.1
                  have s0 : vals 7 = (.slice (some ⟨bm, om, none⟩) ml km) := hn.1
                  have r1 : A.tmps[123]?.getD undef = vals 15 := Rg.slot h.2.1
                  have s1 : vals 15 = (.int .i64 (ei : Int)) := hn.2.1
                  clear h hn hT hgk
                  simp [Oper.wp, execOp, go_sem, r0, r1, s0, s1, hei, hei0]
                  exact hK0 _ _ (Rk.Keeps.refl _ _) rfl trivial
                · intro A w' K vals h hn hT hgk hK0
                  have r0 : A.tmps[124]?.getD undef = vals 16 := Rg.slot (h.1)
                  have r1 : vals 16 = (.pointer (some ⟨bm, om + ei, none⟩)) := hn.1
                  have c : w'.cell? ⟨bm, om + ei, none⟩ = some (.int .i64 z) := HCE.out w' (Rk.grown_of hgk)
                  clear h hn hT hgk
                  simp [Oper.wp, execOp, go_sem, r0, r1, c]
                  exact hK0 _ _ (Rk.Keeps.refl _ _) rfl trivial
                · intro A w' K vals h hn hT hgk hK0
                  have r0 : A.tmps[125]?.getD undef = vals 17 := Rg.slot h.1
                  have s0 : vals 17 = .int .i64 z := hn.1
                  have hsz := hgk.size
                  clear h hn hT hgk
                  simp [Oper.wp, execOp, go_sem, r0, s0]
                  exact hK0 _ _ (Rk.keep_of (World.grownBy_alloc _ _ _)) ⟨_, rfl, hsz, Box.new _ _ _⟩ trivial
                · intro A w' K vals h hn hT hgk hK0
                  have r0 : A.tmps[109]?.getD undef = vals 1 := Rg.slot h.1
                  have s0 : vals 1 = (.slice (some ⟨koc, 0, none⟩) n kkc) := hn.1
                  have r1 : A.tmps[110]?.getD undef = vals 2 := Rg.slot h.2.1
                  have s1 : vals 2 = (.int .i64 (k : Int)) := hn.2.1
                  clear h hn hT hgk
                  simp [Oper.wp, execOp, go_sem, r0, r1, s0, s1, hki, hk0]
                  exact hK0 _ _ (Rk.Keeps.refl _ _) rfl trivial
              · refine ⟨?_, ?_, ?_, ?_, ?_, ?_, ?_, ?_, ?_, ?_, ?_, ?_, ?_, ?_, ?_, ?_, ?_, ?_, ?_, ?_, trivial⟩
                · exact fun _ _ _ _ _ _ h => h
                · exact fun _ _ _ _ _ _ h => h
                · exact fun _ _ _ _ _ _ h => h
                · exact fun _ _ _ _ _ _ h => h
                · exact fun _ _ _ _ _ _ h => h
                · exact fun _ _ _ _ _ _ h => h
                · exact fun _ _ _ _ _ _ h => h
                · exact fun _ _ _ _ _ _ h => h
                · exact fun _ _ _ _ _ _ h => h
                · exact fun _ _ _ _ _ _ h => h
                · exact fun _ _ _ _ _ _ h => h
                · exact fun _ _ _ _ _ _ h => h
                · exact fun _ _ _ _ _ _ h => h
                · exact fun _ _ _ _ _ _ h => h
                · exact fun _ _ _ _ _ _ h => h
                · exact fun _ _ _ _ _ _ h => h
                · exact fun _ _ _ _ _ _ h => h
                · exact fun _ _ _ _ _ _ h => h
                · exact fun _ _ _ _ _ h ⟨q, h1, h2, hb⟩ => ⟨q, h1, h2, hb.keep (Rk.grown_of h)⟩
                · exact fun _ _ _ _ _ _ h => h
              · exact fun _ _ _ _ _ _ h => h
              · intro vals w8 G hgk hS hG
                have s11 : vals 19 = .pointer (some ⟨koc, k, none⟩) := hS.2.2.2.2.2.2.2.2.2.2.2.2.2.2.2.2.2.2.2.1
                obtain ⟨q, sB, hq, hbx⟩ : ∃ q, vals 18 = .slice (some ⟨q, 0, none⟩) 1 1 ∧ wx.heap.size ≤ q ∧ Box w8 q 3 #[.int .i64 z] := hS.2.2.2.2.2.2.2.2.2.2.2.2.2.2.2.2.2.2.1
                clear hS
                have hg := Rk.grown_of hgk
                have hf8 := HF.out.on hg
                have hl1 := HF.out.h.lt
                have hl2 := HF.out.k.lt
                obtain ⟨⟨u, hcu⟩, hcf⟩ := hf8.k.cell hkn
                have HR8 := Lib.hid (hf8.putK HHK.out (by omega) (by omega) hbx HOW.out HZ.out)
                clear hgk hbx hf8 hl1 hl2 hg
                refine hG ?_
                clear hG
                simp only [List.take, List.drop, List.length, Nat.reduceSub, Nat.reduceAdd, Rg.putAll, Act.put, List.setIfInBounds_toArray, List.set_cons_succ, List.set_cons_zero, s11, sB]
                clear s11 sB
                go_wp2_with fail
                clear hcu hcf
                go_roundw
                case rel => exact ⟨k + 1, by go_num, by omega, HR8.out⟩
                case measure => simp [intOf]; omega
            · have fn : decide (zz < 0) = false := decide_eq_false hneg
              have hfo := fold_pos hneg
              obtain ⟨mm, hmm⟩ : ∃ mm, foldN zz = mm := ⟨_, rfl⟩
              have HMM := Lib.hid (show foldN (keepAt zs k) = mm by rw [HKA.out]; exact hmm)
              rw [hmm] at hfo
              go_upto_region 24 with (fail)
              clear hmm hfo fn hneg hcz hzb1 hzb2 htm hzl0 hzl1 fz hrl fow
              obtain ⟨x, hcx, hix⟩ := HCR.out wx WR.out k hkn
              obtain ⟨ml, hml⟩ : ∃ ml, (g.moves.getD k []).length = ml := ⟨_, rfl⟩
              have hml2 : 0 < ml := by
                rw [← hml]
                exact List.length_pos_iff.2 (HR.out.at k (by rw [HN.out]; exact hkn)).2.2.2.1
              obtain ⟨bm, om, km, rfl, hcm⟩ := hix.open_ hml hml2
              have HRX := Lib.hid hcx
              obtain ⟨ei, hei_⟩ : ∃ ei, mm % ml = ei := ⟨_, rfl⟩
              have heil : ei < ml := by rw [← hei_]; exact Nat.mod_lt _ hml2
              have htm : Int.tmod (mm : Int) (ml : Int) = (ei : Int) := by rw [Int.tmod_eq_emod_of_nonneg (Int.natCast_nonneg _), ← hei_]; rfl
              have HEI := Lib.hid (show keepE g zs k = ei by unfold keepE; rw [HMM.out, hml]; exact hei_)
              have hml0 : ((ml : Nat) : Int) ≠ 0 := by omega
              have hml1 : ml ≠ 0 := by omega
              have hei : (ei : Int) < (ml : Int) := by omega
              have hei0 : (0 : Int) ≤ (ei : Int) := by omega
              obtain ⟨z, hz⟩ : ∃ z, (g.moves.getD k []).getD ei 0 = z := ⟨_, rfl⟩
              have HZ := Lib.hid (show z = (g.moves.getD k []).getD (keepE g zs k) 0 by rw [HEI.out]; exact hz.symm)
              have HCE := Lib.hid (show ∀ w', wx.grownBy w' none → w'.cell? ⟨bm, om + ei, none⟩ = some (.int .i64 z) from fun w' hg => by rw [← hz]; exact hcm w' (below_of_grown hg) ei heil)
              clear hcx hcm hml hml2 hei_ heil hz
              refine Rt.wp_region_tail 1 (fun idx => match idx with | 0 => (fun v _ _ => v = (.pointer (some ⟨qk, 2, none⟩))) | 1 => (fun v _ _ => v = (.slice (some ⟨koc, 0, none⟩) n kkc)) | 2 => (fun v _ _ => v = (.int .i64 (k : Int))) | 3 => (fun v _ _ => v = (.pointer (some ⟨qg, 2, none⟩))) | 4 => (fun v _ _ => v = (.slice (some ⟨bc_, oc, none⟩) n kc)) | 5 => (fun v _ _ => v = (.int .i64 (k : Int))) | 6 => (fun v _ _ => v = (.pointer (some ⟨bc_, oc + k, none⟩))) | 7 => (fun v _ _ => v = (.slice (some ⟨bm, om, none⟩) ml km)) | 8 => (fun v _ _ => v = (.int .i64 (mm : Int))) | 9 => (fun v _ _ => v = (.pointer (some ⟨qg, 2, none⟩))) | 10 => (fun v _ _ => v = (.slice (some ⟨bc_, oc, none⟩) n kc)) | 11 => (fun v _ _ => v = (.int .i64 (k : Int))) | 12 => (fun v _ _ => v = (.pointer (some ⟨bc_, oc + k, none⟩))) | 13 => (fun v _ _ => v = (.slice (some ⟨bm, om, none⟩) ml km)) | 14 => (fun v _ _ => v = (.int .i64 (ml : Int))) | 15 => (fun v _ _ => v = (.int .i64 (ei : Int))) | 16 => (fun v _ _ => v = (.pointer (some ⟨bm, om + ei, none⟩))) | 17 => (fun v _ _ => v = (.int .i64 z)) | 18 => (fun v _ w' => ∃ q, v = .slice (some ⟨q, 0, none⟩) 1 1 ∧ wx.heap.size ≤ q ∧ Box w' q 3 #[.int .i64 z]) | 19 => (fun v _ _ => v = (.pointer (some ⟨koc, k, none⟩))) | _ => fun _ _ _ => True) (fun _ _ _ _ => True) (Rk.allK) 99 (by kernel_rfl) (by rfl) (by kernel_rfl) (by rfl) ?_ ?_ ?_ ?_
              · refine ⟨?_, ?_, ?_, ?_, ?_, ?_, ?_, ?_, ?_, ?_, ?_, ?_, ?_, ?_, ?_, ?_, ?_, ?_, ?_, ?_, trivial⟩
                · intro A w' K vals h hn hT hgk hK0
                  have r0 : A.tmps[12]?.getD undef = .pointer (some ⟨qk, 0, none⟩) := Rg.slot h.1
                  clear h hn hT hgk
                  simp [Oper.wp, execOp, go_sem, r0]
                  exact hK0 _ _ (Rk.Keeps.refl _ _) rfl trivial
                · intro A w' K vals h hn hT hgk hK0
                  have r0 : A.tmps[108]?.getD undef = vals 0 := Rg.slot (h.1)
                  have r1 : vals 0 = (.pointer (some ⟨qk, 2, none⟩)) := hn.1
                  have hbx := BRk.out.keep (Rk.grown_of hgk)
                  have c0 : w'.cell? ⟨qk, 2, none⟩ = some (.slice (some ⟨koc, 0, none⟩) n kkc) := hbx.cell 2 _ rfl
                  clear h hn hT hgk hbx
                  simp [Oper.wp, execOp, go_sem, r0, r1, c0]
                  exact hK0 _ _ (Rk.Keeps.refl _ _) rfl trivial
                · intro A w' K vals h hn hT hgk hK0
                  have r0 : A.tmps[13]?.getD undef = .int .i64 (k : Int) := Rg.slot h.1
                  clear h hn hT hgk
                  simp [Oper.wp, execOp, go_sem, r0]
                  exact hK0 _ _ (Rk.Keeps.refl _ _) rfl trivial
                · intro A w' K vals h hn hT hgk hK0
                  have r0 : A.tmps[2]?.getD undef = .pointer (some ⟨qg, 0, none⟩) := Rg.slot h.1
                  clear h hn hT hgk
                  simp [Oper.wp, execOp, go_sem, r0]
                  exact hK0 _ _ (Rk.Keeps.refl _ _) rfl trivial
                · intro A w' K vals h hn hT hgk hK0
                  have r0 : A.tmps[111]?.getD undef = vals 3 := Rg.slot (h.1)
                  have r1 : vals 3 = (.pointer (some ⟨qg, 2, none⟩)) := hn.1
                  have hbx := BRg.out.keep (Rk.grown_of hgk)
                  have c0 : w'.cell? ⟨qg, 2, none⟩ = some (.slice (some ⟨bc_, oc, none⟩) n kc) := hbx.cell 2 _ rfl
                  clear h hn hT hgk hbx
                  simp [Oper.wp, execOp, go_sem, r0, r1, c0]
                  exact hK0 _ _ (Rk.Keeps.refl _ _) rfl trivial
                · intro A w' K vals h hn hT hgk hK0
                  have r0 : A.tmps[13]?.getD undef = .int .i64 (k : Int) := Rg.slot h.1
                  clear h hn hT hgk
                  simp [Oper.wp, execOp, go_sem, r0]
                  exact hK0 _ _ (Rk.Keeps.refl _ _) rfl trivial
                · intro A w' K vals h hn hT hgk hK0
                  have r0 : A.tmps[112]?.getD undef = vals 4 := Rg.slot h.1
                  have s0 : vals 4 = (.slice (some ⟨bc_, oc, none⟩) n kc) := hn.1
                  have r1 : A.tmps[113]?.getD undef = vals 5 := Rg.slot h.2.1
                  have s1 : vals 5 = (.int .i64 (k : Int)) := hn.2.1
                  clear h hn hT hgk
                  simp [Oper.wp, execOp, go_sem, r0, r1, s0, s1, hki, hk0]
                  exact hK0 _ _ (Rk.Keeps.refl _ _) rfl trivial
                · intro A w' K vals h hn hT hgk hK0
                  have r0 : A.tmps[114]?.getD undef = vals 6 := Rg.slot (h.1)
                  have r1 : vals 6 = (.pointer (some ⟨bc_, oc + k, none⟩)) := hn.1
                  have c : w'.cell? ⟨bc_, oc + k, none⟩ = some (.slice (some ⟨bm, om, none⟩) ml km) := (Rk.grown_of hgk).cell HRX.out (by simp)
                  clear h hn hT hgk
                  simp [Oper.wp, execOp, go_sem, r0, r1, c]
                  exact hK0 _ _ (Rk.Keeps.refl _ _) rfl trivial
                · intro A w' K vals h hn hT hgk hK0
                  have r0 : A.tmps[15]?.getD undef = .int .i64 (mm : Int) := Rg.slot h.1
                  clear h hn hT hgk
                  simp [Oper.wp, execOp, go_sem, r0]
                  exact hK0 _ _ (Rk.Keeps.refl _ _) rfl trivial
                · intro A w' K vals h hn hT hgk hK0
                  have r0 : A.tmps[2]?.getD undef = .pointer (some ⟨qg, 0, none⟩) := Rg.slot h.1
                  clear h hn hT hgk
                  simp [Oper.wp, execOp, go_sem, r0]
                  exact hK0 _ _ (Rk.Keeps.refl _ _) rfl trivial
                · intro A w' K vals h hn hT hgk hK0
                  have r0 : A.tmps[117]?.getD undef = vals 9 := Rg.slot (h.1)
                  have r1 : vals 9 = (.pointer (some ⟨qg, 2, none⟩)) := hn.1
                  have hbx := BRg.out.keep (Rk.grown_of hgk)
                  have c0 : w'.cell? ⟨qg, 2, none⟩ = some (.slice (some ⟨bc_, oc, none⟩) n kc) := hbx.cell 2 _ rfl
                  clear h hn hT hgk hbx
                  simp [Oper.wp, execOp, go_sem, r0, r1, c0]
                  exact hK0 _ _ (Rk.Keeps.refl _ _) rfl trivial
                · intro A w' K vals h hn hT hgk hK0
                  have r0 : A.tmps[13]?.getD undef = .int .i64 (k : Int) := Rg.slot h.1
                  clear h hn hT hgk
                  simp [Oper.wp, execOp, go_sem, r0]
                  exact hK0 _ _ (Rk.Keeps.refl _ _) rfl trivial
                · intro A w' K vals h hn hT hgk hK0
                  have r0 : A.tmps[118]?.getD undef = vals 10 := Rg.slot h.1
                  have s0 : vals 10 = (.slice (some ⟨bc_, oc, none⟩) n kc) := hn.1
                  have r1 : A.tmps[119]?.getD undef = vals 11 := Rg.slot h.2.1
                  have s1 : vals 11 = (.int .i64 (k : Int)) := hn.2.1
                  clear h hn hT hgk
                  simp [Oper.wp, execOp, go_sem, r0, r1, s0, s1, hki, hk0]
                  exact hK0 _ _ (Rk.Keeps.refl _ _) rfl trivial
                · intro A w' K vals h hn hT hgk hK0
                  have r0 : A.tmps[120]?.getD undef = vals 12 := Rg.slot (h.1)
                  have r1 : vals 12 = (.pointer (some ⟨bc_, oc + k, none⟩)) := hn.1
                  have c : w'.cell? ⟨bc_, oc + k, none⟩ = some (.slice (some ⟨bm, om, none⟩) ml km) := (Rk.grown_of hgk).cell HRX.out (by simp)
                  clear h hn hT hgk
                  simp [Oper.wp, execOp, go_sem, r0, r1, c]
                  exact hK0 _ _ (Rk.Keeps.refl _ _) rfl trivial
                · intro A w' K vals h hn hT hgk hK0
                  have r0 : A.tmps[121]?.getD undef = vals 13 := Rg.slot h.1
                  have s0 : vals 13 = (.slice (some ⟨bm, om, none⟩) ml km) := hn.1
                  clear h hn hT hgk
                  simp [Oper.wp, go_sem, r0, s0]
                  exact hK0 _ _ (Rk.Keeps.refl _ _) rfl trivial
                · intro A w' K vals h hn hT hgk hK0
                  have r0 : A.tmps[116]?.getD undef = vals 8 := Rg.slot h.1
                  have s0 : vals 8 = (.int .i64 (mm : Int)) := hn.1
                  have r1 : A.tmps[122]?.getD undef = vals 14 := Rg.slot h.2.1
                  have s1 : vals 14 = (.int .i64 (ml : Int)) := hn.2.1
                  clear h hn hT hgk
                  simp [Oper.wp, execOp, go_sem, r0, r1, s0, s1, htm, hml1]
                  exact hK0 _ _ (Rk.Keeps.refl _ _) rfl trivial
                · intro A w' K vals h hn hT hgk hK0
                  have r0 : A.tmps[115]?.getD undef = vals 7 := Rg.slot h.1
                  have s0 : vals 7 = (.slice (some ⟨bm, om, none⟩) ml km) := hn.1
                  have r1 : A.tmps[123]?.getD undef = vals 15 := Rg.slot h.2.1
                  have s1 : vals 15 = (.int .i64 (ei : Int)) := hn.2.1
                  clear h hn hT hgk
                  simp [Oper.wp, execOp, go_sem, r0, r1, s0, s1, hei, hei0]
                  exact hK0 _ _ (Rk.Keeps.refl _ _) rfl trivial
                · intro A w' K vals h hn hT hgk hK0
                  have r0 : A.tmps[124]?.getD undef = vals 16 := Rg.slot (h.1)
                  have r1 : vals 16 = (.pointer (some ⟨bm, om + ei, none⟩)) := hn.1
                  have c : w'.cell? ⟨bm, om + ei, none⟩ = some (.int .i64 z) := HCE.out w' (Rk.grown_of hgk)
                  clear h hn hT hgk
                  simp [Oper.wp, execOp, go_sem, r0, r1, c]
                  exact hK0 _ _ (Rk.Keeps.refl _ _) rfl trivial
                · intro A w' K vals h hn hT hgk hK0
                  have r0 : A.tmps[125]?.getD undef = vals 17 := Rg.slot h.1
                  have s0 : vals 17 = .int .i64 z := hn.1
                  have hsz := hgk.size
                  clear h hn hT hgk
                  simp [Oper.wp, execOp, go_sem, r0, s0]
                  exact hK0 _ _ (Rk.keep_of (World.grownBy_alloc _ _ _)) ⟨_, rfl, hsz, Box.new _ _ _⟩ trivial
                · intro A w' K vals h hn hT hgk hK0
                  have r0 : A.tmps[109]?.getD undef = vals 1 := Rg.slot h.1
                  have s0 : vals 1 = (.slice (some ⟨koc, 0, none⟩) n kkc) := hn.1
                  have r1 : A.tmps[110]?.getD undef = vals 2 := Rg.slot h.2.1
                  have s1 : vals 2 = (.int .i64 (k : Int)) := hn.2.1
                  clear h hn hT hgk
                  simp [Oper.wp, execOp, go_sem, r0, r1, s0, s1, hki, hk0]
                  exact hK0 _ _ (Rk.Keeps.refl _ _) rfl trivial
              · refine ⟨?_, ?_, ?_, ?_, ?_, ?_, ?_, ?_, ?_, ?_, ?_, ?_, ?_, ?_, ?_, ?_, ?_, ?_, ?_, ?_, trivial⟩
                · exact fun _ _ _ _ _ _ h => h
                · exact fun _ _ _ _ _ _ h => h
                · exact fun _ _ _ _ _ _ h => h
                · exact fun _ _ _ _ _ _ h => h
                · exact fun _ _ _ _ _ _ h => h
                · exact fun _ _ _ _ _ _ h => h
                · exact fun _ _ _ _ _ _ h => h
                · exact fun _ _ _ _ _ _ h => h
                · exact fun _ _ _ _ _ _ h => h
                · exact fun _ _ _ _ _ _ h => h
                · exact fun _ _ _ _ _ _ h => h
                · exact fun _ _ _ _ _ _ h => h
                · exact fun _ _ _ _ _ _ h => h
                · exact fun _ _ _ _ _ _ h => h
                · exact fun _ _ _ _ _ _ h => h
                · exact fun _ _ _ _ _ _ h => h
                · exact fun _ _ _ _ _ _ h => h
                · exact fun _ _ _ _ _ _ h => h
                · exact fun _ _ _ _ _ h ⟨q, h1, h2, hb⟩ => ⟨q, h1, h2, hb.keep (Rk.grown_of h)⟩
                · exact fun _ _ _ _ _ _ h => h
              · exact fun _ _ _ _ _ _ h => h
              · intro vals w8 G hgk hS hG
                have s11 : vals 19 = .pointer (some ⟨koc, k, none⟩) := hS.2.2.2.2.2.2.2.2.2.2.2.2.2.2.2.2.2.2.2.1
                obtain ⟨q, sB, hq, hbx⟩ : ∃ q, vals 18 = .slice (some ⟨q, 0, none⟩) 1 1 ∧ wx.heap.size ≤ q ∧ Box w8 q 3 #[.int .i64 z] := hS.2.2.2.2.2.2.2.2.2.2.2.2.2.2.2.2.2.2.1
                clear hS
                have hg := Rk.grown_of hgk
                have hf8 := HF.out.on hg
                have hl1 := HF.out.h.lt
                have hl2 := HF.out.k.lt
                obtain ⟨⟨u, hcu⟩, hcf⟩ := hf8.k.cell hkn
                have HR8 := Lib.hid (hf8.putK HHK.out (by omega) (by omega) hbx HOW.out HZ.out)
                clear hgk hbx hf8 hl1 hl2 hg
                refine hG ?_
                clear hG
                simp only [List.take, List.drop, List.length, Nat.reduceSub, Nat.reduceAdd, Rg.putAll, Act.put, List.setIfInBounds_toArray, List.set_cons_succ, List.set_cons_zero, s11, sB]
                clear s11 sB
                go_wp2_with fail
                clear hcu hcf
                go_roundw
                case rel => exact ⟨k + 1, by go_num, by omega, HR8.out⟩
                case measure => simp [intOf]; omega
          · have HKA := Lib.hid (show keepAt zs k = 0 by unfold keepAt; rw [HZL.out, if_neg hz0])
            have fz : decide ((0 : Int) < (zl : Int)) = false := decide_eq_false (by omega)
            have fn : decide ((0 : Int) < 0) = false := decide_eq_false (by decide)
            obtain ⟨mm, hmm⟩ : ∃ mm, foldN 0 = mm := ⟨_, rfl⟩
            have HMM := Lib.hid (show foldN (keepAt zs k) = mm by rw [HKA.out]; exact hmm)
            have hm0 : mm = 0 := by rw [← hmm]; rfl
            go_upto_region 24 with (fail)
            clear hmm fn fz fow
            obtain ⟨x, hcx, hix⟩ := HCR.out wx WR.out k hkn
            obtain ⟨ml, hml⟩ : ∃ ml, (g.moves.getD k []).length = ml := ⟨_, rfl⟩
            have hml2 : 0 < ml := by
              rw [← hml]
              exact List.length_pos_iff.2 (HR.out.at k (by rw [HN.out]; exact hkn)).2.2.2.1
            obtain ⟨bm, om, km, rfl, hcm⟩ := hix.open_ hml hml2
            have HRX := Lib.hid hcx
            obtain ⟨ei, hei_⟩ : ∃ ei, mm % ml = ei := ⟨_, rfl⟩
            have heil : ei < ml := by rw [← hei_]; exact Nat.mod_lt _ hml2
            have htm : Int.tmod 0 (ml : Int) = (ei : Int) := by subst hm0; rw [Int.zero_tmod, ← hei_, Nat.zero_mod]; rfl
            have HEI := Lib.hid (show keepE g zs k = ei by unfold keepE; rw [HMM.out, hml]; exact hei_)
            have hml0 : ((ml : Nat) : Int) ≠ 0 := by omega
            have hml1 : ml ≠ 0 := by omega
            have hei : (ei : Int) < (ml : Int) := by omega
            have hei0 : (0 : Int) ≤ (ei : Int) := by omega
            obtain ⟨z, hz⟩ : ∃ z, (g.moves.getD k []).getD ei 0 = z := ⟨_, rfl⟩
            have HZ := Lib.hid (show z = (g.moves.getD k []).getD (keepE g zs k) 0 by rw [HEI.out]; exact hz.symm)
            have HCE := Lib.hid (show ∀ w', wx.grownBy w' none → w'.cell? ⟨bm, om + ei, none⟩ = some (.int .i64 z) from fun w' hg => by rw [← hz]; exact hcm w' (below_of_grown hg) ei heil)
            clear hcx hcm hml hml2 hei_ heil hz
            refine Rt.wp_region_tail 1 (fun idx => match idx with | 0 => (fun v _ _ => v = (.pointer (some ⟨qk, 2, none⟩))) | 1 => (fun v _ _ => v = (.slice (some ⟨koc, 0, none⟩) n kkc)) | 2 => (fun v _ _ => v = (.int .i64 (k : Int))) | 3 => (fun v _ _ => v = (.pointer (some ⟨qg, 2, none⟩))) | 4 => (fun v _ _ => v = (.slice (some ⟨bc_, oc, none⟩) n kc)) | 5 => (fun v _ _ => v = (.int .i64 (k : Int))) | 6 => (fun v _ _ => v = (.pointer (some ⟨bc_, oc + k, none⟩))) | 7 => (fun v _ _ => v = (.slice (some ⟨bm, om, none⟩) ml km)) | 8 => (fun v _ _ => v = (.int .i64 0)) | 9 => (fun v _ _ => v = (.pointer (some ⟨qg, 2, none⟩))) | 10 => (fun v _ _ => v = (.slice (some ⟨bc_, oc, none⟩) n kc)) | 11 => (fun v _ _ => v = (.int .i64 (k : Int))) | 12 => (fun v _ _ => v = (.pointer (some ⟨bc_, oc + k, none⟩))) | 13 => (fun v _ _ => v = (.slice (some ⟨bm, om, none⟩) ml km)) | 14 => (fun v _ _ => v = (.int .i64 (ml : Int))) | 15 => (fun v _ _ => v = (.int .i64 (ei : Int))) | 16 => (fun v _ _ => v = (.pointer (some ⟨bm, om + ei, none⟩))) | 17 => (fun v _ _ => v = (.int .i64 z)) | 18 => (fun v _ w' => ∃ q, v = .slice (some ⟨q, 0, none⟩) 1 1 ∧ wx.heap.size ≤ q ∧ Box w' q 3 #[.int .i64 z]) | 19 => (fun v _ _ => v = (.pointer (some ⟨koc, k, none⟩))) | _ => fun _ _ _ => True) (fun _ _ _ _ => True) (Rk.allK) 99 (by kernel_rfl) (by rfl) (by kernel_rfl) (by rfl) ?_ ?_ ?_ ?_
            · refine ⟨?_, ?_, ?_, ?_, ?_, ?_, ?_, ?_, ?_, ?_, ?_, ?_, ?_, ?_, ?_, ?_, ?_, ?_, ?_, ?_, trivial⟩
              · intro A w' K vals h hn hT hgk hK0
                have r0 : A.tmps[12]?.getD undef = .pointer (some ⟨qk, 0, none⟩) := Rg.slot h.1
                clear h hn hT hgk
                simp [Oper.wp, execOp, go_sem, r0]
                exact hK0 _ _ (Rk.Keeps.refl _ _) rfl trivial
              · intro A w' K vals h hn hT hgk hK0
                have r0 : A.tmps[108]?.getD undef = vals 0 := Rg.slot (h.1)
                have r1 : vals 0 = (.pointer (some ⟨qk, 2, none⟩)) := hn.1
                have hbx := BRk.out.keep (Rk.grown_of hgk)
                have c0 : w'.cell? ⟨qk, 2, none⟩ = some (.slice (some ⟨koc, 0, none⟩) n kkc) := hbx.cell 2 _ rfl
                clear h hn hT hgk hbx
                simp [Oper.wp, execOp, go_sem, r0, r1, c0]
                exact hK0 _ _ (Rk.Keeps.refl _ _) rfl trivial
              · intro A w' K vals h hn hT hgk hK0
                have r0 : A.tmps[13]?.getD undef = .int .i64 (k : Int) := Rg.slot h.1
                clear h hn hT hgk
                simp [Oper.wp, execOp, go_sem, r0]
                exact hK0 _ _ (Rk.Keeps.refl _ _) rfl trivial
              · intro A w' K vals h hn hT hgk hK0
                have r0 : A.tmps[2]?.getD undef = .pointer (some ⟨qg, 0, none⟩) := Rg.slot h.1
                clear h hn hT hgk
                simp [Oper.wp, execOp, go_sem, r0]
                exact hK0 _ _ (Rk.Keeps.refl _ _) rfl trivial
              · intro A w' K vals h hn hT hgk hK0
                have r0 : A.tmps[111]?.getD undef = vals 3 := Rg.slot (h.1)
                have r1 : vals 3 = (.pointer (some ⟨qg, 2, none⟩)) := hn.1
                have hbx := BRg.out.keep (Rk.grown_of hgk)
                have c0 : w'.cell? ⟨qg, 2, none⟩ = some (.slice (some ⟨bc_, oc, none⟩) n kc) := hbx.cell 2 _ rfl
                clear h hn hT hgk hbx
                simp [Oper.wp, execOp, go_sem, r0, r1, c0]
                exact hK0 _ _ (Rk.Keeps.refl _ _) rfl trivial
              · intro A w' K vals h hn hT hgk hK0
                have r0 : A.tmps[13]?.getD undef = .int .i64 (k : Int) := Rg.slot h.1
                clear h hn hT hgk
                simp [Oper.wp, execOp, go_sem, r0]
                exact hK0 _ _ (Rk.Keeps.refl _ _) rfl trivial
              · intro A w' K vals h hn hT hgk hK0
                have r0 : A.tmps[112]?.getD undef = vals 4 := Rg.slot h.1
                have s0 : vals 4 = (.slice (some ⟨bc_, oc, none⟩) n kc) := hn.1
                have r1 : A.tmps[113]?.getD undef = vals 5 := Rg.slot h.2.1
                have s1 : vals 5 = (.int .i64 (k : Int)) := hn.2.1
                clear h hn hT hgk
                simp [Oper.wp, execOp, go_sem, r0, r1, s0, s1, hki, hk0]
                exact hK0 _ _ (Rk.Keeps.refl _ _) rfl trivial
              · intro A w' K vals h hn hT hgk hK0
                have r0 : A.tmps[114]?.getD undef = vals 6 := Rg.slot (h.1)
                have r1 : vals 6 = (.pointer (some ⟨bc_, oc + k, none⟩)) := hn.1
                have c : w'.cell? ⟨bc_, oc + k, none⟩ = some (.slice (some ⟨bm, om, none⟩) ml km) := (Rk.grown_of hgk).cell HRX.out (by simp)
                clear h hn hT hgk
                simp [Oper.wp, execOp, go_sem, r0, r1, c]
                exact hK0 _ _ (Rk.Keeps.refl _ _) rfl trivial
              · intro A w' K vals h hn hT hgk hK0
                have r0 : A.tmps[15]?.getD undef = .int .i64 0 := Rg.slot h.1
                clear h hn hT hgk
                simp [Oper.wp, execOp, go_sem, r0]
                exact hK0 _ _ (Rk.Keeps.refl _ _) rfl trivial
              · intro A w' K vals h hn hT hgk hK0
                have r0 : A.tmps[2]?.getD undef = .pointer (some ⟨qg, 0, none⟩) := Rg.slot h.1
                clear h hn hT hgk
                simp [Oper.wp, execOp, go_sem, r0]
                exact hK0 _ _ (Rk.Keeps.refl _ _) rfl trivial
              · intro A w' K vals h hn hT hgk hK0
                have r0 : A.tmps[117]?.getD undef = vals 9 := Rg.slot (h.1)
                have r1 : vals 9 = (.pointer (some ⟨qg, 2, none⟩)) := hn.1
                have hbx := BRg.out.keep (Rk.grown_of hgk)
                have c0 : w'.cell? ⟨qg, 2, none⟩ = some (.slice (some ⟨bc_, oc, none⟩) n kc) := hbx.cell 2 _ rfl
                clear h hn hT hgk hbx
                simp [Oper.wp, execOp, go_sem, r0, r1, c0]
                exact hK0 _ _ (Rk.Keeps.refl _ _) rfl trivial
              · intro A w' K vals h hn hT hgk hK0
                have r0 : A.tmps[13]?.getD undef = .int .i64 (k : Int) := Rg.slot h.1
                clear h hn hT hgk
                simp [Oper.wp, execOp, go_sem, r0]
                exact hK0 _ _ (Rk.Keeps.refl _ _) rfl trivial
              · intro A w' K vals h hn hT hgk hK0
                have r0 : A.tmps[118]?.getD undef = vals 10 := Rg.slot h.1
                have s0 : vals 10 = (.slice (some ⟨bc_, oc, none⟩) n kc) := hn.1
                have r1 : A.tmps[119]?.getD undef = vals 11 := Rg.slot h.2.1
                have s1 : vals 11 = (.int .i64 (k : Int)) := hn.2.1
                clear h hn hT hgk
                simp [Oper.wp, execOp, go_sem, r0, r1, s0, s1, hki, hk0]
                exact hK0 _ _ (Rk.Keeps.refl _ _) rfl trivial
              · intro A w' K vals h hn hT hgk hK0
                have r0 : A.tmps[120]?.getD undef = vals 12 := Rg.slot (h.1)
                have r1 : vals 12 = (.pointer (some ⟨bc_, oc + k, none⟩)) := hn.1
                have c : w'.cell? ⟨bc_, oc + k, none⟩ = some (.slice (some ⟨bm, om, none⟩) ml km) := (Rk.grown_of hgk).cell HRX.out (by simp)
                clear h hn hT hgk
                simp [Oper.wp, execOp, go_sem, r0, r1, c]
                exact hK0 _ _ (Rk.Keeps.refl _ _) rfl trivial
              · intro A w' K vals h hn hT hgk hK0
                have r0 : A.tmps[121]?.getD undef = vals 13 := Rg.slot h.1
                have s0 : vals 13 = (.slice (some ⟨bm, om, none⟩) ml km) := hn.1
                clear h hn hT hgk
                simp [Oper.wp, go_sem, r0, s0]
                exact hK0 _ _ (Rk.Keeps.refl _ _) rfl trivial
              · intro A w' K vals h hn hT hgk hK0
                have r0 : A.tmps[116]?.getD undef = vals 8 := Rg.slot h.1
                have s0 : vals 8 = (.int .i64 0) := hn.1
                have r1 : A.tmps[122]?.getD undef = vals 14 := Rg.slot h.2.1
                have s1 : vals 14 = (.int .i64 (ml : Int)) := hn.2.1
                clear h hn hT hgk
                simp [Oper.wp, execOp, go_sem, r0, r1, s0, s1, htm, hml1]
                exact hK0 _ _ (Rk.Keeps.refl _ _) rfl trivial
              · intro A w' K vals h hn hT hgk hK0
                have r0 : A.tmps[115]?.getD undef = vals 7 := Rg.slot h.1
                have s0 : vals 7 = (.slice (some ⟨bm, om, none⟩) ml km) := hn.1
                have r1 : A.tmps[123]?.getD undef = vals 15 := Rg.slot h.2.1
                have s1 : vals 15 = (.int .i64 (ei : Int)) := hn.2.1
                clear h hn hT hgk
                simp [Oper.wp, execOp, go_sem, r0, r1, s0, s1, hei, hei0]
                exact hK0 _ _ (Rk.Keeps.refl _ _) rfl trivial
              · intro A w' K vals h hn hT hgk hK0
                have r0 : A.tmps[124]?.getD undef = vals 16 := Rg.slot (h.1)
                have r1 : vals 16 = (.pointer (some ⟨bm, om + ei, none⟩)) := hn.1
                have c : w'.cell? ⟨bm, om + ei, none⟩ = some (.int .i64 z) := HCE.out w' (Rk.grown_of hgk)
                clear h hn hT hgk
                simp [Oper.wp, execOp, go_sem, r0, r1, c]
                exact hK0 _ _ (Rk.Keeps.refl _ _) rfl trivial
              · intro A w' K vals h hn hT hgk hK0
                have r0 : A.tmps[125]?.getD undef = vals 17 := Rg.slot h.1
                have s0 : vals 17 = .int .i64 z := hn.1
                have hsz := hgk.size
                clear h hn hT hgk
                simp [Oper.wp, execOp, go_sem, r0, s0]
                exact hK0 _ _ (Rk.keep_of (World.grownBy_alloc _ _ _)) ⟨_, rfl, hsz, Box.new _ _ _⟩ trivial
              · intro A w' K vals h hn hT hgk hK0
                have r0 : A.tmps[109]?.getD undef = vals 1 := Rg.slot h.1
                have s0 : vals 1 = (.slice (some ⟨koc, 0, none⟩) n kkc) := hn.1
                have r1 : A.tmps[110]?.getD undef = vals 2 := Rg.slot h.2.1
                have s1 : vals 2 = (.int .i64 (k : Int)) := hn.2.1
                clear h hn hT hgk
                simp [Oper.wp, execOp, go_sem, r0, r1, s0, s1, hki, hk0]
                exact hK0 _ _ (Rk.Keeps.refl _ _) rfl trivial
            · refine ⟨?_, ?_, ?_, ?_, ?_, ?_, ?_, ?_, ?_, ?_, ?_, ?_, ?_, ?_, ?_, ?_, ?_, ?_, ?_, ?_, trivial⟩
              · exact fun _ _ _ _ _ _ h => h
              · exact fun _ _ _ _ _ _ h => h
              · exact fun _ _ _ _ _ _ h => h
              · exact fun _ _ _ _ _ _ h => h
              · exact fun _ _ _ _ _ _ h => h
              · exact fun _ _ _ _ _ _ h => h
              · exact fun _ _ _ _ _ _ h => h
              · exact fun _ _ _ _ _ _ h => h
              · exact fun _ _ _ _ _ _ h => h
              · exact fun _ _ _ _ _ _ h => h
              · exact fun _ _ _ _ _ _ h => h
              · exact fun _ _ _ _ _ _ h => h
              · exact fun _ _ _ _ _ _ h => h
              · exact fun _ _ _ _ _ _ h => h
              · exact fun _ _ _ _ _ _ h => h
              · exact fun _ _ _ _ _ _ h => h
              · exact fun _ _ _ _ _ _ h => h
              · exact fun _ _ _ _ _ _ h => h
              · exact fun _ _ _ _ _ h ⟨q, h1, h2, hb⟩ => ⟨q, h1, h2, hb.keep (Rk.grown_of h)⟩
              · exact fun _ _ _ _ _ _ h => h
            · exact fun _ _ _ _ _ _ h => h
            · intro vals w8 G hgk hS hG
              have s11 : vals 19 = .pointer (some ⟨koc, k, none⟩) := hS.2.2.2.2.2.2.2.2.2.2.2.2.2.2.2.2.2.2.2.1
              obtain ⟨q, sB, hq, hbx⟩ : ∃ q, vals 18 = .slice (some ⟨q, 0, none⟩) 1 1 ∧ wx.heap.size ≤ q ∧ Box w8 q 3 #[.int .i64 z] := hS.2.2.2.2.2.2.2.2.2.2.2.2.2.2.2.2.2.2.1
              clear hS
              have hg := Rk.grown_of hgk
              have hf8 := HF.out.on hg
              have hl1 := HF.out.h.lt
              have hl2 := HF.out.k.lt
              obtain ⟨⟨u, hcu⟩, hcf⟩ := hf8.k.cell hkn
              have HR8 := Lib.hid (hf8.putK HHK.out (by omega) (by omega) hbx HOW.out HZ.out)
              clear hgk hbx hf8 hl1 hl2 hg
              refine hG ?_
              clear hG
              simp only [List.take, List.drop, List.length, Nat.reduceSub, Nat.reduceAdd, Rg.putAll, Act.put, List.setIfInBounds_toArray, List.set_cons_succ, List.set_cons_zero, s11, sB]
              clear s11 sB
              go_wp2_with fail
              clear hcu hcf
              go_roundw
              case rel => exact ⟨k + 1, by go_num, by omega, HR8.out⟩
              case measure => simp [intOf]; omega
    · obtain rfl : k = n := by omega
      have fk : decide ((k : Int) < (k : Int)) = false := decide_eq_false (by omega)
      clear hlt hkn
      have Gh := Lib.hid (show GameV wr (.agg #[.slice (some ⟨hoa, 0, none⟩) k hka, .slice (some ⟨hob, 0, none⟩) k hkb, .slice (some ⟨hoc, 0, none⟩) k hkc]) (⟨g.owner, g.prio, (List.range k).map (P.hRow g Xa cha)⟩ : P.G) from ⟨_, _, _, rfl, (OwnI.ints (kx_own Oh.out.owner HF.out.keep (fun b e => ⟨(own_lt Oh.out.owner b e).2, off2 (own_sep Oh.out.owner Oh.out.head e) (own_sep Oh.out.owner Ok.out.head e)⟩)) (by rw [HN.out]; omega)), (OwnI.ints (kx_own Oh.out.prio HF.out.keep (fun b e => ⟨(own_lt Oh.out.prio b e).2, off2 (own_sep Oh.out.prio Oh.out.head e) (own_sep Oh.out.prio Ok.out.head e)⟩)) (by rw [HPN.out]; omega)), by
        have hgr := HF.out.h.grid (by omega)
        rw [(parts_end g Xa cha (keepE g zs)).1] at hgr
        exact hgr⟩)
      have Gk := Lib.hid (show GameV wr (.agg #[.slice (some ⟨koa, 0, none⟩) k kka, .slice (some ⟨kob, 0, none⟩) k kkb, .slice (some ⟨koc, 0, none⟩) k kkc]) (⟨g.owner, g.prio, (List.range k).map (P.kRow g Xa (keepE g zs))⟩ : P.G) from ⟨_, _, _, rfl, (OwnI.ints (kx_own Ok.out.owner HF.out.keep (fun b e => ⟨(own_lt Ok.out.owner b e).2, off2 (own_sep Ok.out.owner Oh.out.head e) (own_sep Ok.out.owner Ok.out.head e)⟩)) (by rw [HN.out]; omega)), (OwnI.ints (kx_own Ok.out.prio HF.out.keep (fun b e => ⟨(own_lt Ok.out.prio b e).2, off2 (own_sep Ok.out.prio Oh.out.head e) (own_sep Ok.out.prio Ok.out.head e)⟩)) (by rw [HPN.out]; omega)), by
        have hgr := HF.out.k.grid (by omega)
        rw [(parts_end g Xa cha (keepE g zs)).2] at hgr
        exact hgr⟩)
      have HFH := Lib.hid (few_h HR.out HN.out Da.out.ap)
      have HFK := Lib.hid (few_k HR.out HN.out Da.out.ap zs)
      have HWB := Lib.hid (Wc.out.trans (kx_below HF.out.keep HX2.out Wc.out.size (Nat.le_refl _)))
      have Ia0 := Lib.hid (HIA0.out.on HWB.out)
      have Ia1 := Lib.hid (HIA1.out.on HWB.out)
      have W2 := WR
      clear W WR
      have W := W2
      clear W2
      have hbb := BRh.out
      have hc0 : wr.cell? ⟨qh, 0, none⟩ = some (.slice (some ⟨hoa, 0, none⟩) k hka) := hbb.cell 0 _ rfl
      have hc1 : wr.cell? ⟨qh, 1, none⟩ = some (.slice (some ⟨hob, 0, none⟩) k hkb) := hbb.cell 1 _ rfl
      have hc2 : wr.cell? ⟨qh, 2, none⟩ = some (.slice (some ⟨hoc, 0, none⟩) k hkc) := hbb.cell 2 _ rfl
      clear hbb
      go_wp2_with fail
      clear hc0 hc1 hc2 gc0 gc1 gc2
      refine (decomp_any (⟨g.owner, g.prio, (List.range k).map (P.hRow g Xa cha)⟩ : P.G) HFH.out.1 k HN.out _ wr Gh.out (T.out.on W.out)).mono ?_
      rintro e w7 ⟨Xb, Yb, chb, depb, rb0, rb1, bb0, bb1, rfl, hd, hb⟩
      obtain ⟨xb0, kb0, rfl, -⟩ := own_at hd.zero.1
      obtain ⟨xb1, kb1, rfl, -⟩ := own_at hd.one.1
      have Db := Lib.hid hd
      have Ib0 := Lib.hid hd.zero.ints
      have Ib1 := Lib.hid hd.one.ints
      replace BRa := Lib.hid (BRa.out.keep (grown_of_below hb none))
      replace BRk := Lib.hid (BRk.out.keep (grown_of_below hb none))
      replace Gk := Lib.hid (Gk.out.on hb)
      replace Ia0 := Lib.hid (Ia0.out.on hb)
      replace Ia1 := Lib.hid (Ia1.out.on hb)
      replace W := Lib.hid (W.out.trans (hb.mono W.out.size))
      clear hb hd
      go_upto_region 26 with (fail)
      have bq : Box (w7.alloc (.cells #[.slice xb0 (P.lst Xb).length kb0, .slice xb1 (P.lst Yb).length kb1, .slice (some ⟨bb0, 0, none⟩) k k, .slice (some ⟨bb1, 0, none⟩) k k] 32)) w7.heap.size 32 #[.slice xb0 (P.lst Xb).length kb0, .slice xb1 (P.lst Yb).length kb1, .slice (some ⟨bb0, 0, none⟩) k k, .slice (some ⟨bb1, 0, none⟩) k k] := Box.new _ _ _
      have hgq := World.grownBy_alloc w7 (.cells #[.slice xb0 (P.lst Xb).length kb0, .slice xb1 (P.lst Yb).length kb1, .slice (some ⟨bb0, 0, none⟩) k k, .slice (some ⟨bb1, 0, none⟩) k k] 32) none
      replace BRa := Lib.hid (BRa.out.keep hgq)
      replace BRk := Lib.hid (BRk.out.keep hgq)
      replace Gk := Lib.hid (Gk.out.on (below_of_grown hgq))
      replace Ia0 := Lib.hid (Ia0.out.on (below_of_grown hgq))
      replace Ia1 := Lib.hid (Ia1.out.on (below_of_grown hgq))
      replace W := Lib.hid (W.out.trans ((below_of_grown hgq).mono W.out.size))
      replace Ib0 := Lib.hid (Ib0.out.on (below_of_grown hgq))
      replace Ib1 := Lib.hid (Ib1.out.on (below_of_grown hgq))
      generalize (w7.alloc (.cells #[.slice xb0 (P.lst Xb).length kb0, .slice xb1 (P.lst Yb).length kb1, .slice (some ⟨bb0, 0, none⟩) k k, .slice (some ⟨bb1, 0, none⟩) k k] 32)) = wf at bq BRa BRk Gk Ia0 Ia1 W Ib0 Ib1 ⊢
      generalize w7.heap.size = qb at bq ⊢
      have BQb := Lib.hid bq
      clear bq hgq
      have hbb := BRk.out
      have hc0 : wf.cell? ⟨qk, 0, none⟩ = some (.slice (some ⟨koa, 0, none⟩) k kka) := hbb.cell 0 _ rfl
      have hc1 : wf.cell? ⟨qk, 1, none⟩ = some (.slice (some ⟨kob, 0, none⟩) k kkb) := hbb.cell 1 _ rfl
      have hc2 : wf.cell? ⟨qk, 2, none⟩ = some (.slice (some ⟨koc, 0, none⟩) k kkc) := hbb.cell 2 _ rfl
      clear hbb
      go_wp2_with fail
      clear hc0 hc1 hc2
      refine (decomp_any (⟨g.owner, g.prio, (List.range k).map (P.kRow g Xa (keepE g zs))⟩ : P.G) HFK.out.1 k HN.out _ wf Gk.out (T.out.on W.out)).mono ?_
      rintro e w8 ⟨Xd, Yd, chd, depd, rd0, rd1, bd0, bd1, rfl, hd, hb⟩
      obtain ⟨xd0, kd0, rfl, -⟩ := own_at hd.zero.1
      obtain ⟨xd1, kd1, rfl, -⟩ := own_at hd.one.1
      have Dd := Lib.hid hd
      have Id0 := Lib.hid hd.zero.ints
      have Id1 := Lib.hid hd.one.ints
      replace BRa := Lib.hid (BRa.out.keep (grown_of_below hb none))
      replace BQb := Lib.hid (BQb.out.keep (grown_of_below hb none))
      replace Ia0 := Lib.hid (Ia0.out.on hb)
      replace Ia1 := Lib.hid (Ia1.out.on hb)
      replace Ib0 := Lib.hid (Ib0.out.on hb)
      replace Ib1 := Lib.hid (Ib1.out.on hb)
      replace W := Lib.hid (W.out.trans (hb.mono W.out.size))
      clear hb hd
      go_upto_region 27 with (fail)
      have bq : Box (w8.alloc (.cells #[.slice xd0 (P.lst Xd).length kd0, .slice xd1 (P.lst Yd).length kd1, .slice (some ⟨bd0, 0, none⟩) k k, .slice (some ⟨bd1, 0, none⟩) k k] 32)) w8.heap.size 32 #[.slice xd0 (P.lst Xd).length kd0, .slice xd1 (P.lst Yd).length kd1, .slice (some ⟨bd0, 0, none⟩) k k, .slice (some ⟨bd1, 0, none⟩) k k] := Box.new _ _ _
      have hgq := World.grownBy_alloc w8 (.cells #[.slice xd0 (P.lst Xd).length kd0, .slice xd1 (P.lst Yd).length kd1, .slice (some ⟨bd0, 0, none⟩) k k, .slice (some ⟨bd1, 0, none⟩) k k] 32) none
      replace BRa := Lib.hid (BRa.out.keep hgq)
      replace BQb := Lib.hid (BQb.out.keep hgq)
      replace Ia0 := Lib.hid (Ia0.out.on (below_of_grown hgq))
      replace Ia1 := Lib.hid (Ia1.out.on (below_of_grown hgq))
      replace Ib0 := Lib.hid (Ib0.out.on (below_of_grown hgq))
      replace Ib1 := Lib.hid (Ib1.out.on (below_of_grown hgq))
      replace W := Lib.hid (W.out.trans ((below_of_grown hgq).mono W.out.size))
      replace Id0 := Lib.hid (Id0.out.on (below_of_grown hgq))
      replace Id1 := Lib.hid (Id1.out.on (below_of_grown hgq))
      generalize (w8.alloc (.cells #[.slice xd0 (P.lst Xd).length kd0, .slice xd1 (P.lst Yd).length kd1, .slice (some ⟨bd0, 0, none⟩) k k, .slice (some ⟨bd1, 0, none⟩) k k] 32)) = wh at bq BRa BQb Ia0 Ia1 Ib0 Ib1 W Id0 Id1 ⊢
      generalize w8.heap.size = qd at bq ⊢
      have BQd := Lib.hid bq
      clear bq hgq
      have HEB := Lib.hid (HFH.out.2 _ _ _ _ Db.out.ap)
      have HED := Lib.hid (HFK.out.2 _ _ _ _ Dd.out.ap)
      have hbb := BRa.out
      have pc0 : wh.cell? ⟨qa, 0, none⟩ = some (.slice xa0 (P.lst Xa).length ka0) := hbb.cell 0 _ rfl
      have pc1 : wh.cell? ⟨qa, 1, none⟩ = some (.slice xa1 (P.lst Ya).length ka1) := hbb.cell 1 _ rfl
      have pc2 : wh.cell? ⟨qa, 2, none⟩ = some (.slice (some ⟨ba0, 0, none⟩) k k) := hbb.cell 2 _ rfl
      have pc3 : wh.cell? ⟨qa, 3, none⟩ = some (.slice (some ⟨ba1, 0, none⟩) k k) := hbb.cell 3 _ rfl
      clear hbb
      have hbb := BQb.out
      have rc0 : wh.cell? ⟨qb, 0, none⟩ = some (.slice xb0 (P.lst Xb).length kb0) := hbb.cell 0 _ rfl
      have rc1 : wh.cell? ⟨qb, 1, none⟩ = some (.slice xb1 (P.lst Yb).length kb1) := hbb.cell 1 _ rfl
      have rc2 : wh.cell? ⟨qb, 2, none⟩ = some (.slice (some ⟨bb0, 0, none⟩) k k) := hbb.cell 2 _ rfl
      have rc3 : wh.cell? ⟨qb, 3, none⟩ = some (.slice (some ⟨bb1, 0, none⟩) k k) := hbb.cell 3 _ rfl
      clear hbb
      go_wp2_with fail
      refine (alike_any _ _ _ _ _ _ _ _ wh Ib0.out Ib1.out Ia0.out Ia1.out).mono ?_
      rintro e w9 ⟨rfl, hb⟩
      rw [show (decide (lstI Xb = lstI Xa) && decide (lstI Yb = lstI Ya)) = true by rw [HEB.out.1, HEB.out.2]; simp]
      replace BRa := Lib.hid (BRa.out.keep (grown_of_below hb none))
      replace BQd := Lib.hid (BQd.out.keep (grown_of_below hb none))
      replace Ia0 := Lib.hid (Ia0.out.on hb)
      replace Ia1 := Lib.hid (Ia1.out.on hb)
      replace Id0 := Lib.hid (Id0.out.on hb)
      replace Id1 := Lib.hid (Id1.out.on hb)
      replace W := Lib.hid (W.out.trans (hb.mono W.out.size))
      clear hb pc0 pc1 pc2 pc3 rc0 rc1 rc2 rc3
      have hbb := BRa.out
      have pc0 : w9.cell? ⟨qa, 0, none⟩ = some (.slice xa0 (P.lst Xa).length ka0) := hbb.cell 0 _ rfl
      have pc1 : w9.cell? ⟨qa, 1, none⟩ = some (.slice xa1 (P.lst Ya).length ka1) := hbb.cell 1 _ rfl
      have pc2 : w9.cell? ⟨qa, 2, none⟩ = some (.slice (some ⟨ba0, 0, none⟩) k k) := hbb.cell 2 _ rfl
      have pc3 : w9.cell? ⟨qa, 3, none⟩ = some (.slice (some ⟨ba1, 0, none⟩) k k) := hbb.cell 3 _ rfl
      clear hbb
      have hbb := BQd.out
      have rc0 : w9.cell? ⟨qd, 0, none⟩ = some (.slice xd0 (P.lst Xd).length kd0) := hbb.cell 0 _ rfl
      have rc1 : w9.cell? ⟨qd, 1, none⟩ = some (.slice xd1 (P.lst Yd).length kd1) := hbb.cell 1 _ rfl
      have rc2 : w9.cell? ⟨qd, 2, none⟩ = some (.slice (some ⟨bd0, 0, none⟩) k k) := hbb.cell 2 _ rfl
      have rc3 : w9.cell? ⟨qd, 3, none⟩ = some (.slice (some ⟨bd1, 0, none⟩) k k) := hbb.cell 3 _ rfl
      clear hbb
      go_wp2_with fail
      refine (alike_any _ _ _ _ _ _ _ _ w9 Id0.out Id1.out Ia0.out Ia1.out).mono ?_
      rintro e wz ⟨rfl, hb⟩
      rw [show (decide (lstI Xd = lstI Xa) && decide (lstI Yd = lstI Ya)) = true by rw [HED.out.1, HED.out.2]; simp]
      replace W := Lib.hid (W.out.trans (hb.mono W.out.size))
      clear hb
      go_wp2_with fail
      exact bodyPost_ret (v := .bool true) (by simp [results, Tryd.results7, go_sem]) rfl ⟨rfl, W.out⟩
theorem few_law (g : P.G) (v kv : Value) (zs : List Int) (w : World) (hv : GameV w v g) (hk : Ints w kv zs) (hzb : ∀ z ∈ zs, -9223372036854775808 ≤ z ∧ z ≤ 9223372036854775807) (hT : Tab w) : Calls Tryd.prog 7 #[v, kv] w fun e w' => e = .returned (.bool true) ∧ Below w.heap.size w w' := by
  cases hok : g.ok
  · exact few_wrong_ g hok v kv zs w hv hk hT
  · exact few_right_ g ((P.G.ok_iff g).1 hok) v kv zs w hv hk hzb hT
end W
end Go.Proofs.YtpjmboonaciplaaDoor
