/- DecompRegions: the walk. -/
import Derived.Test.YtpjmboonaciplaaDoorAlike13
import Derived.Test.YtpjmboonaciplaaDoorShown13
import Derived.Test.YtpjmboonaciplaaDoorWonA
import Derived.Test.YtpjmboonaciplaaDoorK13
import Derived.Test.YtpjmboonaciplaaDoorDecA
import Derived.Test.YtpjmboonaciplaaDoorRCopy
import Derived.Test.YtpjmboonaciplaaDoorSam
import Derived.Deep.Cut
import Derived.Lib.Hide
import Derived.Deep.QuietTactic
import Derived.BigQuiet
import Derived.StillTailTactics
namespace Go.Proofs.YtpjmboonaciplaaDoor
open Go.RowKit
namespace W

theorem ROWS.ints {w : World} {lo n : Nat} {g : P.G} {p : Int} {S : BitVec 256} {c : List Int} {r : Value} {b : Nat} (h : ROWS w lo n g p S c r b) : Ints w r (lstI S) := by
  have hl : (lstI S).length = (P.lst S).length := by unfold lstI; rw [List.length_map]
  refine OwnI.ints (lo := lo) ?_ ?_
  · unfold OwnI
    rw [hl]
    exact h.1
  · rw [hl]
    unfold P.lst
    exact Nat.le_trans (List.length_filter_le _ _) (by simp)
theorem lstI_len (S : BitVec 256) : (lstI S).length = (P.lst S).length := by unfold lstI; rw [List.length_map]
theorem lst_short (S : BitVec 256) : (P.lst S).length ≤ 256 := by unfold P.lst; exact Nat.le_trans (List.length_filter_le _ _) (by simp)

theorem ROWS.mints {w : World} {lo n : Nat} {g : P.G} {p : Int} {S : BitVec 256} {c : List Int} {r : Value} {b : Nat} (h : ROWS w lo n g p S c r b) (hn : n ≤ 200 := by assumption) : Ints w (.slice (some ⟨b, 0, none⟩) n n) (P.rowOf n (mvF g p S c)) := by
  refine OwnI.ints (lo := lo) ?_ (by rw [P.rowOf_len]; omega)
  unfold OwnI
  rw [P.rowOf_len]
  exact h.2.1
theorem ROWS.grown {w w' : World} {lo n : Nat} {g : P.G} {p : Int} {S : BitVec 256} {c : List Int} {r : Value} {b : Nat} (h : ROWS w lo n g p S c r b) (hg : w.grownBy w' none) : ROWS w' lo n g p S c r b := ⟨own_grown h.1 hg, own_grown h.2.1 hg, h.2.2⟩
theorem ROWS.far {w : World} {lo n : Nat} {g : P.G} {p : Int} {S : BitVec 256} {c : List Int} {r : Value} {b q : Nat} (h : ROWS w lo n g p S c r b) (h1 : b ≠ q) (h2 : r.ownBlock ≠ some q) (j : Nat) (u : Value) : ROWS (w.setCell ⟨q, j, none⟩ u) lo n g p S c r b :=
  ⟨own_kept h.1 (grown_set w ⟨q, j, none⟩ u) (.inr h2), own_kept h.2.1 (grown_set w ⟨q, j, none⟩ u) (.inr fun e => by injection e with e; exact h1 e), h.2.2⟩
theorem row_99 {w : World} {lo b n k : Nat} {f : Nat → Int} (h : w.ownsRow lo 3 1 (.slice (some ⟨b, 0, none⟩) n n) n ((P.rowOf n (fun y => if y < k then 99 else f y)).map (Value.int .i64))) : (w.setCell ⟨b, k, none⟩ (.int .i64 99)).ownsRow lo 3 1 (.slice (some ⟨b, 0, none⟩) n n) n ((P.rowOf n (fun y => if y < k + 1 then 99 else f y)).map (Value.int .i64)) := by
  have h := (h.stored k (.int .i64 99)).1
  have e : P.rowOf n (fun y => if y < k + 1 then 99 else f y) = (P.rowOf n (fun y => if y < k then 99 else f y)).set k 99 := by
    rw [P.rowOf_set]
    refine P.rowOf_congr fun y _ => ?_
    by_cases e : y = k
    · rw [if_pos (by omega), if_pos e]
    · rw [if_neg e]
      by_cases e2 : y < k
      · rw [if_pos (by omega), if_pos e2]
      · rw [if_neg (by omega), if_neg e2]
  rw [e, List.map_set]
  exact h
theorem lstB_count1 {x : Nat → Bool} {k : Nat} : ∀ {n : Nat}, k < n → (lstB x n).count (k : Int) = if x k = true then 1 else 0
  | 0, h => absurd h (Nat.not_lt_zero k)
  | n + 1, h => by
    have hout : (lstB x n).count (n : Int) = 0 := List.count_eq_zero.2 fun hm => by
      unfold lstB at hm
      obtain ⟨i, h1, h2⟩ := List.mem_map.1 hm
      have := List.mem_range.1 (List.mem_filter.1 h1).1
      omega
    rw [lstB_succ, List.count_append]
    by_cases e : k = n
    · subst e
      rw [hout]
      cases x k <;> simp
    · rw [lstB_count1 (by omega)]
      have h0 : (if x n = true then [(n : Int)] else []).count (k : Int) = 0 := List.count_eq_zero.2 fun hm => by
        split at hm
        · have := List.mem_singleton.1 hm
          omega
        · cases hm
      rw [h0, Nat.add_zero]
theorem regions_is {g : P.G} (hr : g.Right) {n : Nat} (hn : g.owner.length = n) {X Y : BitVec 256} {c c1 : List Int} {x y : Nat → Bool} (h : P.Ap g 0 (P.full (n : Int)) X Y c c1) (hs : P.SolB g (fun _ => true) x y) : (∀ i, P.Bit X i ↔ i < n ∧ x i = true) ∧ ∀ i, P.Bit Y i ↔ i < n ∧ y i = true := by
  have h1 := h.solved fun i => (P.full_bits hr hn).1 i
  subst hn
  have h2 : P.Solved g (· < g.owner.length) (P.inF g x) (P.inF g y) := hs.iff (fun i => ⟨fun h => h.1, fun h => ⟨h, rfl⟩⟩) (fun _ => Iff.rfl) fun _ => Iff.rfl
  have hu := fun i => h1.unique g.owner.length (fun i hi => hi) (fun i hi => (hr.at i hi).1) h2 i
  exact ⟨fun i => (hu i).1, fun i => (hu i).2⟩
theorem lstI_lstB {S : BitVec 256} {x : Nat → Bool} {n : Nat} (h : ∀ i, P.Bit S i ↔ i < n ∧ x i = true) (hn : n ≤ 200) : lstI S = lstB x n := by
  unfold lstI lstB P.lst
  congr 1
  have hr : List.range 256 = List.range n ++ (List.range (256 - n)).map (n + ·) := by
    rw [← List.range_add]
    congr 1
    omega
  have hz : ((List.range (256 - n)).map (n + ·)).filter (fun j => S.getLsbD j) = [] := List.filter_eq_nil_iff.2 fun i hi hb => by
    obtain ⟨j, -, rfl⟩ := List.mem_map.1 hi
    have := ((h (n + j)).1 hb).1
    omega
  rw [hr, List.filter_append, hz, List.append_nil]
  apply List.filter_congr
  intro i hi
  have hin := List.mem_range.1 hi
  rw [Bool.eq_iff_iff]
  exact (h i).trans ⟨fun h => h.2, fun h => ⟨hin, h⟩⟩
theorem mem_lstI {S : BitVec 256} {i : Nat} : (i : Int) ∈ lstI S ↔ P.Bit S i := by
  unfold lstI
  rw [List.mem_map]
  constructor
  · rintro ⟨j, h1, h2⟩
    obtain rfl : j = i := by omega
    exact (P.mem_lst S j).1 h1
  · exact fun h => ⟨i, (P.mem_lst S i).2 h, rfl⟩
theorem dec_wins {g : P.G} (hr : g.Right) {n : Nat} (hn : g.owner.length = n) {X Y : BitVec 256} {c c1 : List Int} (h : P.Ap g 0 (P.full (n : Int)) X Y c c1) :
    ((∀ z ∈ lstI X, 0 ≤ z ∧ z < (n : Int)) ∧ P.WinsIn g (· < n) 0 (fun i => (P.rowOf n (mvF g 0 X c1)).getD i 0) (fun i => (i : Int) ∈ lstI X)) ∧ (∀ z ∈ lstI Y, 0 ≤ z ∧ z < (n : Int)) ∧ P.WinsIn g (· < n) 1 (fun i => (P.rowOf n (mvF g 1 Y c1)).getD i 0) (fun i => (i : Int) ∈ lstI Y) := by
  have hb := (P.full_bits hr hn).1
  have e : (1 : Int) - 0 = 1 := by decide
  have h2 := h.his
  rw [e] at h2
  have key : ∀ (p : Int) (S : BitVec 256), P.WinsIn g (P.Bit (P.full (n : Int))) p (fun i => c1.getD i (-1)) (P.Bit S) → (∀ z ∈ lstI S, 0 ≤ z ∧ z < (n : Int)) ∧ P.WinsIn g (· < n) p (fun i => (P.rowOf n (mvF g p S c1)).getD i 0) (fun i => (i : Int) ∈ lstI S) := fun p S hw => by
    refine ⟨fun z hz => ?_, (hw.congr fun i hi ho => ?_).iff hb fun i => mem_lstI.symm⟩
    · unfold lstI at hz
      obtain ⟨j, h1, rfl⟩ := List.mem_map.1 hz
      have := (hb j).1 (hw.sub j ((P.mem_lst S j).1 h1))
      omega
    · show (P.rowOf n (mvF g p S c1)).getD i 0 = c1.getD i (-1)
      rw [List.getD_eq_getElem?_getD, P.rowOf_at _ ((hb i).1 (hw.sub i hi))]
      show mvF g p S c1 i = _
      unfold mvF
      rw [if_pos ⟨hi, ho⟩]
  exact ⟨key 0 X h.mine, key 1 Y h2⟩

set_option maxRecDepth 100000 in
set_option maxHeartbeats 8000000 in
theorem regions_right (g : P.G) (hr : g.Right) (v : Value) (w : World) (hv : GameV w v g) (hT : Tab w) : Calls Tryd.prog 3 #[v] w fun e w' => e = .returned (.bool true) ∧ Below w.heap.size w w' := by
  have HFI := Lib.hid hv.fits
  have HV := Lib.hid hv
  have T := Lib.hid hT
  have HR := Lib.hid hr
  have HOK := Lib.hid ((P.G.ok_iff g).2 hr)
  have hop := hr.prio
  have hmp := hr.moves
  have hmany := hr.many
  have h0 := hr.pos
  obtain ⟨n, hn⟩ : ∃ n, g.owner.length = n := ⟨_, rfl⟩
  rw [hn] at hop hmp hmany h0
  obtain ⟨ba, oa, ka, bb, ob, kb, bc_, oc, kc, rfl, hca, -, -⟩ := hv.open_ hn hop hmp h0
  have HCA := Lib.hid hca
  have HN := Lib.hid hn
  have HPN := Lib.hid hop
  have HMN := Lib.hid hmp
  clear hr hn hop hmp hca hv hT
  go_enter Tryd.func3, Tryd.ntmps3
  go_wp2_with fail
  have bx0 : Box (w.alloc (.cells #[.slice (some ⟨ba, oa, none⟩) n ka, .slice (some ⟨bb, ob, none⟩) n kb, .slice (some ⟨bc_, oc, none⟩) n kc] 25)) (w.heap.size) 25 #[.slice (some ⟨ba, oa, none⟩) n ka, .slice (some ⟨bb, ob, none⟩) n kb, .slice (some ⟨bc_, oc, none⟩) n kc] := Box.new w 25 #[.slice (some ⟨ba, oa, none⟩) n ka, .slice (some ⟨bb, ob, none⟩) n kb, .slice (some ⟨bc_, oc, none⟩) n kc]
  have hbq : Below w.heap.size w (w.alloc (.cells #[.slice (some ⟨ba, oa, none⟩) n ka, .slice (some ⟨bb, ob, none⟩) n kb, .slice (some ⟨bc_, oc, none⟩) n kc] 25)) := (Below.refl _ w).alloc (Nat.le_refl _) _
  have hle0 : w.heap.size ≤ w.heap.size := Nat.le_refl _
  generalize (w.alloc (.cells #[.slice (some ⟨ba, oa, none⟩) n ka, .slice (some ⟨bb, ob, none⟩) n kb, .slice (some ⟨bc_, oc, none⟩) n kc] 25)) = w0 at bx0 hbq  ⊢
  have BQg := Lib.hid bx0
  have W := Lib.hid hbq
  have LEg := Lib.hid hle0
  clear hbq hle0 bx0 
  obtain ⟨qg, hqg⟩ : ∃ qg, w.heap.size = qg := ⟨_, rfl⟩
  rw [hqg] at BQg ⊢
  have LEg : Hid (w.heap.size ≤ qg) := Lib.hid (by omega)
  clear hqg
  refine (shown_any w0 (T.out.on W.out)).mono ?_
  rintro e w1 ⟨rfl, hb⟩
  replace BQg := Lib.hid (BQg.out.keep (grown_of_below hb none))
  replace W := Lib.hid (W.out.trans (hb.mono W.out.size))
  clear hb
  have hbb := BQg.out
  have gc0 : w1.cell? ⟨qg, 0, none⟩ = some (.slice (some ⟨ba, oa, none⟩) n ka) := hbb.cell 0 _ rfl
  have gc1 : w1.cell? ⟨qg, 1, none⟩ = some (.slice (some ⟨bb, ob, none⟩) n kb) := hbb.cell 1 _ rfl
  have gc2 : w1.cell? ⟨qg, 2, none⟩ = some (.slice (some ⟨bc_, oc, none⟩) n kc) := hbb.cell 2 _ rfl
  clear hbb
  go_wp2_with fail
  clear gc0 gc1 gc2
  refine (is_any g _ _ (HV.out.on W.out)).mono ?_
  rintro e w2 ⟨rfl, hb⟩
  rw [HOK.out]
  replace BQg := Lib.hid (BQg.out.keep (grown_of_below hb none))
  replace W := Lib.hid (W.out.trans (hb.mono W.out.size))
  clear hb
  have hbb := BQg.out
  have gc0 : w2.cell? ⟨qg, 0, none⟩ = some (.slice (some ⟨ba, oa, none⟩) n ka) := hbb.cell 0 _ rfl
  have gc1 : w2.cell? ⟨qg, 1, none⟩ = some (.slice (some ⟨bb, ob, none⟩) n kb) := hbb.cell 1 _ rfl
  have gc2 : w2.cell? ⟨qg, 2, none⟩ = some (.slice (some ⟨bc_, oc, none⟩) n kc) := hbb.cell 2 _ rfl
  clear hbb
  go_wp2_with fail
  clear gc0 gc1 gc2
  refine (rcopy_any g _ _ (HV.out.on W.out)).mono ?_
  rintro e w3 ⟨oav, obv, ocv, oL, rfl, ho, hb⟩
  have hgo := ho.game HFI.out
  obtain ⟨pa, pka, pb, pkb, pc, pkc, rfl, rfl, rfl⟩ := ho.forms
  rw [HN.out, HPN.out, HMN.out] at hgo ⊢
  replace BQg := Lib.hid (BQg.out.keep (grown_of_below hb none))
  replace W := Lib.hid (W.out.trans (hb.mono W.out.size))
  have GO := Lib.hid hgo
  clear hb ho hgo
  go_upto_region 4 with (fail)
  have bq : Box (w3.alloc (.cells #[.slice pa n pka, .slice pb n pkb, .slice pc n pkc] 25)) w3.heap.size 25 #[.slice pa n pka, .slice pb n pkb, .slice pc n pkc] := Box.new _ _ _
  have hgq := World.grownBy_alloc w3 (.cells #[.slice pa n pka, .slice pb n pkb, .slice pc n pkc] 25) none
  replace BQg := Lib.hid (BQg.out.keep hgq)
  replace W := Lib.hid (W.out.trans ((below_of_grown hgq).mono W.out.size))
  replace GO := Lib.hid (GO.out.on (below_of_grown hgq))
  generalize (w3.alloc (.cells #[.slice pa n pka, .slice pb n pkb, .slice pc n pkc] 25)) = w4 at bq BQg W GO ⊢
  generalize w3.heap.size = qo at bq ⊢
  have BQo := Lib.hid bq
  clear bq hgq
  have hbb := BQg.out
  have gc0 : w4.cell? ⟨qg, 0, none⟩ = some (.slice (some ⟨ba, oa, none⟩) n ka) := hbb.cell 0 _ rfl
  have gc1 : w4.cell? ⟨qg, 1, none⟩ = some (.slice (some ⟨bb, ob, none⟩) n kb) := hbb.cell 1 _ rfl
  have gc2 : w4.cell? ⟨qg, 2, none⟩ = some (.slice (some ⟨bc_, oc, none⟩) n kc) := hbb.cell 2 _ rfl
  clear hbb
  go_wp2_with fail
  clear gc0 gc1 gc2
  refine (solve13_any g HR.out n HN.out _ w4 (HV.out.on W.out)).mono ?_
  rintro e w5 ⟨v1, v2, x, y, rfl, ho1, ho2, hso, hb⟩
  obtain ⟨u0, j0, rfl, -⟩ := own_at ho1
  obtain ⟨u1, j1, rfl, -⟩ := own_at ho2
  have HSOL := Lib.hid hso
  have I0 := Lib.hid (ho1.ints (Nat.le_trans (lstB_len x n) (by omega)))
  have I1 := Lib.hid (ho2.ints (Nat.le_trans (lstB_len y n) (by omega)))
  replace BQg := Lib.hid (BQg.out.keep (grown_of_below hb none))
  replace BQo := Lib.hid (BQo.out.keep (grown_of_below hb none))
  replace GO := Lib.hid (GO.out.on hb)
  replace W := Lib.hid (W.out.trans (hb.mono W.out.size))
  clear hb ho1 ho2 hso
  go_upto_region 5 with (fail)
  have bq : Box (w5.alloc (.cells #[.slice u0 (lstB x n).length j0, .slice u1 (lstB y n).length j1] 29)) w5.heap.size 29 #[.slice u0 (lstB x n).length j0, .slice u1 (lstB y n).length j1] := Box.new _ _ _
  have hgq := World.grownBy_alloc w5 (.cells #[.slice u0 (lstB x n).length j0, .slice u1 (lstB y n).length j1] 29) none
  replace BQg := Lib.hid (BQg.out.keep hgq)
  replace BQo := Lib.hid (BQo.out.keep hgq)
  replace GO := Lib.hid (GO.out.on (below_of_grown hgq))
  replace I0 := Lib.hid (I0.out.on (below_of_grown hgq))
  replace I1 := Lib.hid (I1.out.on (below_of_grown hgq))
  replace W := Lib.hid (W.out.trans ((below_of_grown hgq).mono W.out.size))
  generalize (w5.alloc (.cells #[.slice u0 (lstB x n).length j0, .slice u1 (lstB y n).length j1] 29)) = wb at bq BQg BQo GO I0 I1 W ⊢
  generalize w5.heap.size = qw at bq ⊢
  have BQw := Lib.hid bq
  clear bq hgq
  go_wp2_with fail
  go_loopw [7] (fun tv wq => ∃ k : Nat, k ≤ 2 ∧ tv = .int .i64 (k : Int) ∧ Below wb.heap.size wb wq) (fun tv _ => 2 - (intOf tv).toNat)
  case atStart => exact ⟨0, by omega, rfl, Below.refl _ _⟩
  case round =>
    obtain ⟨kt, hkt, rfl, hbt⟩ := hrel
    obtain ⟨wt, hwt⟩ : ∃ wt : World, wt = wr := ⟨_, rfl⟩
    rw [← hwt] at hbt ⊢
    have HB := Lib.hid hbt
    have hkt0 : (0 : Int) ≤ (kt : Int) := Int.natCast_nonneg _
    clear hbt hwt
    by_cases hlt2 : kt < 2
    · have fkt : decide ((kt : Int) < 2) = true := decide_eq_true (by omega)
      have BQg2 := Lib.hid (BQg.out.keep (grown_of_below HB.out none))
      have BQo2 := Lib.hid (BQo.out.keep (grown_of_below HB.out none))
      have BQw2 := Lib.hid (BQw.out.keep (grown_of_below HB.out none))
      have W2 := Lib.hid (W.out.trans (HB.out.mono W.out.size))
      have HLO : Hid (wb.heap.size ≤ wt.heap.size) := Lib.hid HB.out.size
      have hbb := BQo2.out
      have pc0 : wt.cell? ⟨qo, 0, none⟩ = some (.slice pa n pka) := hbb.cell 0 _ rfl
      have pc1 : wt.cell? ⟨qo, 1, none⟩ = some (.slice pb n pkb) := hbb.cell 1 _ rfl
      have pc2 : wt.cell? ⟨qo, 2, none⟩ = some (.slice pc n pkc) := hbb.cell 2 _ rfl
      clear hbb
      go_wp2_with fail
      clear pc0 pc1 pc2
      refine (decomp_any g HR.out n HN.out _ wt (GO.out.on HB.out) (T.out.on W2.out)).mono ?_
      rintro e w1 ⟨X, Y, ch, dep, r0, r1, b0, b1, rfl, hd, hb⟩
      obtain ⟨x0, k0, rfl, -⟩ := own_at hd.zero.1
      obtain ⟨x1, k1, rfl, -⟩ := own_at hd.one.1
      have D := Lib.hid hd
      have IX := Lib.hid hd.zero.ints
      have IY := Lib.hid hd.one.ints
      have HRW0 := Lib.hid hd.zero
      have HRW1 := Lib.hid hd.one
      have IM := Lib.hid hd.zero.mints
      have IN := Lib.hid hd.one.mints
      replace HB := Lib.hid (HB.out.trans (hb.mono HB.out.size))
      clear hd hb
      have HEQ := Lib.hid (regions_is HR.out HN.out D.out.ap HSOL.out)
      have HWX := Lib.hid (dec_wins HR.out HN.out D.out.ap)
      go_upto_region 9 with (fail)
      have hal := World.grownBy_alloc w1 (.cells #[.slice x0 (P.lst X).length k0, .slice x1 (P.lst Y).length k1, .slice (some ⟨b0, 0, none⟩) n n, .slice (some ⟨b1, 0, none⟩) n n] 32) none
      have bq : Box (w1.alloc (.cells #[.slice x0 (P.lst X).length k0, .slice x1 (P.lst Y).length k1, .slice (some ⟨b0, 0, none⟩) n n, .slice (some ⟨b1, 0, none⟩) n n] 32)) w1.heap.size 32 #[.slice x0 (P.lst X).length k0, .slice x1 (P.lst Y).length k1, .slice (some ⟨b0, 0, none⟩) n n, .slice (some ⟨b1, 0, none⟩) n n] := Box.new _ _ _
      replace HB := Lib.hid (HB.out.trans ((below_of_grown hal).mono HB.out.size))
      replace IX := Lib.hid (IX.out.on (below_of_grown hal))
      replace IY := Lib.hid (IY.out.on (below_of_grown hal))
      replace IM := Lib.hid (IM.out.on (below_of_grown hal))
      replace IN := Lib.hid (IN.out.on (below_of_grown hal))
      replace HRW0 := Lib.hid (HRW0.out.grown hal)
      replace HRW1 := Lib.hid (HRW1.out.grown hal)
      clear hal
      generalize (w1.alloc (.cells #[.slice x0 (P.lst X).length k0, .slice x1 (P.lst Y).length k1, .slice (some ⟨b0, 0, none⟩) n n, .slice (some ⟨b1, 0, none⟩) n n] 32)) = w2 at bq HB IX IY IM IN HRW0 HRW1 ⊢
      generalize w1.heap.size = qc at bq ⊢
      have BQc := Lib.hid bq
      clear bq BQg2 BQo2 BQw2 W2
      have BQw2 := Lib.hid (BQw.out.keep (grown_of_below HB.out none))
      have hbb := BQc.out
      have cc0 : w2.cell? ⟨qc, 0, none⟩ = some (.slice x0 (P.lst X).length k0) := hbb.cell 0 _ rfl
      have cc1 : w2.cell? ⟨qc, 1, none⟩ = some (.slice x1 (P.lst Y).length k1) := hbb.cell 1 _ rfl
      have cc2 : w2.cell? ⟨qc, 2, none⟩ = some (.slice (some ⟨b0, 0, none⟩) n n) := hbb.cell 2 _ rfl
      have cc3 : w2.cell? ⟨qc, 3, none⟩ = some (.slice (some ⟨b1, 0, none⟩) n n) := hbb.cell 3 _ rfl
      clear hbb
      have hbb := BQw2.out
      have tc0 : w2.cell? ⟨qw, 0, none⟩ = some (.slice u0 (lstB x n).length j0) := hbb.cell 0 _ rfl
      have tc1 : w2.cell? ⟨qw, 1, none⟩ = some (.slice u1 (lstB y n).length j1) := hbb.cell 1 _ rfl
      clear hbb
      go_wp2_with fail
      clear cc0 cc1 cc2 cc3 tc0 tc1
      refine (alike_any (lstI X) (lstI Y) (lstB x n) (lstB y n) _ _ _ _ w2 IX.out IY.out (I0.out.on HB.out) (I1.out.on HB.out)).mono ?_
      rintro e w3 ⟨rfl, hb⟩
      rw [decide_eq_true (lstI_lstB HEQ.out.1 hmany), decide_eq_true (lstI_lstB HEQ.out.2 hmany), Bool.true_and]
      replace HB := Lib.hid (HB.out.trans (hb.mono HB.out.size))
      replace IX := Lib.hid (IX.out.on hb)
      replace IY := Lib.hid (IY.out.on hb)
      replace IM := Lib.hid (IM.out.on hb)
      replace IN := Lib.hid (IN.out.on hb)
      replace HRW0 := Lib.hid (HRW0.out.grown (grown_of_below hb none))
      replace HRW1 := Lib.hid (HRW1.out.grown (grown_of_below hb none))
      replace BQc := Lib.hid (BQc.out.keep (grown_of_below hb none))
      clear hb BQw2
      have BQg2 := Lib.hid (BQg.out.keep (grown_of_below HB.out none))
      have W2 := Lib.hid (W.out.trans (HB.out.mono W.out.size))
      have hbb := BQg2.out
      have gc0 : w3.cell? ⟨qg, 0, none⟩ = some (.slice (some ⟨ba, oa, none⟩) n ka) := hbb.cell 0 _ rfl
      have gc1 : w3.cell? ⟨qg, 1, none⟩ = some (.slice (some ⟨bb, ob, none⟩) n kb) := hbb.cell 1 _ rfl
      have gc2 : w3.cell? ⟨qg, 2, none⟩ = some (.slice (some ⟨bc_, oc, none⟩) n kc) := hbb.cell 2 _ rfl
      clear hbb
      have hbb := BQc.out
      have cc0 : w3.cell? ⟨qc, 0, none⟩ = some (.slice x0 (P.lst X).length k0) := hbb.cell 0 _ rfl
      have cc1 : w3.cell? ⟨qc, 1, none⟩ = some (.slice x1 (P.lst Y).length k1) := hbb.cell 1 _ rfl
      have cc2 : w3.cell? ⟨qc, 2, none⟩ = some (.slice (some ⟨b0, 0, none⟩) n n) := hbb.cell 2 _ rfl
      have cc3 : w3.cell? ⟨qc, 3, none⟩ = some (.slice (some ⟨b1, 0, none⟩) n n) := hbb.cell 3 _ rfl
      clear hbb
      go_wp2_with fail
      clear gc0 gc1 gc2 cc0 cc1 cc2 cc3
      refine (wins13_any g HR.out n HN.out (lstI X) (P.rowOf n (mvF g 0 X ch)) (by rw [lstI_len]; have := lst_short X; omega) (P.rowOf_len _ _) 0 HWX.out.1.1 HWX.out.1.2 _ _ _ w3 (HV.out.on W2.out) IX.out IM.out).mono ?_
      rintro e w4 ⟨rfl, hb⟩
      replace HB := Lib.hid (HB.out.trans (hb.mono HB.out.size))
      replace IX := Lib.hid (IX.out.on hb)
      replace IY := Lib.hid (IY.out.on hb)
      replace IM := Lib.hid (IM.out.on hb)
      replace IN := Lib.hid (IN.out.on hb)
      replace HRW0 := Lib.hid (HRW0.out.grown (grown_of_below hb none))
      replace HRW1 := Lib.hid (HRW1.out.grown (grown_of_below hb none))
      replace BQc := Lib.hid (BQc.out.keep (grown_of_below hb none))
      clear hb BQg2 W2
      have BQg2 := Lib.hid (BQg.out.keep (grown_of_below HB.out none))
      have W2 := Lib.hid (W.out.trans (HB.out.mono W.out.size))
      have hbb := BQg2.out
      have gc0 : w4.cell? ⟨qg, 0, none⟩ = some (.slice (some ⟨ba, oa, none⟩) n ka) := hbb.cell 0 _ rfl
      have gc1 : w4.cell? ⟨qg, 1, none⟩ = some (.slice (some ⟨bb, ob, none⟩) n kb) := hbb.cell 1 _ rfl
      have gc2 : w4.cell? ⟨qg, 2, none⟩ = some (.slice (some ⟨bc_, oc, none⟩) n kc) := hbb.cell 2 _ rfl
      clear hbb
      have hbb := BQc.out
      have cc0 : w4.cell? ⟨qc, 0, none⟩ = some (.slice x0 (P.lst X).length k0) := hbb.cell 0 _ rfl
      have cc1 : w4.cell? ⟨qc, 1, none⟩ = some (.slice x1 (P.lst Y).length k1) := hbb.cell 1 _ rfl
      have cc2 : w4.cell? ⟨qc, 2, none⟩ = some (.slice (some ⟨b0, 0, none⟩) n n) := hbb.cell 2 _ rfl
      have cc3 : w4.cell? ⟨qc, 3, none⟩ = some (.slice (some ⟨b1, 0, none⟩) n n) := hbb.cell 3 _ rfl
      clear hbb
      go_wp2_with fail
      clear gc0 gc1 gc2 cc0 cc1 cc2 cc3
      refine (wins13_any g HR.out n HN.out (lstI Y) (P.rowOf n (mvF g 1 Y ch)) (by rw [lstI_len]; have := lst_short Y; omega) (P.rowOf_len _ _) 1 HWX.out.2.1 HWX.out.2.2 _ _ _ w4 (HV.out.on W2.out) IY.out IN.out).mono ?_
      rintro e w5 ⟨rfl, hb⟩
      replace HB := Lib.hid (HB.out.trans (hb.mono HB.out.size))
      replace IX := Lib.hid (IX.out.on hb)
      replace IY := Lib.hid (IY.out.on hb)
      replace IM := Lib.hid (IM.out.on hb)
      replace IN := Lib.hid (IN.out.on hb)
      replace HRW0 := Lib.hid (HRW0.out.grown (grown_of_below hb none))
      replace HRW1 := Lib.hid (HRW1.out.grown (grown_of_below hb none))
      replace BQc := Lib.hid (BQc.out.keep (grown_of_below hb none))
      clear hb BQg2 W2
      have hd1 := D.out.deep.1
      have hd2 := D.out.deep.2
      have fd1 : decide (dep < (1 : Int)) = false := decide_eq_false (by omega)
      have fd2 : decide ((n : Int) + 1 < dep) = false := decide_eq_false (by omega)
      go_wp2_with fail
      clear fd1 fd2 hd1 hd2
      go_loopw [14] (fun pv wq => Box wq qc 32 #[.slice x0 (P.lst X).length k0, .slice x1 (P.lst Y).length k1, .slice (some ⟨b0, 0, none⟩) n n, .slice (some ⟨b1, 0, none⟩) n n] ∧ Below wb.heap.size wb wq ∧ ((pv = .int .i64 0 ∧ ROWS wq wt.heap.size n g 0 X ch (.slice x0 (P.lst X).length k0) b0 ∧ ROWS wq wt.heap.size n g 1 Y ch (.slice x1 (P.lst Y).length k1) b1) ∨ (pv = .int .i64 1 ∧ ROWS wq wt.heap.size n g 1 Y ch (.slice x1 (P.lst Y).length k1) b1) ∨ pv = .int .i64 2)) (fun pv _ => 2 - (intOf pv).toNat)
      case atStart => exact ⟨BQc.out, HB.out, .inl ⟨rfl, HRW0.out, HRW1.out⟩⟩
      case round =>
        obtain ⟨hbc, hbb, hst⟩ := hrel
        replace BQc := Lib.hid hbc
        replace HB := Lib.hid hbb
        clear hbc hbb HRW0 HRW1
        rcases hst with ⟨rfl, h0_, h1_⟩ | ⟨rfl, h1_⟩ | rfl
        · have HRW := Lib.hid h0_
          have HRW1 := Lib.hid h1_
          clear h0_ h1_
          have BQg2 := Lib.hid (BQg.out.keep (grown_of_below HB.out none))
          have BQw2 := Lib.hid (BQw.out.keep (grown_of_below HB.out none))
          have W2 := Lib.hid (W.out.trans (HB.out.mono W.out.size))
          have hbb := BQc.out
          have cc0 : wr.cell? ⟨qc, 0, none⟩ = some (.slice x0 (P.lst X).length k0) := hbb.cell 0 _ rfl
          have cc1 : wr.cell? ⟨qc, 1, none⟩ = some (.slice x1 (P.lst Y).length k1) := hbb.cell 1 _ rfl
          have cc2 : wr.cell? ⟨qc, 2, none⟩ = some (.slice (some ⟨b0, 0, none⟩) n n) := hbb.cell 2 _ rfl
          have cc3 : wr.cell? ⟨qc, 3, none⟩ = some (.slice (some ⟨b1, 0, none⟩) n n) := hbb.cell 3 _ rfl
          clear hbb
          go_wp2_with fail
          clear cc0 cc1 cc2 cc3
          go_loopw [15] (fun iv wq => ∃ k : Nat, k ≤ n ∧ iv = .int .i64 (k : Int) ∧ Box wq qc 32 #[.slice x0 (P.lst X).length k0, .slice x1 (P.lst Y).length k1, .slice (some ⟨b0, 0, none⟩) n n, .slice (some ⟨b1, 0, none⟩) n n] ∧ Below wb.heap.size wb wq ∧ wq.ownsRow wt.heap.size 3 1 (.slice (some ⟨b0, 0, none⟩) n n) n ((P.rowOf n (fun y => if y < k then 99 else mvF g 0 X ch y)).map (Value.int .i64)) ∧ wq.ownsRow wt.heap.size 3 1 (.slice x0 (P.lst X).length k0) (P.lst X).length ((lstI X).map (Value.int .i64)) ∧ ROWS wq wt.heap.size n g 1 Y ch (.slice x1 (P.lst Y).length k1) b1) (fun iv _ => n - (intOf iv).toNat)
          case atStart => exact ⟨0, Nat.zero_le _, rfl, BQc.out, HB.out, by rw [show (fun y => if y < 0 then (99 : Int) else mvF g 0 X ch y) = mvF g 0 X ch from funext fun y => if_neg (Nat.not_lt_zero y)]; exact HRW.out.2.1, HRW.out.1, HRW1.out⟩
          case round =>
            obtain ⟨k, hk, rfl, hbc, hbb, hmr, hrr, hr1⟩ := hrel
            replace BQc := Lib.hid hbc
            replace HB := Lib.hid hbb
            have HMR := Lib.hid hmr
            have HRR := Lib.hid hrr
            replace HRW1 := Lib.hid hr1
            have hk0 : (0 : Int) ≤ (k : Int) := Int.natCast_nonneg _
            clear hbc hbb hmr hrr hr1 HRW
            have BQg2 := Lib.hid (BQg.out.keep (grown_of_below HB.out none))
            have BQw2 := Lib.hid (BQw.out.keep (grown_of_below HB.out none))
            have W2 := Lib.hid (W.out.trans (HB.out.mono W.out.size))
            by_cases hlt : k < n
            · have fk : decide ((k : Int) < (n : Int)) = true := decide_eq_true (by omega)
              have hki : (k : Int) < (n : Int) := by omega
              have co := HCA.out wr W2.out k hlt
              obtain ⟨zo, hzo⟩ : ∃ z, g.owner.getD k 0 = z := ⟨_, rfl⟩
              rw [hzo] at co
              have HZO := Lib.hid hzo
              clear hzo
              have hbb := BQg2.out
              have gc0 : wr.cell? ⟨qg, 0, none⟩ = some (.slice (some ⟨ba, oa, none⟩) n ka) := hbb.cell 0 _ rfl
              have gc1 : wr.cell? ⟨qg, 1, none⟩ = some (.slice (some ⟨bb, ob, none⟩) n kb) := hbb.cell 1 _ rfl
              have gc2 : wr.cell? ⟨qg, 2, none⟩ = some (.slice (some ⟨bc_, oc, none⟩) n kc) := hbb.cell 2 _ rfl
              clear hbb
              by_cases ho : zo = 0
              · have fo : (zo == 0) = true := by rw [beq_iff_eq]; exact ho
                have hbb := BQw2.out
                have tc0 : wr.cell? ⟨qw, 0, none⟩ = some (.slice u0 (lstB x n).length j0) := hbb.cell 0 _ rfl
                have tc1 : wr.cell? ⟨qw, 1, none⟩ = some (.slice u1 (lstB y n).length j1) := hbb.cell 1 _ rfl
                clear hbb
                go_wp2_with fail
                clear tc0 tc1 gc0 gc1 gc2 co
                refine (count13_any (lstB x n) (k : Int) (Nat.le_trans (lstB_len x n) (by omega)) _ wr (I0.out.on HB.out)).mono ?_
                rintro e wz ⟨rfl, hb⟩
                replace BQc := Lib.hid (BQc.out.keep (grown_of_below hb none))
                replace HMR := Lib.hid (own_grown HMR.out (grown_of_below hb none))
                replace HRR := Lib.hid (own_grown HRR.out (grown_of_below hb none))
                replace HRW1 := Lib.hid (HRW1.out.grown (grown_of_below hb none))
                replace HB := Lib.hid (HB.out.trans (hb.mono HB.out.size))
                obtain ⟨ct, hct⟩ : ∃ c, (lstB x n).count (k : Int) = c := ⟨_, rfl⟩
                rw [hct]
                have hcs := lstB_count1 (x := x) hlt
                rw [hct] at hcs
                have hbs := (HEQ.out.1 k)
                clear hct hb
                cases hx : x k
                · have HM1 := Lib.hid (show mvF g 0 X ch k = -1 by unfold mvF; rw [if_neg (fun e => by have := (hbs.1 e.1).2; rw [hx] at this; cases this)])
                  have fc : ((ct : Int) == 1) = false := by rw [hx] at hcs; rw [hcs]; decide
                  have fc2 : (ct == 1) = false := by rw [hx] at hcs; rw [hcs]; decide
                  clear hcs hbs hx
                  have cm : wz.cell? ⟨b0, k, none⟩ = some (.int .i64 (mvF g 0 X ch k)) := by rw [HMR.out.cellAt k (by omega), List.getElem?_map, P.rowOf_at _ hlt, if_neg (Nat.lt_irrefl k)]; rfl
                  have fm := HMR.out.frozenAt k
                  have fm1 : (mvF g 0 X ch k != -1) = false := by rw [bne_eq_false_iff_eq]; exact HM1.out
                  have HM9 := Lib.hid (show (wz.setCell ⟨b0, k, none⟩ (.int .i64 99)).ownsRow wt.heap.size 3 1 (.slice (some ⟨b0, 0, none⟩) n n) n ((P.rowOf n (fun y => if y < (k + 1) then 99 else mvF g 0 X ch y)).map (Value.int .i64)) from row_99 HMR.out)
                  have HR9 := Lib.hid (own_kept HRR.out (grown_set wz ⟨b0, k, none⟩ (.int .i64 99)) (.inr fun e => Nat.lt_irrefl _ (D.out.zero.2.2 _ e)))
                  have HW19 := Lib.hid (show ROWS (wz.setCell ⟨b0, k, none⟩ (.int .i64 99)) wt.heap.size n g 1 Y ch (.slice x1 (P.lst Y).length k1) b1 from HRW1.out.far (fun e => by have h1 := D.out.lt; omega) (fun e => Nat.lt_irrefl _ (D.out.past _ e)) k (.int .i64 99))
                  have BC9 := Lib.hid (BQc.out.far (p := ⟨b0, k, none⟩) (fun e => own_box HMR.out BQc.out (by decide) (by rw [e]; rfl)) (.int .i64 99))
                  have HB9 := Lib.hid (HB.out.setCell (p := ⟨b0, k, none⟩) (by have h1 := (own_lt HMR.out b0 rfl).1; have h2 := HLO.out; show wb.heap.size ≤ b0; omega) (.int .i64 99))
                  have hbb := BQc.out
                  have cc0 : wz.cell? ⟨qc, 0, none⟩ = some (.slice x0 (P.lst X).length k0) := hbb.cell 0 _ rfl
                  have cc1 : wz.cell? ⟨qc, 1, none⟩ = some (.slice x1 (P.lst Y).length k1) := hbb.cell 1 _ rfl
                  have cc2 : wz.cell? ⟨qc, 2, none⟩ = some (.slice (some ⟨b0, 0, none⟩) n n) := hbb.cell 2 _ rfl
                  have cc3 : wz.cell? ⟨qc, 3, none⟩ = some (.slice (some ⟨b1, 0, none⟩) n n) := hbb.cell 3 _ rfl
                  clear hbb
                  go_wp2_with fail
                  clear cc0 cc1 cc2 cc3 cm fm
                  go_roundw
                  case rel => exact ⟨k + 1, by omega, by first | rfl | go_num, BC9.out, HB9.out, HM9.out, HR9.out, HW19.out⟩
                  case measure => simp [intOf]; omega
                · have fc : ((ct : Int) == 1) = true := by rw [hx] at hcs; rw [hcs]; decide
                  have fc2 : (ct == 1) = true := by rw [hx] at hcs; rw [hcs]; decide
                  clear hcs hbs hx
                  have cm : wz.cell? ⟨b0, k, none⟩ = some (.int .i64 (mvF g 0 X ch k)) := by rw [HMR.out.cellAt k (by omega), List.getElem?_map, P.rowOf_at _ hlt, if_neg (Nat.lt_irrefl k)]; rfl
                  have fm := HMR.out.frozenAt k
                  have HM9 := Lib.hid (show (wz.setCell ⟨b0, k, none⟩ (.int .i64 99)).ownsRow wt.heap.size 3 1 (.slice (some ⟨b0, 0, none⟩) n n) n ((P.rowOf n (fun y => if y < (k + 1) then 99 else mvF g 0 X ch y)).map (Value.int .i64)) from row_99 HMR.out)
                  have HR9 := Lib.hid (own_kept HRR.out (grown_set wz ⟨b0, k, none⟩ (.int .i64 99)) (.inr fun e => Nat.lt_irrefl _ (D.out.zero.2.2 _ e)))
                  have HW19 := Lib.hid (show ROWS (wz.setCell ⟨b0, k, none⟩ (.int .i64 99)) wt.heap.size n g 1 Y ch (.slice x1 (P.lst Y).length k1) b1 from HRW1.out.far (fun e => by have h1 := D.out.lt; omega) (fun e => Nat.lt_irrefl _ (D.out.past _ e)) k (.int .i64 99))
                  have BC9 := Lib.hid (BQc.out.far (p := ⟨b0, k, none⟩) (fun e => own_box HMR.out BQc.out (by decide) (by rw [e]; rfl)) (.int .i64 99))
                  have HB9 := Lib.hid (HB.out.setCell (p := ⟨b0, k, none⟩) (by have h1 := (own_lt HMR.out b0 rfl).1; have h2 := HLO.out; show wb.heap.size ≤ b0; omega) (.int .i64 99))
                  have hbb := BQc.out
                  have cc0 : wz.cell? ⟨qc, 0, none⟩ = some (.slice x0 (P.lst X).length k0) := hbb.cell 0 _ rfl
                  have cc1 : wz.cell? ⟨qc, 1, none⟩ = some (.slice x1 (P.lst Y).length k1) := hbb.cell 1 _ rfl
                  have cc2 : wz.cell? ⟨qc, 2, none⟩ = some (.slice (some ⟨b0, 0, none⟩) n n) := hbb.cell 2 _ rfl
                  have cc3 : wz.cell? ⟨qc, 3, none⟩ = some (.slice (some ⟨b1, 0, none⟩) n n) := hbb.cell 3 _ rfl
                  clear hbb
                  go_wp2_with fail
                  clear cc0 cc1 cc2 cc3 cm fm
                  go_roundw
                  case rel => exact ⟨k + 1, by omega, by first | rfl | go_num, BC9.out, HB9.out, HM9.out, HR9.out, HW19.out⟩
                  case measure => simp [intOf]; omega
              · have fo : (zo == 0) = false := by rw [beq_eq_false_iff_ne]; exact ho
                have HM1 := Lib.hid (show mvF g 0 X ch k = -1 by unfold mvF; rw [if_neg (fun e => ho (by rw [← HZO.out]; exact e.2))])
                have cm : wr.cell? ⟨b0, k, none⟩ = some (.int .i64 (mvF g 0 X ch k)) := by rw [HMR.out.cellAt k (by omega), List.getElem?_map, P.rowOf_at _ hlt, if_neg (Nat.lt_irrefl k)]; rfl
                have fm := HMR.out.frozenAt k
                have fm1 : (mvF g 0 X ch k != -1) = false := by rw [bne_eq_false_iff_eq]; exact HM1.out
                have HM9 := Lib.hid (show (wr.setCell ⟨b0, k, none⟩ (.int .i64 99)).ownsRow wt.heap.size 3 1 (.slice (some ⟨b0, 0, none⟩) n n) n ((P.rowOf n (fun y => if y < (k + 1) then 99 else mvF g 0 X ch y)).map (Value.int .i64)) from row_99 HMR.out)
                have HR9 := Lib.hid (own_kept HRR.out (grown_set wr ⟨b0, k, none⟩ (.int .i64 99)) (.inr fun e => Nat.lt_irrefl _ (D.out.zero.2.2 _ e)))
                have HW19 := Lib.hid (show ROWS (wr.setCell ⟨b0, k, none⟩ (.int .i64 99)) wt.heap.size n g 1 Y ch (.slice x1 (P.lst Y).length k1) b1 from HRW1.out.far (fun e => by have h1 := D.out.lt; omega) (fun e => Nat.lt_irrefl _ (D.out.past _ e)) k (.int .i64 99))
                have BC9 := Lib.hid (BQc.out.far (p := ⟨b0, k, none⟩) (fun e => own_box HMR.out BQc.out (by decide) (by rw [e]; rfl)) (.int .i64 99))
                have HB9 := Lib.hid (HB.out.setCell (p := ⟨b0, k, none⟩) (by have h1 := (own_lt HMR.out b0 rfl).1; have h2 := HLO.out; show wb.heap.size ≤ b0; omega) (.int .i64 99))
                have hbb := BQc.out
                have cc0 : wr.cell? ⟨qc, 0, none⟩ = some (.slice x0 (P.lst X).length k0) := hbb.cell 0 _ rfl
                have cc1 : wr.cell? ⟨qc, 1, none⟩ = some (.slice x1 (P.lst Y).length k1) := hbb.cell 1 _ rfl
                have cc2 : wr.cell? ⟨qc, 2, none⟩ = some (.slice (some ⟨b0, 0, none⟩) n n) := hbb.cell 2 _ rfl
                have cc3 : wr.cell? ⟨qc, 3, none⟩ = some (.slice (some ⟨b1, 0, none⟩) n n) := hbb.cell 3 _ rfl
                clear hbb
                go_wp2_with fail
                clear gc0 gc1 gc2 co cc0 cc1 cc2 cc3 cm fm
                go_roundw
                case rel => exact ⟨k + 1, by omega, by first | rfl | go_num, BC9.out, HB9.out, HM9.out, HR9.out, HW19.out⟩
                case measure => simp [intOf]; omega
            · have fk : decide ((k : Int) < (n : Int)) = false := decide_eq_false (by omega)
              clear HMR
              go_wp2_with fail
              obtain ⟨ln, hln⟩ : ∃ k, (P.lst X).length = k := ⟨_, rfl⟩
              have HLN := Lib.hid hln
              have hl256 : ln ≤ 256 := by rw [← hln]; exact lst_short _
              clear hln
              go_loopw [17] (fun iv wq => ∃ k : Nat, k ≤ ln ∧ iv = .int .i64 (k : Int) ∧ Box wq qc 32 #[.slice x0 (P.lst X).length k0, .slice x1 (P.lst Y).length k1, .slice (some ⟨b0, 0, none⟩) n n, .slice (some ⟨b1, 0, none⟩) n n] ∧ Below wb.heap.size wb wq ∧ (∃ xs, wq.ownsRow wt.heap.size 3 1 (.slice x0 (P.lst X).length k0) (P.lst X).length xs) ∧ ROWS wq wt.heap.size n g 1 Y ch (.slice x1 (P.lst Y).length k1) b1) (fun iv _ => ln - (intOf iv).toNat)
              case atStart => exact ⟨0, Nat.zero_le _, rfl, BQc.out, HB.out, ⟨_, HRR.out⟩, HRW1.out⟩
              case round =>
                obtain ⟨k, hk, rfl, hbc, hbb, ⟨xs, hrr⟩, hr1⟩ := hrel
                replace BQc := Lib.hid hbc
                replace HB := Lib.hid hbb
                replace HRR := Lib.hid hrr
                replace HRW1 := Lib.hid hr1
                have hk0 : (0 : Int) ≤ (k : Int) := Int.natCast_nonneg _
                clear hbc hbb hrr hr1
                by_cases hlt : k < ln
                · have fk : decide ((k : Int) < (ln : Int)) = true := decide_eq_true (by omega)
                  have hki : (k : Int) < (ln : Int) := by omega
                  obtain ⟨bx, kx, ex_, hlx, hltx, -, hfx⟩ := own_form HRR.out (by rw [HLN.out]; omega)
                  have hrr2 := HRR.out
                  rw [ex_] at hrr2
                  have cm := hrr2.cellAt k (by rw [HLN.out]; omega)
                  obtain ⟨mo, hmo⟩ : ∃ u, wr.cell? ⟨bx, k, none⟩ = some u := ⟨_, cm.trans (List.getElem?_eq_getElem (by rw [hrr2.1, HLN.out]; omega))⟩
                  have fm := hfx k
                  have hst := (hrr2.stored k (.int .i64 99)).1
                  rw [← ex_] at hst
                  have HR9 := Lib.hid hst
                  have hob : (.slice x0 (P.lst X).length k0 : Value).ownBlock = some bx := by rw [ex_]; rfl
                  have HBX := Lib.hid hob
                  have BC9 := Lib.hid (BQc.out.far (p := ⟨bx, k, none⟩) (fun e => own_box HRR.out BQc.out (by decide) (by rw [hob, e])) (.int .i64 99))
                  have HB9 := Lib.hid (HB.out.setCell (p := ⟨bx, k, none⟩) (by have h2 := HLO.out; show wb.heap.size ≤ bx; omega) (.int .i64 99))
                  have HW19 := Lib.hid (show ROWS (wr.setCell ⟨bx, k, none⟩ (.int .i64 99)) wt.heap.size n g 1 Y ch (.slice x1 (P.lst Y).length k1) b1 from HRW1.out.far (fun e => by have h1 := D.out.lt; have h2 := D.out.zero.2.2 bx hob; omega) (fun e => by have h1 := D.out.past bx e; have h2 := D.out.zero.2.2 bx hob; omega) k (.int .i64 99))
                  have hbc0 := BQc.out.cell 0 _ rfl
                  have hbcx : wr.cell? ⟨qc, 0, none⟩ = some (.slice (some ⟨bx, 0, none⟩) ln kx) := by rw [← HLN.out, ← ex_]; exact hbc0
                  clear cm hst hob hbc0 hrr2 ex_ hlx hltx hfx
                  go_wp2_with fail
                  clear hbcx hmo fm
                  go_roundw
                  case rel => exact ⟨k + 1, by omega, by first | rfl | go_num, BC9.out, HB9.out, ⟨_, HR9.out⟩, HW19.out⟩
                  case measure => simp [intOf]; omega
                · have fk : decide ((k : Int) < (ln : Int)) = false := decide_eq_false (by omega)
                  have hbcx : wr.cell? ⟨qc, 0, none⟩ = some (.slice x0 ln k0) := by rw [← HLN.out]; exact BQc.out.cell 0 _ rfl
                  go_wp2_with fail
                  clear hbcx
                  go_roundw
                  case rel => exact ⟨BQc.out, HB.out, .inr (.inl ⟨by first | rfl | go_num, HRW1.out⟩)⟩
                  case measure => simp [intOf]
        · have HRW := Lib.hid h1_
          clear h1_
          have BQg2 := Lib.hid (BQg.out.keep (grown_of_below HB.out none))
          have BQw2 := Lib.hid (BQw.out.keep (grown_of_below HB.out none))
          have W2 := Lib.hid (W.out.trans (HB.out.mono W.out.size))
          have hbb := BQc.out
          have cc0 : wr.cell? ⟨qc, 0, none⟩ = some (.slice x0 (P.lst X).length k0) := hbb.cell 0 _ rfl
          have cc1 : wr.cell? ⟨qc, 1, none⟩ = some (.slice x1 (P.lst Y).length k1) := hbb.cell 1 _ rfl
          have cc2 : wr.cell? ⟨qc, 2, none⟩ = some (.slice (some ⟨b0, 0, none⟩) n n) := hbb.cell 2 _ rfl
          have cc3 : wr.cell? ⟨qc, 3, none⟩ = some (.slice (some ⟨b1, 0, none⟩) n n) := hbb.cell 3 _ rfl
          clear hbb
          go_wp2_with fail
          clear cc0 cc1 cc2 cc3
          go_loopw [15] (fun iv wq => ∃ k : Nat, k ≤ n ∧ iv = .int .i64 (k : Int) ∧ Box wq qc 32 #[.slice x0 (P.lst X).length k0, .slice x1 (P.lst Y).length k1, .slice (some ⟨b0, 0, none⟩) n n, .slice (some ⟨b1, 0, none⟩) n n] ∧ Below wb.heap.size wb wq ∧ wq.ownsRow wt.heap.size 3 1 (.slice (some ⟨b1, 0, none⟩) n n) n ((P.rowOf n (fun y => if y < k then 99 else mvF g 1 Y ch y)).map (Value.int .i64)) ∧ wq.ownsRow wt.heap.size 3 1 (.slice x1 (P.lst Y).length k1) (P.lst Y).length ((lstI Y).map (Value.int .i64))) (fun iv _ => n - (intOf iv).toNat)
          case atStart => exact ⟨0, Nat.zero_le _, rfl, BQc.out, HB.out, by rw [show (fun y => if y < 0 then (99 : Int) else mvF g 1 Y ch y) = mvF g 1 Y ch from funext fun y => if_neg (Nat.not_lt_zero y)]; exact HRW.out.2.1, HRW.out.1⟩
          case round =>
            obtain ⟨k, hk, rfl, hbc, hbb, hmr, hrr⟩ := hrel
            replace BQc := Lib.hid hbc
            replace HB := Lib.hid hbb
            have HMR := Lib.hid hmr
            have HRR := Lib.hid hrr
            have hk0 : (0 : Int) ≤ (k : Int) := Int.natCast_nonneg _
            clear hbc hbb hmr hrr HRW
            have BQg2 := Lib.hid (BQg.out.keep (grown_of_below HB.out none))
            have BQw2 := Lib.hid (BQw.out.keep (grown_of_below HB.out none))
            have W2 := Lib.hid (W.out.trans (HB.out.mono W.out.size))
            by_cases hlt : k < n
            · have fk : decide ((k : Int) < (n : Int)) = true := decide_eq_true (by omega)
              have hki : (k : Int) < (n : Int) := by omega
              have co := HCA.out wr W2.out k hlt
              obtain ⟨zo, hzo⟩ : ∃ z, g.owner.getD k 0 = z := ⟨_, rfl⟩
              rw [hzo] at co
              have HZO := Lib.hid hzo
              clear hzo
              have hbb := BQg2.out
              have gc0 : wr.cell? ⟨qg, 0, none⟩ = some (.slice (some ⟨ba, oa, none⟩) n ka) := hbb.cell 0 _ rfl
              have gc1 : wr.cell? ⟨qg, 1, none⟩ = some (.slice (some ⟨bb, ob, none⟩) n kb) := hbb.cell 1 _ rfl
              have gc2 : wr.cell? ⟨qg, 2, none⟩ = some (.slice (some ⟨bc_, oc, none⟩) n kc) := hbb.cell 2 _ rfl
              clear hbb
              by_cases ho : zo = 1
              · have fo : (zo == 1) = true := by rw [beq_iff_eq]; exact ho
                have hbb := BQw2.out
                have tc0 : wr.cell? ⟨qw, 0, none⟩ = some (.slice u0 (lstB x n).length j0) := hbb.cell 0 _ rfl
                have tc1 : wr.cell? ⟨qw, 1, none⟩ = some (.slice u1 (lstB y n).length j1) := hbb.cell 1 _ rfl
                clear hbb
                go_wp2_with fail
                clear tc0 tc1 gc0 gc1 gc2 co
                refine (count13_any (lstB y n) (k : Int) (Nat.le_trans (lstB_len y n) (by omega)) _ wr (I1.out.on HB.out)).mono ?_
                rintro e wz ⟨rfl, hb⟩
                replace BQc := Lib.hid (BQc.out.keep (grown_of_below hb none))
                replace HMR := Lib.hid (own_grown HMR.out (grown_of_below hb none))
                replace HRR := Lib.hid (own_grown HRR.out (grown_of_below hb none))
                replace HB := Lib.hid (HB.out.trans (hb.mono HB.out.size))
                obtain ⟨ct, hct⟩ : ∃ c, (lstB y n).count (k : Int) = c := ⟨_, rfl⟩
                rw [hct]
                have hcs := lstB_count1 (x := y) hlt
                rw [hct] at hcs
                have hbs := (HEQ.out.2 k)
                clear hct hb
                cases hx : y k
                · have HM1 := Lib.hid (show mvF g 1 Y ch k = -1 by unfold mvF; rw [if_neg (fun e => by have := (hbs.1 e.1).2; rw [hx] at this; cases this)])
                  have fc : ((ct : Int) == 1) = false := by rw [hx] at hcs; rw [hcs]; decide
                  have fc2 : (ct == 1) = false := by rw [hx] at hcs; rw [hcs]; decide
                  clear hcs hbs hx
                  have cm : wz.cell? ⟨b1, k, none⟩ = some (.int .i64 (mvF g 1 Y ch k)) := by rw [HMR.out.cellAt k (by omega), List.getElem?_map, P.rowOf_at _ hlt, if_neg (Nat.lt_irrefl k)]; rfl
                  have fm := HMR.out.frozenAt k
                  have fm1 : (mvF g 1 Y ch k != -1) = false := by rw [bne_eq_false_iff_eq]; exact HM1.out
                  have HM9 := Lib.hid (show (wz.setCell ⟨b1, k, none⟩ (.int .i64 99)).ownsRow wt.heap.size 3 1 (.slice (some ⟨b1, 0, none⟩) n n) n ((P.rowOf n (fun y => if y < (k + 1) then 99 else mvF g 1 Y ch y)).map (Value.int .i64)) from row_99 HMR.out)
                  have HR9 := Lib.hid (own_kept HRR.out (grown_set wz ⟨b1, k, none⟩ (.int .i64 99)) (.inr fun e => Nat.lt_irrefl _ (D.out.one.2.2 _ e)))
                  have BC9 := Lib.hid (BQc.out.far (p := ⟨b1, k, none⟩) (fun e => own_box HMR.out BQc.out (by decide) (by rw [e]; rfl)) (.int .i64 99))
                  have HB9 := Lib.hid (HB.out.setCell (p := ⟨b1, k, none⟩) (by have h1 := (own_lt HMR.out b1 rfl).1; have h2 := HLO.out; show wb.heap.size ≤ b1; omega) (.int .i64 99))
                  have hbb := BQc.out
                  have cc0 : wz.cell? ⟨qc, 0, none⟩ = some (.slice x0 (P.lst X).length k0) := hbb.cell 0 _ rfl
                  have cc1 : wz.cell? ⟨qc, 1, none⟩ = some (.slice x1 (P.lst Y).length k1) := hbb.cell 1 _ rfl
                  have cc2 : wz.cell? ⟨qc, 2, none⟩ = some (.slice (some ⟨b0, 0, none⟩) n n) := hbb.cell 2 _ rfl
                  have cc3 : wz.cell? ⟨qc, 3, none⟩ = some (.slice (some ⟨b1, 0, none⟩) n n) := hbb.cell 3 _ rfl
                  clear hbb
                  go_wp2_with fail
                  clear cc0 cc1 cc2 cc3 cm fm
                  go_roundw
                  case rel => exact ⟨k + 1, by omega, by first | rfl | go_num, BC9.out, HB9.out, HM9.out, HR9.out⟩
                  case measure => simp [intOf]; omega
                · have fc : ((ct : Int) == 1) = true := by rw [hx] at hcs; rw [hcs]; decide
                  have fc2 : (ct == 1) = true := by rw [hx] at hcs; rw [hcs]; decide
                  clear hcs hbs hx
                  have cm : wz.cell? ⟨b1, k, none⟩ = some (.int .i64 (mvF g 1 Y ch k)) := by rw [HMR.out.cellAt k (by omega), List.getElem?_map, P.rowOf_at _ hlt, if_neg (Nat.lt_irrefl k)]; rfl
                  have fm := HMR.out.frozenAt k
                  have HM9 := Lib.hid (show (wz.setCell ⟨b1, k, none⟩ (.int .i64 99)).ownsRow wt.heap.size 3 1 (.slice (some ⟨b1, 0, none⟩) n n) n ((P.rowOf n (fun y => if y < (k + 1) then 99 else mvF g 1 Y ch y)).map (Value.int .i64)) from row_99 HMR.out)
                  have HR9 := Lib.hid (own_kept HRR.out (grown_set wz ⟨b1, k, none⟩ (.int .i64 99)) (.inr fun e => Nat.lt_irrefl _ (D.out.one.2.2 _ e)))
                  have BC9 := Lib.hid (BQc.out.far (p := ⟨b1, k, none⟩) (fun e => own_box HMR.out BQc.out (by decide) (by rw [e]; rfl)) (.int .i64 99))
                  have HB9 := Lib.hid (HB.out.setCell (p := ⟨b1, k, none⟩) (by have h1 := (own_lt HMR.out b1 rfl).1; have h2 := HLO.out; show wb.heap.size ≤ b1; omega) (.int .i64 99))
                  have hbb := BQc.out
                  have cc0 : wz.cell? ⟨qc, 0, none⟩ = some (.slice x0 (P.lst X).length k0) := hbb.cell 0 _ rfl
                  have cc1 : wz.cell? ⟨qc, 1, none⟩ = some (.slice x1 (P.lst Y).length k1) := hbb.cell 1 _ rfl
                  have cc2 : wz.cell? ⟨qc, 2, none⟩ = some (.slice (some ⟨b0, 0, none⟩) n n) := hbb.cell 2 _ rfl
                  have cc3 : wz.cell? ⟨qc, 3, none⟩ = some (.slice (some ⟨b1, 0, none⟩) n n) := hbb.cell 3 _ rfl
                  clear hbb
                  go_wp2_with fail
                  clear cc0 cc1 cc2 cc3 cm fm
                  go_roundw
                  case rel => exact ⟨k + 1, by omega, by first | rfl | go_num, BC9.out, HB9.out, HM9.out, HR9.out⟩
                  case measure => simp [intOf]; omega
              · have fo : (zo == 1) = false := by rw [beq_eq_false_iff_ne]; exact ho
                have HM1 := Lib.hid (show mvF g 1 Y ch k = -1 by unfold mvF; rw [if_neg (fun e => ho (by rw [← HZO.out]; exact e.2))])
                have cm : wr.cell? ⟨b1, k, none⟩ = some (.int .i64 (mvF g 1 Y ch k)) := by rw [HMR.out.cellAt k (by omega), List.getElem?_map, P.rowOf_at _ hlt, if_neg (Nat.lt_irrefl k)]; rfl
                have fm := HMR.out.frozenAt k
                have fm1 : (mvF g 1 Y ch k != -1) = false := by rw [bne_eq_false_iff_eq]; exact HM1.out
                have HM9 := Lib.hid (show (wr.setCell ⟨b1, k, none⟩ (.int .i64 99)).ownsRow wt.heap.size 3 1 (.slice (some ⟨b1, 0, none⟩) n n) n ((P.rowOf n (fun y => if y < (k + 1) then 99 else mvF g 1 Y ch y)).map (Value.int .i64)) from row_99 HMR.out)
                have HR9 := Lib.hid (own_kept HRR.out (grown_set wr ⟨b1, k, none⟩ (.int .i64 99)) (.inr fun e => Nat.lt_irrefl _ (D.out.one.2.2 _ e)))
                have BC9 := Lib.hid (BQc.out.far (p := ⟨b1, k, none⟩) (fun e => own_box HMR.out BQc.out (by decide) (by rw [e]; rfl)) (.int .i64 99))
                have HB9 := Lib.hid (HB.out.setCell (p := ⟨b1, k, none⟩) (by have h1 := (own_lt HMR.out b1 rfl).1; have h2 := HLO.out; show wb.heap.size ≤ b1; omega) (.int .i64 99))
                have hbb := BQc.out
                have cc0 : wr.cell? ⟨qc, 0, none⟩ = some (.slice x0 (P.lst X).length k0) := hbb.cell 0 _ rfl
                have cc1 : wr.cell? ⟨qc, 1, none⟩ = some (.slice x1 (P.lst Y).length k1) := hbb.cell 1 _ rfl
                have cc2 : wr.cell? ⟨qc, 2, none⟩ = some (.slice (some ⟨b0, 0, none⟩) n n) := hbb.cell 2 _ rfl
                have cc3 : wr.cell? ⟨qc, 3, none⟩ = some (.slice (some ⟨b1, 0, none⟩) n n) := hbb.cell 3 _ rfl
                clear hbb
                go_wp2_with fail
                clear gc0 gc1 gc2 co cc0 cc1 cc2 cc3 cm fm
                go_roundw
                case rel => exact ⟨k + 1, by omega, by first | rfl | go_num, BC9.out, HB9.out, HM9.out, HR9.out⟩
                case measure => simp [intOf]; omega
            · have fk : decide ((k : Int) < (n : Int)) = false := decide_eq_false (by omega)
              clear HMR
              go_wp2_with fail
              obtain ⟨ln, hln⟩ : ∃ k, (P.lst Y).length = k := ⟨_, rfl⟩
              have HLN := Lib.hid hln
              have hl256 : ln ≤ 256 := by rw [← hln]; exact lst_short _
              clear hln
              go_loopw [17] (fun iv wq => ∃ k : Nat, k ≤ ln ∧ iv = .int .i64 (k : Int) ∧ Box wq qc 32 #[.slice x0 (P.lst X).length k0, .slice x1 (P.lst Y).length k1, .slice (some ⟨b0, 0, none⟩) n n, .slice (some ⟨b1, 0, none⟩) n n] ∧ Below wb.heap.size wb wq ∧ (∃ xs, wq.ownsRow wt.heap.size 3 1 (.slice x1 (P.lst Y).length k1) (P.lst Y).length xs)) (fun iv _ => ln - (intOf iv).toNat)
              case atStart => exact ⟨0, Nat.zero_le _, rfl, BQc.out, HB.out, ⟨_, HRR.out⟩⟩
              case round =>
                obtain ⟨k, hk, rfl, hbc, hbb, ⟨xs, hrr⟩⟩ := hrel
                replace BQc := Lib.hid hbc
                replace HB := Lib.hid hbb
                replace HRR := Lib.hid hrr
                have hk0 : (0 : Int) ≤ (k : Int) := Int.natCast_nonneg _
                clear hbc hbb hrr
                by_cases hlt : k < ln
                · have fk : decide ((k : Int) < (ln : Int)) = true := decide_eq_true (by omega)
                  have hki : (k : Int) < (ln : Int) := by omega
                  obtain ⟨bx, kx, ex_, hlx, hltx, -, hfx⟩ := own_form HRR.out (by rw [HLN.out]; omega)
                  have hrr2 := HRR.out
                  rw [ex_] at hrr2
                  have cm := hrr2.cellAt k (by rw [HLN.out]; omega)
                  obtain ⟨mo, hmo⟩ : ∃ u, wr.cell? ⟨bx, k, none⟩ = some u := ⟨_, cm.trans (List.getElem?_eq_getElem (by rw [hrr2.1, HLN.out]; omega))⟩
                  have fm := hfx k
                  have hst := (hrr2.stored k (.int .i64 99)).1
                  rw [← ex_] at hst
                  have HR9 := Lib.hid hst
                  have hob : (.slice x1 (P.lst Y).length k1 : Value).ownBlock = some bx := by rw [ex_]; rfl
                  have HBX := Lib.hid hob
                  have BC9 := Lib.hid (BQc.out.far (p := ⟨bx, k, none⟩) (fun e => own_box HRR.out BQc.out (by decide) (by rw [hob, e])) (.int .i64 99))
                  have HB9 := Lib.hid (HB.out.setCell (p := ⟨bx, k, none⟩) (by have h2 := HLO.out; show wb.heap.size ≤ bx; omega) (.int .i64 99))
                  have hbc0 := BQc.out.cell 1 _ rfl
                  have hbcx : wr.cell? ⟨qc, 1, none⟩ = some (.slice (some ⟨bx, 0, none⟩) ln kx) := by rw [← HLN.out, ← ex_]; exact hbc0
                  clear cm hst hob hbc0 hrr2 ex_ hlx hltx hfx
                  go_wp2_with fail
                  clear hbcx hmo fm
                  go_roundw
                  case rel => exact ⟨k + 1, by omega, by first | rfl | go_num, BC9.out, HB9.out, ⟨_, HR9.out⟩⟩
                  case measure => simp [intOf]; omega
                · have fk : decide ((k : Int) < (ln : Int)) = false := decide_eq_false (by omega)
                  have hbcx : wr.cell? ⟨qc, 1, none⟩ = some (.slice x1 ln k1) := by rw [← HLN.out]; exact BQc.out.cell 1 _ rfl
                  go_wp2_with fail
                  clear hbcx
                  go_roundw
                  case rel => exact ⟨BQc.out, HB.out, .inr (.inr (by first | rfl | go_num))⟩
                  case measure => simp [intOf]
        · go_wp2_with fail
          go_roundw
          case rel => exact ⟨kt + 1, by omega, by first | rfl | go_num, HB.out⟩
          case measure => simp [intOf]; omega
    · have fkt : decide ((kt : Int) < 2) = false := decide_eq_false (by omega)
      have BQg2 := Lib.hid (BQg.out.keep (grown_of_below HB.out none))
      have BQo2 := Lib.hid (BQo.out.keep (grown_of_below HB.out none))
      replace W := Lib.hid (W.out.trans (HB.out.mono W.out.size))
      have hbb := BQg2.out
      have gc0 : wt.cell? ⟨qg, 0, none⟩ = some (.slice (some ⟨ba, oa, none⟩) n ka) := hbb.cell 0 _ rfl
      have gc1 : wt.cell? ⟨qg, 1, none⟩ = some (.slice (some ⟨bb, ob, none⟩) n kb) := hbb.cell 1 _ rfl
      have gc2 : wt.cell? ⟨qg, 2, none⟩ = some (.slice (some ⟨bc_, oc, none⟩) n kc) := hbb.cell 2 _ rfl
      clear hbb
      have hbb := BQo2.out
      have pc0 : wt.cell? ⟨qo, 0, none⟩ = some (.slice pa n pka) := hbb.cell 0 _ rfl
      have pc1 : wt.cell? ⟨qo, 1, none⟩ = some (.slice pb n pkb) := hbb.cell 1 _ rfl
      have pc2 : wt.cell? ⟨qo, 2, none⟩ = some (.slice pc n pkc) := hbb.cell 2 _ rfl
      clear hbb
      go_wp2_with fail
      clear gc0 gc1 gc2 pc0 pc1 pc2
      refine (samegame_any g g _ _ wt (GO.out.on HB.out) (HV.out.on W.out)).mono ?_
      rintro e w9 ⟨rfl, hb⟩
      rw [decide_eq_true rfl]
      replace W := Lib.hid (W.out.trans (hb.mono W.out.size))
      clear hb
      go_wp2_with fail
      exact bodyPost_ret (v := .bool true) (by simp [results, Tryd.results3, go_sem]) rfl ⟨rfl, W.out⟩

theorem ints_nil (w : World) : Ints w (.slice none 0 0) [] := ⟨none, 0, rfl, by simp, .inl rfl⟩
set_option maxRecDepth 100000 in
set_option maxHeartbeats 8000000 in
theorem regions_wrong (g : P.G) (hok : g.ok = false) (v : Value) (w : World) (hv : GameV w v g) (hT : Tab w) : Calls Tryd.prog 3 #[v] w fun e w' => e = .returned (.bool true) ∧ Below w.heap.size w w' := by
  have HFI := Lib.hid hv.fits
  have HV := Lib.hid hv
  have T := Lib.hid hT
  have HOK := Lib.hid hok
  obtain ⟨a, b, c, rfl, -⟩ := hv
  clear hok hT
  go_enter Tryd.func3, Tryd.ntmps3
  go_wp2_with fail
  have bx0 : Box (w.alloc (.cells #[a, b, c] 25)) (w.heap.size) 25 #[a, b, c] := Box.new w 25 #[a, b, c]
  have hbq : Below w.heap.size w (w.alloc (.cells #[a, b, c] 25)) := (Below.refl _ w).alloc (Nat.le_refl _) _
  have hle0 : w.heap.size ≤ w.heap.size := Nat.le_refl _
  generalize (w.alloc (.cells #[a, b, c] 25)) = w0 at bx0 hbq  ⊢
  have BQg := Lib.hid bx0
  have W := Lib.hid hbq
  have LEg := Lib.hid hle0
  clear hbq hle0 bx0 
  obtain ⟨qg, hqg⟩ : ∃ qg, w.heap.size = qg := ⟨_, rfl⟩
  rw [hqg] at BQg ⊢
  have LEg : Hid (w.heap.size ≤ qg) := Lib.hid (by omega)
  clear hqg
  refine (shown_any w0 (T.out.on W.out)).mono ?_
  rintro e w1 ⟨rfl, hb⟩
  replace BQg := Lib.hid (BQg.out.keep (grown_of_below hb none))
  replace W := Lib.hid (W.out.trans (hb.mono W.out.size))
  clear hb
  have hbb := BQg.out
  have gc0 : w1.cell? ⟨qg, 0, none⟩ = some a := hbb.cell 0 _ rfl
  have gc1 : w1.cell? ⟨qg, 1, none⟩ = some b := hbb.cell 1 _ rfl
  have gc2 : w1.cell? ⟨qg, 2, none⟩ = some c := hbb.cell 2 _ rfl
  clear hbb
  go_wp2_with fail
  clear gc0 gc1 gc2
  refine (is_any g _ _ (HV.out.on W.out)).mono ?_
  rintro e w2 ⟨rfl, hb⟩
  rw [HOK.out]
  replace BQg := Lib.hid (BQg.out.keep (grown_of_below hb none))
  replace W := Lib.hid (W.out.trans (hb.mono W.out.size))
  clear hb
  have hbb := BQg.out
  have gc0 : w2.cell? ⟨qg, 0, none⟩ = some a := hbb.cell 0 _ rfl
  have gc1 : w2.cell? ⟨qg, 1, none⟩ = some b := hbb.cell 1 _ rfl
  have gc2 : w2.cell? ⟨qg, 2, none⟩ = some c := hbb.cell 2 _ rfl
  clear hbb
  go_wp2_with fail
  clear gc0 gc1 gc2
  refine (rcopy_any g _ _ (HV.out.on W.out)).mono ?_
  rintro e w3 ⟨oav, obv, ocv, oL, rfl, ho, hb⟩
  have hgo := ho.game HFI.out
  obtain ⟨pa, pka, pb, pkb, pc, pkc, rfl, rfl, rfl⟩ := ho.forms
  replace BQg := Lib.hid (BQg.out.keep (grown_of_below hb none))
  replace W := Lib.hid (W.out.trans (hb.mono W.out.size))
  have GO := Lib.hid hgo
  clear hb ho hgo
  go_upto_region 4 with (fail)
  have bq : Box (w3.alloc (.cells #[.slice pa g.owner.length pka, .slice pb g.prio.length pkb, .slice pc g.moves.length pkc] 25)) w3.heap.size 25 #[.slice pa g.owner.length pka, .slice pb g.prio.length pkb, .slice pc g.moves.length pkc] := Box.new _ _ _
  have hgq := World.grownBy_alloc w3 (.cells #[.slice pa g.owner.length pka, .slice pb g.prio.length pkb, .slice pc g.moves.length pkc] 25) none
  replace BQg := Lib.hid (BQg.out.keep hgq)
  replace W := Lib.hid (W.out.trans ((below_of_grown hgq).mono W.out.size))
  replace GO := Lib.hid (GO.out.on (below_of_grown hgq))
  generalize (w3.alloc (.cells #[.slice pa g.owner.length pka, .slice pb g.prio.length pkb, .slice pc g.moves.length pkc] 25)) = w4 at bq BQg W GO ⊢
  generalize w3.heap.size = qo at bq ⊢
  have BQo := Lib.hid bq
  clear bq hgq
  have hbb := BQg.out
  have gc0 : w4.cell? ⟨qg, 0, none⟩ = some a := hbb.cell 0 _ rfl
  have gc1 : w4.cell? ⟨qg, 1, none⟩ = some b := hbb.cell 1 _ rfl
  have gc2 : w4.cell? ⟨qg, 2, none⟩ = some c := hbb.cell 2 _ rfl
  clear hbb
  go_wp2_with fail
  clear gc0 gc1 gc2
  refine (solve13_wrong g HOK.out _ w4 (HV.out.on W.out)).mono ?_
  rintro e w5 ⟨rfl, hb⟩
  replace BQg := Lib.hid (BQg.out.keep (grown_of_below hb none))
  replace BQo := Lib.hid (BQo.out.keep (grown_of_below hb none))
  replace GO := Lib.hid (GO.out.on hb)
  replace W := Lib.hid (W.out.trans (hb.mono W.out.size))
  clear hb
  go_upto_region 5 with (fail)
  have bq : Box (w5.alloc (.cells #[.slice none 0 0, .slice none 0 0] 29)) w5.heap.size 29 #[.slice none 0 0, .slice none 0 0] := Box.new _ _ _
  have hgq := World.grownBy_alloc w5 (.cells #[.slice none 0 0, .slice none 0 0] 29) none
  replace BQg := Lib.hid (BQg.out.keep hgq)
  replace BQo := Lib.hid (BQo.out.keep hgq)
  replace GO := Lib.hid (GO.out.on (below_of_grown hgq))
  replace W := Lib.hid (W.out.trans ((below_of_grown hgq).mono W.out.size))
  generalize (w5.alloc (.cells #[.slice none 0 0, .slice none 0 0] 29)) = wb at bq BQg BQo GO W ⊢
  generalize w5.heap.size = qw at bq ⊢
  have BQw := Lib.hid bq
  clear bq hgq
  go_wp2_with fail
  go_loopw [7] (fun tv wq => ∃ k : Nat, k ≤ 2 ∧ tv = .int .i64 (k : Int) ∧ Below wb.heap.size wb wq) (fun tv _ => 2 - (intOf tv).toNat)
  case atStart => exact ⟨0, by omega, rfl, Below.refl _ _⟩
  case round =>
    obtain ⟨kt, hkt, rfl, hbt⟩ := hrel
    obtain ⟨wt, hwt⟩ : ∃ wt : World, wt = wr := ⟨_, rfl⟩
    rw [← hwt] at hbt ⊢
    have HB := Lib.hid hbt
    have hkt0 : (0 : Int) ≤ (kt : Int) := Int.natCast_nonneg _
    clear hbt hwt
    by_cases hlt2 : kt < 2
    · have fkt : decide ((kt : Int) < 2) = true := decide_eq_true (by omega)
      have BQo2 := Lib.hid (BQo.out.keep (grown_of_below HB.out none))
      have BQw2 := Lib.hid (BQw.out.keep (grown_of_below HB.out none))
      have hbb := BQo2.out
      have pc0 : wt.cell? ⟨qo, 0, none⟩ = some (.slice pa g.owner.length pka) := hbb.cell 0 _ rfl
      have pc1 : wt.cell? ⟨qo, 1, none⟩ = some (.slice pb g.prio.length pkb) := hbb.cell 1 _ rfl
      have pc2 : wt.cell? ⟨qo, 2, none⟩ = some (.slice pc g.moves.length pkc) := hbb.cell 2 _ rfl
      clear hbb
      go_wp2_with fail
      clear pc0 pc1 pc2
      refine (decomp_wrong g HOK.out _ wt (GO.out.on HB.out)).mono ?_
      rintro e w1 ⟨rfl, hb⟩
      replace HB := Lib.hid (HB.out.trans (hb.mono HB.out.size))
      clear hb
      go_upto_region 9 with (fail)
      have hal := World.grownBy_alloc w1 (.cells #[.slice none 0 0, .slice none 0 0, .slice none 0 0, .slice none 0 0] 32) none
      have bq : Box (w1.alloc (.cells #[.slice none 0 0, .slice none 0 0, .slice none 0 0, .slice none 0 0] 32)) w1.heap.size 32 #[.slice none 0 0, .slice none 0 0, .slice none 0 0, .slice none 0 0] := Box.new _ _ _
      replace HB := Lib.hid (HB.out.trans ((below_of_grown hal).mono HB.out.size))
      clear hal
      generalize (w1.alloc (.cells #[.slice none 0 0, .slice none 0 0, .slice none 0 0, .slice none 0 0] 32)) = w2 at bq HB ⊢
      generalize w1.heap.size = qc at bq ⊢
      have BQc := Lib.hid bq
      clear bq BQo2 BQw2
      have BQw2 := Lib.hid (BQw.out.keep (grown_of_below HB.out none))
      have hbb := BQc.out
      have cc0 : w2.cell? ⟨qc, 0, none⟩ = some (.slice none 0 0) := hbb.cell 0 _ rfl
      have cc1 : w2.cell? ⟨qc, 1, none⟩ = some (.slice none 0 0) := hbb.cell 1 _ rfl
      have cc2 : w2.cell? ⟨qc, 2, none⟩ = some (.slice none 0 0) := hbb.cell 2 _ rfl
      have cc3 : w2.cell? ⟨qc, 3, none⟩ = some (.slice none 0 0) := hbb.cell 3 _ rfl
      clear hbb
      have hbb := BQw2.out
      have tc0 : w2.cell? ⟨qw, 0, none⟩ = some (.slice none 0 0) := hbb.cell 0 _ rfl
      have tc1 : w2.cell? ⟨qw, 1, none⟩ = some (.slice none 0 0) := hbb.cell 1 _ rfl
      clear hbb
      go_wp2_with fail
      clear cc0 cc1 cc2 cc3 tc0 tc1
      refine (alike_any [] [] [] [] _ _ _ _ w2 (ints_nil w2) (ints_nil w2) (ints_nil w2) (ints_nil w2)).mono ?_
      rintro e w3 ⟨rfl, hb⟩
      rw [show (decide (([] : List Int) = []) && decide (([] : List Int) = [])) = true from rfl]
      replace HB := Lib.hid (HB.out.trans (hb.mono HB.out.size))
      replace BQc := Lib.hid (BQc.out.keep (grown_of_below hb none))
      clear hb BQw2
      have hbb := BQc.out
      have cc0 : w3.cell? ⟨qc, 0, none⟩ = some (.slice none 0 0) := hbb.cell 0 _ rfl
      have cc1 : w3.cell? ⟨qc, 1, none⟩ = some (.slice none 0 0) := hbb.cell 1 _ rfl
      have cc2 : w3.cell? ⟨qc, 2, none⟩ = some (.slice none 0 0) := hbb.cell 2 _ rfl
      have cc3 : w3.cell? ⟨qc, 3, none⟩ = some (.slice none 0 0) := hbb.cell 3 _ rfl
      clear hbb
      go_wp2_with fail
      clear cc0 cc1 cc2 cc3
      go_roundw
      case rel => exact ⟨kt + 1, by omega, by first | rfl | go_num, HB.out⟩
      case measure => simp [intOf]; omega
    · have fkt : decide ((kt : Int) < 2) = false := decide_eq_false (by omega)
      have BQg2 := Lib.hid (BQg.out.keep (grown_of_below HB.out none))
      have BQo2 := Lib.hid (BQo.out.keep (grown_of_below HB.out none))
      replace W := Lib.hid (W.out.trans (HB.out.mono W.out.size))
      have hbb := BQg2.out
      have gc0 : wt.cell? ⟨qg, 0, none⟩ = some a := hbb.cell 0 _ rfl
      have gc1 : wt.cell? ⟨qg, 1, none⟩ = some b := hbb.cell 1 _ rfl
      have gc2 : wt.cell? ⟨qg, 2, none⟩ = some c := hbb.cell 2 _ rfl
      clear hbb
      have hbb := BQo2.out
      have pc0 : wt.cell? ⟨qo, 0, none⟩ = some (.slice pa g.owner.length pka) := hbb.cell 0 _ rfl
      have pc1 : wt.cell? ⟨qo, 1, none⟩ = some (.slice pb g.prio.length pkb) := hbb.cell 1 _ rfl
      have pc2 : wt.cell? ⟨qo, 2, none⟩ = some (.slice pc g.moves.length pkc) := hbb.cell 2 _ rfl
      clear hbb
      go_wp2_with fail
      clear gc0 gc1 gc2 pc0 pc1 pc2
      refine (samegame_any g g _ _ wt (GO.out.on HB.out) (HV.out.on W.out)).mono ?_
      rintro e w9 ⟨rfl, hb⟩
      rw [decide_eq_true rfl]
      replace W := Lib.hid (W.out.trans (hb.mono W.out.size))
      clear hb
      go_wp2_with fail
      exact bodyPost_ret (v := .bool true) (by simp [results, Tryd.results3, go_sem]) rfl ⟨rfl, W.out⟩
theorem regions_law (g : P.G) (v : Value) (w : World) (hv : GameV w v g) (hT : Tab w) : Calls Tryd.prog 3 #[v] w fun e w' => e = .returned (.bool true) ∧ Below w.heap.size w w' := by
  cases hok : g.ok
  · exact regions_wrong g hok v w hv hT
  · exact regions_right g ((P.G.ok_iff g).1 hok) v w hv hT
end W
end Go.Proofs.YtpjmboonaciplaaDoor
