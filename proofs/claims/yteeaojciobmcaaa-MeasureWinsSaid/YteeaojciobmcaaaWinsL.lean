/- MeasureWins: the walk. -/
import Derived.Test.YteeaojciobmcaaaHigher
import Derived.Test.YteeaojciobmcaaaPar
import Derived.Test.YteeaojciobmcaaaK13
import Derived.StillTailTactics
import Derived.Deep.Cut
import Derived.Lib.Hide
import Derived.Deep.QuietTactic
import Derived.BigQuiet
namespace Go.Proofs.Yteeaojciobmcaaa
open Go.RowKit
namespace W

theorem lstB_count {x : Nat → Bool} {n k : Nat} (hk : k < n) : 0 < (lstB x n).count (k : Int) ↔ x k = true := by
  rw [List.count_pos_iff]
  unfold lstB
  rw [List.mem_map]
  constructor
  · rintro ⟨i, h1, h2⟩
    have h3 : i = k := by omega
    rw [← h3]
    exact (List.mem_filter.1 h1).2
  · exact fun h => ⟨k, List.mem_filter.2 ⟨List.mem_range.2 hk, h⟩, rfl⟩
theorem evF_mem {l : List P.Tup} {n i : Nat} : (i : Int) ∈ evF l n ↔ i < n ∧ (l.getD i .zero).top = false := by
  unfold evF
  rw [List.mem_map]
  constructor
  · rintro ⟨j, h1, h2⟩
    have h3 : j = i := by omega
    have h4 := List.mem_filter.1 h1
    rw [h3] at h4
    exact ⟨List.mem_range.1 h4.1, by simpa using h4.2⟩
  · exact fun h => ⟨i, List.mem_filter.2 ⟨List.mem_range.2 h.1, by rw [h.2]; rfl⟩, rfl⟩
theorem evF_in (l : List P.Tup) (n : Nat) : ∀ x ∈ evF l n, 0 ≤ x ∧ x < (n : Int) := by
  intro x hx
  unfold evF at hx
  obtain ⟨j, h1, rfl⟩ := List.mem_map.1 hx
  have := List.mem_range.1 (List.mem_filter.1 h1).1
  omega
theorem evM_at {g : P.G} {l : List P.Tup} (hr : g.Right) (h : P.IsSol g l) {i : Nat} (hi : i < g.owner.length) : (evM g l).getD i 0 = evT g l i := by
  have hl : l.length = g.owner.length := h.1.1
  have hf : fits g l = true := by unfold fits; rw [(P.G.ok_iff g).2 hr, hl, decide_eq_true rfl]; rfl
  unfold evM
  rw [if_pos hf, List.getD_eq_getElem?_getD, List.getElem?_map, List.getElem?_range (by omega)]
  rfl
theorem wins_sol {g : P.G} (hr : g.Right) {n : Nat} (hn : g.owner.length = n) {l : List P.Tup} (h : P.IsSol g l) : P.WinsIn g (· < n) 0 (fun i => (evM g l).getD i 0) (fun i => (i : Int) ∈ evF l n) := by
  subst hn
  refine ((P.sol_wins hr h).congr fun i hi ho => ?_).iff (fun _ => Iff.rfl) fun i => (evF_mem (l := l)).symm
  show (evM g l).getD i 0 = _
  rw [evM_at hr h hi.1]
  unfold evT
  rw [if_neg (by rw [hi.2]; simp), if_pos ho]
theorem sol_x {g : P.G} (hr : g.Right) {l : List P.Tup} (h : P.IsSol g l) {x y : Nat → Bool} (hs : P.SolB g (fun _ => true) x y) {i : Nat} (hi : i < g.owner.length) : (l.getD i .zero).top = false ↔ x i = true := by
  have hS : P.Solved g (· < g.owner.length) (P.inF g x) (P.inF g y) := hs.iff (fun i => ⟨fun h => h.1, fun h => ⟨h, rfl⟩⟩) (fun _ => Iff.rfl) fun _ => Iff.rfl
  rw [P.sol_tells hr h hS i hi]
  exact ⟨fun h => h.2, fun h => ⟨hi, h⟩⟩
theorem even_same {g : P.G} (hr : g.Right) {n : Nat} (hn : g.owner.length = n) {l : List P.Tup} (h : P.IsSol g l) {x y : Nat → Bool} (hs : P.SolB g (fun _ => true) x y) : evF l n = lstB x n := by
  subst hn
  unfold evF lstB
  congr 1
  apply List.filter_congr
  intro i hi
  have := sol_x hr h hs (List.mem_range.1 hi)
  cases ht : (l.getD i .zero).top <;> cases hx : x i <;> simp_all
theorem own_says {g : P.G} (hr : g.Right) {n : Nat} {l : List P.Tup} (h : P.IsSol g l) (hn : g.owner.length = n) {x y : Nat → Bool} (hs : P.SolB g (fun _ => true) x y) {k : Nat} (hk : k < n) : 0 ≤ (evM g l).getD k 0 ↔ x k = true ∧ g.owner.getD k 0 = 0 := by
  subst hn
  rw [evM_at hr h hk, ← sol_x hr h hs hk]
  unfold evT
  by_cases ht : (l.getD k .zero).top = true
  · rw [if_pos ht, ht]
    constructor
    · intro h; omega
    · rintro ⟨h, -⟩; cases h
  · rw [if_neg ht]
    by_cases ho : g.owner.getD k 0 = 0
    · rw [if_pos ho]
      refine ⟨fun _ => ⟨by simpa using ht, ho⟩, fun _ => ?_⟩
      obtain ⟨j, h1, -⟩ := (P.sol_wins hr h).own k ⟨hk, by simpa using ht⟩ ho
      rw [← h1]
      exact Int.natCast_nonneg _
    · rw [if_neg ho]
      constructor
      · intro h; omega
      · rintro ⟨-, h⟩; exact absurd h ho
set_option maxRecDepth 100000 in
set_option maxHeartbeats 8000000 in
theorem wins_law (g : P.G) (v : Value) (w : World) (hv : GameV w v g) : Calls Try.prog 8 #[v] w fun e w' => e = .returned (.bool true) ∧ Below w.heap.size w w' := by
  have HFI := Lib.hid hv.fits
  have HV := Lib.hid hv
  cases hok : g.ok
  · obtain ⟨a, b, c, rfl, -⟩ := hv
    go_enter Try.func8, Try.ntmps8
    go_wp2_with fail
    have bx0 : Box (w.alloc (.cells #[a, b, c] 33)) (w.heap.size) 33 #[a, b, c] := Box.new w 33 #[a, b, c]
    have hbq : Below w.heap.size w (w.alloc (.cells #[a, b, c] 33)) := (Below.refl _ w).alloc (Nat.le_refl _) _
    have hle0 : w.heap.size ≤ w.heap.size := Nat.le_refl _
    generalize (w.alloc (.cells #[a, b, c] 33)) = w0 at bx0 hbq  ⊢
    have BQg := Lib.hid bx0
    have W := Lib.hid hbq
    have LEg := Lib.hid hle0
    clear hbq hle0 bx0 
    obtain ⟨qg, hqg⟩ : ∃ qg, w.heap.size = qg := ⟨_, rfl⟩
    rw [hqg] at BQg ⊢
    have LEg : Hid (w.heap.size ≤ qg) := Lib.hid (by omega)
    clear hqg
    refine (shown_any w0).mono ?_
    rintro e w1 ⟨rfl, hb⟩
    replace BQg := Lib.hid (BQg.out.keep (grown_of_below hb none))
    replace W := Lib.hid (W.out.trans (hb.mono W.out.size))
    clear hb
    have hbb := BQg.out
    have gc0 : w1.cell? ⟨qg, 0, none⟩ = some a := hbb.cell 0 _ rfl
    have gc1 : w1.cell? ⟨qg, 1, none⟩ = some b := hbb.cell 1 _ rfl
    have gc2 : w1.cell? ⟨qg, 2, none⟩ = some c := hbb.cell 2 _ rfl
    clear hbb
    go_wp2_with fail
    clear gc0 gc1 gc2
    refine (is_any g _ _ (HV.out.on W.out)).mono ?_
    rintro e w2 ⟨rfl, hb⟩
    rw [hok]
    replace BQg := Lib.hid (BQg.out.keep (grown_of_below hb none))
    replace W := Lib.hid (W.out.trans (hb.mono W.out.size))
    clear hb hok
    have hbb := BQg.out
    have gc0 : w2.cell? ⟨qg, 0, none⟩ = some a := hbb.cell 0 _ rfl
    have gc1 : w2.cell? ⟨qg, 1, none⟩ = some b := hbb.cell 1 _ rfl
    have gc2 : w2.cell? ⟨qg, 2, none⟩ = some c := hbb.cell 2 _ rfl
    clear hbb
    go_wp2_with fail
    clear gc0 gc1 gc2
    refine (heavy_any g _ w2 (HV.out.on W.out)).mono ?_
    rintro e w3 ⟨lg, rfl, hb⟩
    replace BQg := Lib.hid (BQg.out.keep (grown_of_below hb none))
    replace W := Lib.hid (W.out.trans (hb.mono W.out.size))
    clear hb
    go_wp2_with fail
    exact bodyPost_ret (v := .bool true) (by simp [results, Try.results8, go_sem]) rfl ⟨rfl, W.out⟩
  · have hr := (P.G.ok_iff g).1 hok
    have hop := hr.prio
    have hmp := hr.moves
    have hmany := hr.many
    have h0 := hr.pos
    obtain ⟨n, hn⟩ : ∃ n, g.owner.length = n := ⟨_, rfl⟩
    rw [hn] at hop hmp hmany h0
    obtain ⟨ba, oa, ka, bb, ob, kb, bc_, oc, kc, rfl, hca, -, -⟩ := hv.open_ hn hop hmp h0
    have HCA := Lib.hid hca
    have HR := Lib.hid hr
    have HN := Lib.hid hn
    have HOK := Lib.hid hok
    clear hok hr hop hmp hn hca
    go_enter Try.func8, Try.ntmps8
    go_wp2_with fail
    have bx0 : Box (w.alloc (.cells #[.slice (some ⟨ba, oa, none⟩) n ka, .slice (some ⟨bb, ob, none⟩) n kb, .slice (some ⟨bc_, oc, none⟩) n kc] 33)) (w.heap.size) 33 #[.slice (some ⟨ba, oa, none⟩) n ka, .slice (some ⟨bb, ob, none⟩) n kb, .slice (some ⟨bc_, oc, none⟩) n kc] := Box.new w 33 #[.slice (some ⟨ba, oa, none⟩) n ka, .slice (some ⟨bb, ob, none⟩) n kb, .slice (some ⟨bc_, oc, none⟩) n kc]
    have hbq : Below w.heap.size w (w.alloc (.cells #[.slice (some ⟨ba, oa, none⟩) n ka, .slice (some ⟨bb, ob, none⟩) n kb, .slice (some ⟨bc_, oc, none⟩) n kc] 33)) := (Below.refl _ w).alloc (Nat.le_refl _) _
    have hle0 : w.heap.size ≤ w.heap.size := Nat.le_refl _
    generalize (w.alloc (.cells #[.slice (some ⟨ba, oa, none⟩) n ka, .slice (some ⟨bb, ob, none⟩) n kb, .slice (some ⟨bc_, oc, none⟩) n kc] 33)) = w0 at bx0 hbq  ⊢
    have BQg := Lib.hid bx0
    have W := Lib.hid hbq
    have LEg := Lib.hid hle0
    clear hbq hle0 bx0 
    obtain ⟨qg, hqg⟩ : ∃ qg, w.heap.size = qg := ⟨_, rfl⟩
    rw [hqg] at BQg ⊢
    have LEg : Hid (w.heap.size ≤ qg) := Lib.hid (by omega)
    clear hqg
    refine (shown_any w0).mono ?_
    rintro e w1 ⟨rfl, hb⟩
    replace BQg := Lib.hid (BQg.out.keep (grown_of_below hb none))
    replace W := Lib.hid (W.out.trans (hb.mono W.out.size))
    clear hb
    have hbb := BQg.out
    have gc0 : w1.cell? ⟨qg, 0, none⟩ = some (.slice (some ⟨ba, oa, none⟩) n ka) := hbb.cell 0 _ rfl
    have gc1 : w1.cell? ⟨qg, 1, none⟩ = some (.slice (some ⟨bb, ob, none⟩) n kb) := hbb.cell 1 _ rfl
    have gc2 : w1.cell? ⟨qg, 2, none⟩ = some (.slice (some ⟨bc_, oc, none⟩) n kc) := hbb.cell 2 _ rfl
    clear hbb
    go_wp2_with fail
    clear gc0 gc1 gc2
    refine (is_any g _ _ (HV.out.on W.out)).mono ?_
    rintro e w2 ⟨rfl, hb⟩
    rw [HOK.out]
    replace BQg := Lib.hid (BQg.out.keep (grown_of_below hb none))
    replace W := Lib.hid (W.out.trans (hb.mono W.out.size))
    clear hb
    have hbb := BQg.out
    have gc0 : w2.cell? ⟨qg, 0, none⟩ = some (.slice (some ⟨ba, oa, none⟩) n ka) := hbb.cell 0 _ rfl
    have gc1 : w2.cell? ⟨qg, 1, none⟩ = some (.slice (some ⟨bb, ob, none⟩) n kb) := hbb.cell 1 _ rfl
    have gc2 : w2.cell? ⟨qg, 2, none⟩ = some (.slice (some ⟨bc_, oc, none⟩) n kc) := hbb.cell 2 _ rfl
    clear hbb
    go_wp2_with fail
    clear gc0 gc1 gc2
    refine (heavy_any g _ w2 (HV.out.on W.out)).mono ?_
    rintro e w3 ⟨lg, rfl, hb⟩
    replace BQg := Lib.hid (BQg.out.keep (grown_of_below hb none))
    replace W := Lib.hid (W.out.trans (hb.mono W.out.size))
    clear hb
    cases lg
    · simp only []
      go_upto_region 6 with (fail)
      refine Rt.wp_region_tail 1 (fun idx => match idx with | 0 => (fun v _ _ => v = .agg #[.slice (some ⟨ba, oa, none⟩) n ka, .slice (some ⟨bb, ob, none⟩) n kb, .slice (some ⟨bc_, oc, none⟩) n kc]) | 1 => (fun v _ _ => v = .agg #[.slice (some ⟨ba, oa, none⟩) n ka, .slice (some ⟨bb, ob, none⟩) n kb, .slice (some ⟨bc_, oc, none⟩) n kc]) | 2 => (fun v _ w' => ∃ pt, v = .slice (some ⟨pt, 0, none⟩) n n ∧ P.IsSol g (solOf g) ∧ Box w' pt 26 (flatT (solOf g))) | 3 => (fun v _ w' => EvV g (solOf g) w3.heap.size v w') | 4 => (fun v ds w' => v = ds.getD 0 undef ∧ EvV g (solOf g) w3.heap.size v w') | 5 => (fun v ds _ => v = tupAt_ (ds.getD 0 undef) 0) | 6 => (fun v ds _ => v = tupAt_ (ds.getD 0 undef) 1) | 7 => (fun v ds _ => v = ds.getD 0 undef) | _ => fun _ _ _ => True) (fun _ _ _ _ => True) (Rk.allK) 99 (by kernel_rfl) (by rfl) (by kernel_rfl) (by rfl) ?_ ?_ ?_ ?_
      · refine ⟨?_, ?_, ?_, ?_, ?_, ?_, ?_, ?_, trivial⟩
        · intro A w' K vals h hn hT hgk hK0
          have r0 : A.tmps[1]?.getD undef = .pointer (some ⟨qg, 0, none⟩) := Rg.slot h.1
          have bs := BQg.out.keep (Rk.grown_of hgk)
          have cc0 : w'.cell? ⟨qg, 0, none⟩ = some (.slice (some ⟨ba, oa, none⟩) n ka) := bs.cell 0 _ rfl
          have cc1 : w'.cell? ⟨qg, 1, none⟩ = some (.slice (some ⟨bb, ob, none⟩) n kb) := bs.cell 1 _ rfl
          have cc2 : w'.cell? ⟨qg, 2, none⟩ = some (.slice (some ⟨bc_, oc, none⟩) n kc) := bs.cell 2 _ rfl
          clear h hn hT hgk bs
          simp [Oper.wp, execOp, go_sem, r0, cc0, cc1, cc2]
          exact hK0 _ _ (Rk.Keeps.refl _ _) rfl trivial
        · intro A w' K vals h hn hT hgk hK0
          have r0 : A.tmps[1]?.getD undef = .pointer (some ⟨qg, 0, none⟩) := Rg.slot h.1
          have bs := BQg.out.keep (Rk.grown_of hgk)
          have cc0 : w'.cell? ⟨qg, 0, none⟩ = some (.slice (some ⟨ba, oa, none⟩) n ka) := bs.cell 0 _ rfl
          have cc1 : w'.cell? ⟨qg, 1, none⟩ = some (.slice (some ⟨bb, ob, none⟩) n kb) := bs.cell 1 _ rfl
          have cc2 : w'.cell? ⟨qg, 2, none⟩ = some (.slice (some ⟨bc_, oc, none⟩) n kc) := bs.cell 2 _ rfl
          clear h hn hT hgk bs
          simp [Oper.wp, execOp, go_sem, r0, cc0, cc1, cc2]
          exact hK0 _ _ (Rk.Keeps.refl _ _) rfl trivial
        · intro A w' K vals h hn hT hgk hK0
          have r0 : A.tmps[29]?.getD undef = vals 1 := Rg.slot h.2.1
          have s0 : vals 1 = .agg #[.slice (some ⟨ba, oa, none⟩) n ka, .slice (some ⟨bb, ob, none⟩) n kb, .slice (some ⟨bc_, oc, none⟩) n kc] := hn.1
          have hb := below_of_grown (Rk.grown_of hgk)
          clear h hn hT hgk
          simp [Oper.wp, go_sem, r0, s0]
          refine (solve_any g HR.out _ w' (HV.out.on (W.out.trans (hb.mono W.out.size)))).mono ?_
          rintro e w'' ⟨u, rfl, ⟨p, s, rfl, hs, hlo, hbx⟩, hb⟩
          obtain rfl := is_solOf hs
          exact hK0 _ _ (Rk.keep_of (grown_of_below hb _)) ⟨p, by rw [HN.out], hs, hbx⟩ trivial
        · intro A w' K vals h hn hT hgk hK0
          have r0 : A.tmps[28]?.getD undef = vals 0 := Rg.slot h.2.1
          have r1 : A.tmps[30]?.getD undef = vals 2 := Rg.slot h.2.2.1
          have s0 : vals 0 = .agg #[.slice (some ⟨ba, oa, none⟩) n ka, .slice (some ⟨bb, ob, none⟩) n kb, .slice (some ⟨bc_, oc, none⟩) n kc] := hn.1
          obtain ⟨pt, s1, hsl, hbx⟩ : ∃ pt, vals 2 = .slice (some ⟨pt, 0, none⟩) n n ∧ P.IsSol g (solOf g) ∧ Box w' pt 26 (flatT (solOf g)) := hn.2.1
          have hb := below_of_grown (Rk.grown_of hgk)
          have hsz := hgk.size
          have hln : (solOf g).length = n := by rw [hsl.1.1]; exact HN.out
          have hot := hbx.tups (by rw [hln]; omega) n
          rw [hln] at hot
          clear h hn hT hgk hbx
          simp [Oper.wp, go_sem, r0, r1, s0, s1]
          refine (even_any g (solOf g) (sol_low hsl.1) _ _ w' (HV.out.on (W.out.trans (hb.mono W.out.size))) hot).mono ?_
          rintro e w'' ⟨v1, v2, rfl, h1, h2, hb⟩
          exact hK0 _ _ (Rk.keep_of (grown_of_below hb _)) ⟨v1, v2, rfl, own_more h1 hsz, own_more h2 hsz⟩ trivial
        · intro A w' K vals h hn hT hgk hK0
          have r0 : A.tmps[31]?.getD undef = vals 3 := Rg.slot h.1
          have n3 : EvV g (solOf g) w3.heap.size (vals 3) w' := hn.1
          clear h hn hT hgk
          simp [Oper.wp, execOp, go_sem, r0]
          exact hK0 _ _ (Rk.Keeps.refl _ _) ⟨rfl, n3⟩ trivial
        · intro A w' K vals h hn hT hgk hK0
          have r0 : A.tmps[27]?.getD undef = vals 4 := Rg.slot h.1
          obtain ⟨v1, v2, hv, -⟩ : EvV g (solOf g) w3.heap.size (vals 4) w' := hn.1.2
          clear h hn hT hgk
          simp [Oper.wp, execOp, go_sem, r0, hv]
          refine hK0 _ _ (Rk.Keeps.refl _ _) ?_ trivial
          show _ = tupAt_ (vals 4) 0
          rw [hv]
          rfl
        · intro A w' K vals h hn hT hgk hK0
          have r0 : A.tmps[27]?.getD undef = vals 4 := Rg.slot h.1
          obtain ⟨v1, v2, hv, -⟩ : EvV g (solOf g) w3.heap.size (vals 4) w' := hn.1.2
          clear h hn hT hgk
          simp [Oper.wp, execOp, go_sem, r0, hv]
          refine hK0 _ _ (Rk.Keeps.refl _ _) ?_ trivial
          show _ = tupAt_ (vals 4) 1
          rw [hv]
          rfl
        · intro A w' K vals h hn hT hgk hK0
          have r0 : A.tmps[32]?.getD undef = vals 5 := Rg.slot h.1
          clear h hn hT hgk
          simp [Oper.wp, execOp, go_sem, r0]
          exact hK0 _ _ (Rk.Keeps.refl _ _) rfl trivial
      · refine ⟨?_, ?_, ?_, ?_, ?_, ?_, ?_, ?_, trivial⟩
        · exact fun _ _ _ _ _ _ h => h
        · exact fun _ _ _ _ _ _ h => h
        · exact fun _ _ _ _ _ h ⟨pt, h1, h2, h3⟩ => ⟨pt, h1, h2, h3.keep (Rk.grown_of h)⟩
        · exact fun _ _ _ _ _ h hu => hu.grown (Rk.grown_of h)
        · exact fun _ _ _ _ _ h hu => ⟨hu.1, hu.2.grown (Rk.grown_of h)⟩
        · exact fun _ _ _ _ _ _ h => h
        · exact fun _ _ _ _ _ _ h => h
        · exact fun _ _ _ _ _ _ h => h
      · exact fun _ _ _ _ _ _ h => h
      · intro vals w8 G hgk hS hG
        obtain ⟨-, -, hslp, -⟩ : ∃ pt, vals 2 = .slice (some ⟨pt, 0, none⟩) n n ∧ P.IsSol g (solOf g) ∧ Box w8 pt 26 (flatT (solOf g)) := hS.2.2.1
        obtain ⟨v1, v2, s4, ho1, ho2⟩ : EvV g (solOf g) w3.heap.size (vals 4) w8 := hS.2.2.2.2.1.2
        have s5 : vals 5 = tupAt_ (vals 4) 0 := hS.2.2.2.2.2.1
        have s6 : vals 6 = tupAt_ (vals 4) 1 := hS.2.2.2.2.2.2.1
        have s7 : vals 7 = vals 5 := hS.2.2.2.2.2.2.2.1
        clear hS
        rw [s4] at s5 s6
        replace s5 : vals 5 = v1 := s5
        replace s6 : vals 6 = v2 := s6
        rw [s5] at s7
        obtain ⟨hl1, hl2⟩ := ev_sol hslp (HR.out) HN.out
        obtain ⟨x1p, k1p, rfl, -⟩ := own_at ho1
        obtain ⟨x2p, k2p, rfl, -⟩ := own_at ho2
        have hi1 := ho1.ints (by rw [hl1]; exact Nat.le_trans (evF_len _ _) (by omega))
        rw [hl1] at hi1 s5 s7
        rw [hl2] at s6
        have Ip := Lib.hid hi1
        have HEM := Lib.hid hl2
        have hi2 := ho2.ints (by rw [hl2]; omega)
        rw [hl2] at hi2
        have IM := Lib.hid hi2
        have HSLp := Lib.hid hslp
        have hb := below_of_grown (Rk.grown_of hgk)
        replace BQg := Lib.hid (BQg.out.keep (grown_of_below hb none))
        replace W := Lib.hid (W.out.trans (hb.mono W.out.size))
        clear hi2
        clear hb hgk ho1 ho2 hi1 hl1 hl2 hslp
        refine hG ?_
        clear hG
        simp only [List.take, List.drop, List.length, Nat.reduceSub, Nat.reduceAdd, Rg.putAll, Act.put, List.setIfInBounds_toArray, List.set_cons_succ, List.set_cons_zero, s6, s7]
        clear s4 s5 s6 s7
        have hbb := BQg.out
        have gc0 : w8.cell? ⟨qg, 0, none⟩ = some (.slice (some ⟨ba, oa, none⟩) n ka) := hbb.cell 0 _ rfl
        have gc1 : w8.cell? ⟨qg, 1, none⟩ = some (.slice (some ⟨bb, ob, none⟩) n kb) := hbb.cell 1 _ rfl
        have gc2 : w8.cell? ⟨qg, 2, none⟩ = some (.slice (some ⟨bc_, oc, none⟩) n kc) := hbb.cell 2 _ rfl
        clear hbb
        go_wp2_with fail
        clear gc0 gc1 gc2
        refine (solve13_any g HR.out n HN.out _ w8 (HV.out.on W.out)).mono ?_
        rintro e w9 ⟨u1, u2, x, y, rfl, ho1, ho2, hso, hb⟩
        obtain ⟨xa, kxa, rfl, -⟩ := own_at ho1
        obtain ⟨ya, kya, rfl, -⟩ := own_at ho2
        have HSO := Lib.hid hso
        have IX := Lib.hid (ho1.ints (Nat.le_trans (lstB_len x n) (by omega)))
        replace BQg := Lib.hid (BQg.out.keep (grown_of_below hb none))
        replace Ip := Lib.hid (Ip.out.on hb)
        replace IM := Lib.hid (IM.out.on hb)
        replace W := Lib.hid (W.out.trans (hb.mono W.out.size))
        clear hb ho1 ho2 hso
        go_upto_region 8 with (fail)
        have bq : Box (w9.alloc (.cells #[.slice xa (lstB x n).length kxa, .slice ya (lstB y n).length kya] 54)) w9.heap.size 54 #[.slice xa (lstB x n).length kxa, .slice ya (lstB y n).length kya] := Box.new _ _ _
        have hgq := World.grownBy_alloc w9 (.cells #[.slice xa (lstB x n).length kxa, .slice ya (lstB y n).length kya] 54) none
        replace BQg := Lib.hid (BQg.out.keep hgq)
        replace Ip := Lib.hid (Ip.out.on (below_of_grown hgq))
        replace IM := Lib.hid (IM.out.on (below_of_grown hgq))
        replace IX := Lib.hid (IX.out.on (below_of_grown hgq))
        replace W := Lib.hid (W.out.trans ((below_of_grown hgq).mono W.out.size))
        generalize (w9.alloc (.cells #[.slice xa (lstB x n).length kxa, .slice ya (lstB y n).length kya] 54)) = wa at bq BQg Ip IM IX W ⊢
        generalize w9.heap.size = q8 at bq ⊢
        have BQ8 := Lib.hid bq
        clear bq hgq
        have hbb := BQ8.out
        have tc0 : wa.cell? ⟨q8, 0, none⟩ = some (.slice xa (lstB x n).length kxa) := hbb.cell 0 _ rfl
        have tc1 : wa.cell? ⟨q8, 1, none⟩ = some (.slice ya (lstB y n).length kya) := hbb.cell 1 _ rfl
        clear hbb
        go_wp2_with fail
        clear tc0 tc1
        refine (sameints_any _ _ _ _ wa Ip.out IX.out).mono ?_
        rintro e wc ⟨rfl, hb⟩
        rw [decide_eq_true (even_same HR.out HN.out HSLp.out HSO.out)]
        replace BQg := Lib.hid (BQg.out.keep (grown_of_below hb none))
        replace BQ8 := Lib.hid (BQ8.out.keep (grown_of_below hb none))
        replace Ip := Lib.hid (Ip.out.on hb)
        replace IM := Lib.hid (IM.out.on hb)
        replace IX := Lib.hid (IX.out.on hb)
        replace W := Lib.hid (W.out.trans (hb.mono W.out.size))
        clear hb
        obtain ⟨am, km2, em, -, hm2⟩ := IM.out
        obtain ⟨bM, oM, rfl, hbM, hcM⟩ := hm2.resolve_left (fun e => by have := HEM.out; rw [e] at this; simp at this; omega)
        injection em with e1 e2 e3
        subst e1
        clear e2 e3
        rw [HEM.out] at hcM
        have HBM := Lib.hid hbM
        have HCM := Lib.hid hcM
        clear hm2 hbM hcM
        have hbb := BQg.out
        have gc0 : wc.cell? ⟨qg, 0, none⟩ = some (.slice (some ⟨ba, oa, none⟩) n ka) := hbb.cell 0 _ rfl
        have gc1 : wc.cell? ⟨qg, 1, none⟩ = some (.slice (some ⟨bb, ob, none⟩) n kb) := hbb.cell 1 _ rfl
        have gc2 : wc.cell? ⟨qg, 2, none⟩ = some (.slice (some ⟨bc_, oc, none⟩) n kc) := hbb.cell 2 _ rfl
        clear hbb
        go_wp2_with fail
        clear gc0 gc1 gc2
        go_loopw [10] (fun i wq => ∃ k : Nat, k ≤ n ∧ i = .int .i64 (k : Int) ∧ Below wc.heap.size wc wq ∧ Box wq q8 54 #[.slice xa (lstB x n).length kxa, .slice ya (lstB y n).length kya] ∧ Box wq qg 33 #[.slice (some ⟨ba, oa, none⟩) n ka, .slice (some ⟨bb, ob, none⟩) n kb, .slice (some ⟨bc_, oc, none⟩) n kc] ∧ Below w.heap.size w wq) (fun i _ => n - (intOf i).toNat)
        case atStart => exact ⟨0, Nat.zero_le _, rfl, Below.refl _ _, BQ8.out, BQg.out, W.out⟩
        case round =>
          obtain ⟨k, hk, rfl, hbb, hb8, hbq, hbw⟩ := hrel
          have HB := Lib.hid hbb
          replace BQ8 := Lib.hid hb8
          replace BQg := Lib.hid hbq
          replace W := Lib.hid hbw
          have hk0 : (0 : Int) ≤ (k : Int) := Int.natCast_nonneg _
          clear hbb hb8 hbq hbw
          by_cases hlt : k < n
          · have fk : decide ((k : Int) < (n : Int)) = true := decide_eq_true (by omega)
            have hki : (k : Int) < (n : Int) := by omega
            have hbb := BQ8.out
            have tc0 : wr.cell? ⟨q8, 0, none⟩ = some (.slice xa (lstB x n).length kxa) := hbb.cell 0 _ rfl
            have tc1 : wr.cell? ⟨q8, 1, none⟩ = some (.slice ya (lstB y n).length kya) := hbb.cell 1 _ rfl
            clear hbb
            go_wp2_with fail
            clear tc0 tc1
            refine (count13_any (lstB x n) (k : Int) (Nat.le_trans (lstB_len x n) (by omega)) _ wr (IX.out.on HB.out)).mono ?_
            rintro e wz ⟨rfl, hb⟩
            obtain ⟨ct, hct⟩ : ∃ c, (lstB x n).count (k : Int) = c := ⟨_, rfl⟩
            rw [hct]
            have HB2 := Lib.hid (HB.out.trans (hb.mono HB.out.size))
            replace BQg := Lib.hid (BQg.out.keep (grown_of_below hb none))
            replace BQ8 := Lib.hid (BQ8.out.keep (grown_of_below hb none))
            replace W := Lib.hid (W.out.trans (hb.mono W.out.size))
            have HCT := Lib.hid (show (0 < ct) ↔ x k = true from by rw [← hct]; exact lstB_count hlt)
            clear hb hct
            obtain ⟨mk, hmk⟩ : ∃ z, (evM g (solOf g)).getD k 0 = z := ⟨_, rfl⟩
            obtain ⟨zo, hzo⟩ : ∃ z, g.owner.getD k 0 = z := ⟨_, rfl⟩
            have hsay := own_says HR.out HSLp.out HN.out HSO.out hlt
            rw [hmk, hzo] at hsay
            have cm := (HB2.out.cell (p := ⟨bM, oM + k, none⟩) HBM.out).trans (HCM.out k hlt)
            rw [hmk] at cm
            have co := HCA.out wz W.out k hlt
            rw [hzo] at co
            have hbb := BQg.out
            have gc0 : wz.cell? ⟨qg, 0, none⟩ = some (.slice (some ⟨ba, oa, none⟩) n ka) := hbb.cell 0 _ rfl
            have gc1 : wz.cell? ⟨qg, 1, none⟩ = some (.slice (some ⟨bb, ob, none⟩) n kb) := hbb.cell 1 _ rfl
            have gc2 : wz.cell? ⟨qg, 2, none⟩ = some (.slice (some ⟨bc_, oc, none⟩) n kc) := hbb.cell 2 _ rfl
            clear hbb
            clear hmk hzo
            cases hx : x k
            · have fc : decide ((0 : Int) < (ct : Int)) = false := decide_eq_false (fun h => by have := HCT.out.1 (by omega); rw [hx] at this; cases this)
              have fc2 : decide (0 < ct) = false := decide_eq_false (fun h => by have := HCT.out.1 (by omega); rw [hx] at this; cases this)
              have fm : decide ((0 : Int) ≤ mk) = false := decide_eq_false (fun h => by have := (hsay.1 h).1; rw [hx] at this; cases this)
              clear hx hsay
              go_wp2_with fail
              clear gc0 gc1 gc2 cm co
              go_roundw
              case rel => exact ⟨k + 1, by omega, by first | rfl | go_num, HB2.out, BQ8.out, BQg.out, W.out⟩
              case measure => simp [intOf]; omega
            · have fc : decide ((0 : Int) < (ct : Int)) = true := decide_eq_true (by have := HCT.out.2 hx; omega)
              have fc2 : decide (0 < ct) = true := decide_eq_true (HCT.out.2 hx)
              by_cases ho : zo = 0
              · have fo : (zo == 0) = true := by rw [beq_iff_eq]; exact ho
                have fm : decide ((0 : Int) ≤ mk) = true := decide_eq_true (hsay.2 ⟨hx, ho⟩)
                clear hx hsay ho
                go_wp2_with fail
                clear gc0 gc1 gc2 cm co
                go_roundw
                case rel => exact ⟨k + 1, by omega, by first | rfl | go_num, HB2.out, BQ8.out, BQg.out, W.out⟩
                case measure => simp [intOf]; omega
              · have fo : (zo == 0) = false := by rw [beq_eq_false_iff_ne]; exact ho
                have fm : decide ((0 : Int) ≤ mk) = false := decide_eq_false (fun h => ho (hsay.1 h).2)
                clear hx hsay ho
                go_wp2_with fail
                clear gc0 gc1 gc2 cm co
                go_roundw
                case rel => exact ⟨k + 1, by omega, by first | rfl | go_num, HB2.out, BQ8.out, BQg.out, W.out⟩
                case measure => simp [intOf]; omega
          · have fk : decide ((k : Int) < (n : Int)) = false := decide_eq_false (by omega)
            have hbb := BQg.out
            have gc0 : wr.cell? ⟨qg, 0, none⟩ = some (.slice (some ⟨ba, oa, none⟩) n ka) := hbb.cell 0 _ rfl
            have gc1 : wr.cell? ⟨qg, 1, none⟩ = some (.slice (some ⟨bb, ob, none⟩) n kb) := hbb.cell 1 _ rfl
            have gc2 : wr.cell? ⟨qg, 2, none⟩ = some (.slice (some ⟨bc_, oc, none⟩) n kc) := hbb.cell 2 _ rfl
            clear hbb
            go_wp2_with fail
            clear gc0 gc1 gc2
            refine (wins13_any g HR.out n HN.out (evF (solOf g) n) (evM g (solOf g)) (Nat.le_trans (evF_len _ _) (by omega)) HEM.out 0 (evF_in (solOf g) n) (wins_sol HR.out HN.out HSLp.out) _ _ _ wr (HV.out.on W.out) (Ip.out.on HB.out) (IM.out.on HB.out)).mono ?_
            rintro e wz ⟨rfl, hb⟩
            replace W := Lib.hid (W.out.trans (hb.mono W.out.size))
            clear hb
            go_wp2_with fail
            exact bodyPost_ret (v := .bool true) (by simp [results, Try.results8, go_sem]) rfl ⟨rfl, W.out⟩
    · simp only []
      go_wp2_with fail
      exact bodyPost_ret (v := .bool true) (by simp [results, Try.results8, go_sem]) rfl ⟨rfl, W.out⟩
end W
end Go.Proofs.Yteeaojciobmcaaa
