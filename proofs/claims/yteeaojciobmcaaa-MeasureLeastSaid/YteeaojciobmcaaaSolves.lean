/- MeasureSolves: the walk. -/
import Derived.Test.YteeaojciobmcaaaShown
import Derived.Test.YteeaojciobmcaaaRSolve
import Derived.Test.YteeaojciobmcaaaHeavy
import Derived.Test.YteeaojciobmcaaaTupsF
import Derived.Test.YteeaojciobmcaaaCpy
import Derived.Test.YteeaojciobmcaaaSam
import Derived.Test.YteeaojciobmcaaaFrame
import Derived.Deep.Cut
import Derived.Lib.Hide
import Derived.Deep.QuietTactic
import Derived.BigQuiet
namespace Go.Proofs.Yteeaojciobmcaaa
open Go.RowKit
namespace W

/-- What lifting ends in, of any game. -/
def Sol (g : P.G) (l : List P.Tup) : Prop := if g.ok = true then P.IsSol g l else l = []
theorem Sol.unique {g : P.G} {l m : List P.Tup} (h : Sol g l) (k : Sol g m) : l = m := by
  unfold Sol at h k
  by_cases hg : g.ok = true
  · rw [if_pos hg] at h k
    exact h.unique k
  · rw [if_neg hg] at h k
    rw [h, k]
theorem Sol.short {g : P.G} {l : List P.Tup} (h : Sol g l) : l.length ≤ 200 := by
  unfold Sol at h
  by_cases hg : g.ok = true
  · rw [if_pos hg] at h
    rw [h.1.1]
    exact ((P.G.ok_iff g).1 hg).many
  · rw [if_neg hg] at h
    rw [h]
    decide
/-- A list of tuples in a block of its own, or none. -/
def FreshT (w : World) (lo : Nat) (ty : TypeId) (v : Value) (l : List P.Tup) : Prop := (l = [] ∧ v = .slice none 0 0) ∨ ∃ p, v = .slice (some ⟨p, 0, none⟩) l.length l.length ∧ lo ≤ p ∧ Box w p ty (flatT l)
theorem FreshT.tups {w : World} {lo : Nat} {ty : TypeId} {v : Value} {l : List P.Tup} (h : FreshT w lo ty v l) (hl : l.length ≤ 200) : TupsV w v l := by
  rcases h with ⟨rfl, rfl⟩ | ⟨p, rfl, -, hb⟩
  · exact ⟨none, 0, rfl, by decide, .inl rfl⟩
  · exact hb.tups (by omega) _
theorem solve_all (g : P.G) (v : Value) (w : World) (hv : GameV w v g) : Calls Try.prog 26 #[v] w fun e w' => ∃ u l, e = .returned u ∧ Sol g l ∧ FreshT w' w.heap.size 26 u l ∧ Below w.heap.size w w' := by
  cases hg : g.ok
  · refine (solve_wrong g hg v w hv).mono ?_
    rintro e w' ⟨rfl, hb⟩
    exact ⟨_, [], rfl, by unfold Sol; rw [if_neg (by rw [hg]; simp)], .inl ⟨rfl, rfl⟩, hb⟩
  · refine (solve_any g ((P.G.ok_iff g).1 hg) v w hv).mono ?_
    rintro e w' ⟨u, rfl, ⟨p, l, rfl, hs, hlo, hbx⟩, hb⟩
    refine ⟨_, l, rfl, by unfold Sol; rw [if_pos hg]; exact hs, .inr ⟨p, ?_, hlo, hbx⟩, hb⟩
    rw [hs.1.1]
theorem rsolve_all (g : P.G) (v : Value) (w : World) (hv : GameV w v g) : Calls Try.prog 25 #[v] w fun e w' => ∃ u l, e = .returned u ∧ Sol g l ∧ FreshT w' w.heap.size 24 u l ∧ Below w.heap.size w w' := by
  cases hg : g.ok
  · refine (rsolve_wrong g hg v w hv).mono ?_
    rintro e w' ⟨rfl, hb⟩
    exact ⟨_, [], rfl, by unfold Sol; rw [if_neg (by rw [hg]; simp)], .inl ⟨rfl, rfl⟩, hb⟩
  · refine (rsolve_any g ((P.G.ok_iff g).1 hg) v w hv).mono ?_
    rintro e w' ⟨u, rfl, ⟨p, l, rfl, hs, hlo, hbx⟩, hb⟩
    refine ⟨_, l, rfl, by unfold Sol; rw [if_pos hg]; exact hs, .inr ⟨p, ?_, hlo, hbx⟩, hb⟩
    rw [hs.1.1]
set_option maxRecDepth 100000 in
set_option maxHeartbeats 4000000 in
theorem solves_any (g : P.G) (v : Value) (w : World) (hv : GameV w v g) : Calls Try.prog 6 #[v] w fun e w' => e = .returned (.bool true) ∧ Below w.heap.size w w' := by
  have HFI := Lib.hid hv.fits
  have HV := Lib.hid hv
  obtain ⟨a, b, c, rfl, -⟩ := hv
  go_enter Try.func6, Try.ntmps6
  go_wp2_with fail
  have bx0 : Box (w.alloc (.cells #[a, b, c] 33)) (w.heap.size) 33 #[a, b, c] := Box.new w 33 #[a, b, c]
  have hbq : Below w.heap.size w (w.alloc (.cells #[a, b, c] 33)) := (Below.refl _ w).alloc (Nat.le_refl _) _
  have hle0 : w.heap.size ≤ w.heap.size := Nat.le_refl _
  generalize (w.alloc (.cells #[a, b, c] 33)) = w0 at bx0 hbq  ⊢
  have BQg := Lib.hid bx0
  have W := Lib.hid hbq
  have LEg := Lib.hid hle0
  clear hbq hle0 bx0 
  obtain ⟨qg, hqg⟩ : ∃ qg, w.heap.size = qg := ⟨_, rfl⟩
  rw [hqg] at BQg ⊢
  have LEg : Hid (w.heap.size ≤ qg) := Lib.hid (by omega)
  clear hqg
  refine (shown_any w0).mono ?_
  rintro e w1 ⟨rfl, hb⟩
  replace BQg := Lib.hid (BQg.out.keep (grown_of_below hb none))
  replace W := Lib.hid (W.out.trans (hb.mono W.out.size))
  clear hb
  have hbb := BQg.out
  have gc0 : w1.cell? ⟨qg, 0, none⟩ = some a := hbb.cell 0 _ rfl
  have gc1 : w1.cell? ⟨qg, 1, none⟩ = some b := hbb.cell 1 _ rfl
  have gc2 : w1.cell? ⟨qg, 2, none⟩ = some c := hbb.cell 2 _ rfl
  clear hbb
  go_wp2_with fail
  clear gc0 gc1 gc2
  refine (heavy_any g _ w1 (HV.out.on W.out)).mono ?_
  rintro e w2 ⟨lg, rfl, hb⟩
  replace BQg := Lib.hid (BQg.out.keep (grown_of_below hb none))
  replace W := Lib.hid (W.out.trans (hb.mono W.out.size))
  clear hb
  cases lg
  · simp only []
    have hbb := BQg.out
    have gc0 : w2.cell? ⟨qg, 0, none⟩ = some a := hbb.cell 0 _ rfl
    have gc1 : w2.cell? ⟨qg, 1, none⟩ = some b := hbb.cell 1 _ rfl
    have gc2 : w2.cell? ⟨qg, 2, none⟩ = some c := hbb.cell 2 _ rfl
    clear hbb
    go_wp2_with fail
    clear gc0 gc1 gc2
    refine (rcopy_any g _ _ (HV.out.on W.out)).mono ?_
    rintro e w3 ⟨oav, obv, ocv, oL, rfl, ho, hb⟩
    have hgo := ho.game HFI.out
    obtain ⟨oa, oka, ob_, okb, oc_, okc, rfl, rfl, rfl⟩ := ho.forms
    replace BQg := Lib.hid (BQg.out.keep (grown_of_below hb none))
    replace W := Lib.hid (W.out.trans (hb.mono W.out.size))
    have GO := Lib.hid hgo
    clear hb ho hgo
    go_upto_region 6 with (fail)
    have bq : Box (w3.alloc (.cells #[.slice oa g.owner.length oka, .slice ob_ g.prio.length okb, .slice oc_ g.moves.length okc] 33)) w3.heap.size 33 #[.slice oa g.owner.length oka, .slice ob_ g.prio.length okb, .slice oc_ g.moves.length okc] := Box.new _ _ _
    have hgq := World.grownBy_alloc w3 (.cells #[.slice oa g.owner.length oka, .slice ob_ g.prio.length okb, .slice oc_ g.moves.length okc] 33) none
    replace BQg := Lib.hid (BQg.out.keep hgq)
    replace W := Lib.hid (W.out.trans ((below_of_grown hgq).mono W.out.size))
    replace GO := Lib.hid (GO.out.on (below_of_grown hgq))
    generalize (w3.alloc (.cells #[.slice oa g.owner.length oka, .slice ob_ g.prio.length okb, .slice oc_ g.moves.length okc] 33)) = w4 at bq BQg W GO ⊢
    generalize w3.heap.size = qo at bq ⊢
    have BQo := Lib.hid bq
    clear bq hgq
    have hbb := BQg.out
    have gc0 : w4.cell? ⟨qg, 0, none⟩ = some a := hbb.cell 0 _ rfl
    have gc1 : w4.cell? ⟨qg, 1, none⟩ = some b := hbb.cell 1 _ rfl
    have gc2 : w4.cell? ⟨qg, 2, none⟩ = some c := hbb.cell 2 _ rfl
    clear hbb
    go_wp2_with fail
    clear gc0 gc1 gc2
    refine (rsolve_all g _ w4 (HV.out.on W.out)).mono ?_
    rintro e w5 ⟨u, l, rfl, hs, hfr, hb⟩
    have hl := hs.short
    have hV := hfr.tups hl
    have HS := Lib.hid hs
    have HL := Lib.hid hl
    have HVL := Lib.hid hV
    replace BQg := Lib.hid (BQg.out.keep (grown_of_below hb none))
    replace W := Lib.hid (W.out.trans (hb.mono W.out.size))
    replace GO := Lib.hid (GO.out.on hb)
    replace BQo := Lib.hid (BQo.out.keep (grown_of_below hb none))
    clear hb hs hl hV
    obtain ⟨m, hm⟩ : ∃ m, l.length = m := ⟨_, rfl⟩
    have HM := Lib.hid hm
    rcases (show ∃ x k, u = .slice x m k by obtain ⟨x, k, h, -⟩ := HVL.out; exact ⟨x, k, by rw [← hm]; exact h⟩) with ⟨x0, k0, rfl⟩
    have hl2 : m ≤ 200 := by rw [← hm]; exact HL.out
    clear hfr hm
    go_wp2_with fail
    refine (tuples_any l (by have := HL.out; omega) _ w5 HVL.out).mono ?_
    rintro e w6 ⟨v', rfl, ho, hb⟩
    obtain ⟨x1, k1, rfl⟩ := ho.slice
    rw [HM.out] at ho ⊢
    have TW := Lib.hid (ho.tups (by have := HL.out; omega))
    replace BQg := Lib.hid (BQg.out.keep (grown_of_below hb none))
    replace W := Lib.hid (W.out.trans (hb.mono W.out.size))
    replace GO := Lib.hid (GO.out.on hb)
    replace BQo := Lib.hid (BQo.out.keep (grown_of_below hb none))
    clear hb ho
    have HBg := BQg
    have HBo := BQo
    have HGO := GO
    have HTW := TW
    have HW6 := W
    clear BQg BQo GO TW W HVL
    go_wp2_with fail
    go_loopw [7] (fun iv wr => ∃ i2 : Nat, i2 ≤ 2 ∧ iv = .int .i64 (i2 : Int) ∧ Below w6.heap.size w6 wr) (fun iv _ => (2 - intOf iv).toNat)
    case atStart => exact ⟨0, by omega, rfl, Below.refl _ _⟩
    case round =>
      obtain ⟨i2, hi2, rfl, hb⟩ := hrel
      have WL := Lib.hid hb
      have BQg := Lib.hid (HBg.out.keep (grown_of_below hb none))
      have BQo := Lib.hid (HBo.out.keep (grown_of_below hb none))
      have GO := Lib.hid (HGO.out.on hb)
      have TW := Lib.hid (HTW.out.on hb)
      have W := Lib.hid (HW6.out.trans (hb.mono HW6.out.size))
      clear hb
      have hi20 : (0 : Int) ≤ (i2 : Int) := Int.natCast_nonneg _
      by_cases hlt2 : i2 < 2
      · have fi2 : decide ((i2 : Int) < 2) = true := decide_eq_true (by omega)
        have hbb := BQo.out
        have oc0 : wr.cell? ⟨qo, 0, none⟩ = some (.slice oa g.owner.length oka) := hbb.cell 0 _ rfl
        have oc1 : wr.cell? ⟨qo, 1, none⟩ = some (.slice ob_ g.prio.length okb) := hbb.cell 1 _ rfl
        have oc2 : wr.cell? ⟨qo, 2, none⟩ = some (.slice oc_ g.moves.length okc) := hbb.cell 2 _ rfl
        clear hbb
        go_wp2_with fail
        clear oc0 oc1 oc2
        refine (solve_all g _ wr GO.out).mono ?_
        rintro e w7 ⟨u2, l2, rfl, hs, hfr, hb⟩
        obtain rfl : l = l2 := HS.out.unique hs
        have HFR := Lib.hid hfr
        have TL := Lib.hid (hfr.tups HL.out)
        have hwr := WL.out.size
        have HWRS := Lib.hid (show w6.heap.size ≤ wr.heap.size from hwr)
        have HSZ := Lib.hid hb.size
        replace TW := Lib.hid (TW.out.on hb)
        replace WL := Lib.hid (WL.out.trans (hb.mono WL.out.size))
        have WI := Lib.hid hb
        clear hb hs hwr
        rcases (show ∃ x k, u2 = .slice x m k by obtain ⟨x, k, h, -⟩ := TL.out; exact ⟨x, k, by rw [← HM.out]; exact h⟩) with ⟨x2, k2, rfl⟩
        go_wp2_with fail
        refine (sametups_any _ _ l l w7 TL.out TW.out).mono ?_
        rintro e w8 ⟨rfl, hb⟩
        rw [decide_eq_true rfl]
        have hfr := HFR.out
        replace WI := Lib.hid (WI.out.trans (hb.mono WI.out.size))
        replace WL := Lib.hid (WL.out.trans (hb.mono WL.out.size))
        rcases hfr with ⟨hl0, e0⟩ | ⟨p, e0, hlo, hbx⟩
        · clear hb HFR TL TW
          obtain ⟨rfl, hz, rfl⟩ : x2 = none ∧ m = 0 ∧ k2 = 0 := by injection e0 with h1 h2 h3; exact ⟨h1, h2, h3⟩
          have fi : decide ((0 : Int) < (m : Int)) = false := decide_eq_false (by omega)
          have hz0 : ¬ (0 : Int) < (m : Int) := by omega
          clear e0 hl0 hz
          go_wp2_with fail
          obtain ⟨wo, rfl⟩ : ∃ wo : World, wo = wr := ⟨_, rfl⟩
          go_loopw [10] (fun iv wr => iv = .int .i64 0 ∧ wr = w8) (fun _ _ => 0)
          case atStart => exact ⟨rfl, rfl⟩
          case round =>
            obtain ⟨rfl, hw⟩ := hrel
            rw [hw]
            clear hw
            go_wp2_with fail
            go_roundw
            case rel => exact ⟨i2 + 1, by omega, by first | rfl | go_num, WL.out⟩
            case measure => simp [intOf]; omega
        · have hbx := hbx.keep (grown_of_below hb none)
          obtain ⟨rfl, rfl⟩ : x2 = some ⟨p, 0, none⟩ ∧ m = k2 := by rw [HM.out] at e0; injection e0 with h1 h2 h3; exact ⟨h1, h3.symm⟩
          have BQp := Lib.hid hbx
          have HLO := Lib.hid hlo
          clear hb HFR TL TW e0 hlo hbx
          go_wp2_with fail
          obtain ⟨wo, rfl⟩ : ∃ wo : World, wo = wr := ⟨_, rfl⟩
          go_loopw [10] (fun iv wr => ∃ (i : Nat) (l3 : List P.Tup), i ≤ m ∧ l3.length = m ∧ iv = .int .i64 (i : Int) ∧ Box wr p 26 (flatT l3) ∧ Below w6.heap.size w6 wr) (fun iv _ => m - (intOf iv).toNat)
          case atStart => exact ⟨0, l, Nat.zero_le _, HM.out, rfl, BQp.out, WL.out⟩
          case round =>
            obtain ⟨i, l3, hi, hl3, rfl, hbx, hb⟩ := hrel
            have hi0 : (0 : Int) ≤ (i : Int) := Int.natCast_nonneg _
            replace BQp := Lib.hid hbx
            replace WL := Lib.hid hb
            have HL3 := Lib.hid hl3
            clear hbx hb hl3
            by_cases hlt : i < m
            · have fi : decide ((i : Int) < (m : Int)) = true := decide_eq_true (by omega)
              have hii : (i : Int) < (m : Int) := by omega
              obtain ⟨t, ht⟩ : ∃ t, l3.getD i .zero = t := ⟨_, rfl⟩
              have HT := Lib.hid ht
              clear ht
              have HLI := Lib.hid (show i < l3.length by rw [HL3.out]; exact hlt)
              have tc0 : wr.cell? ⟨p, i * 5, none⟩ = some (.bool t.top) := box_tcell BQp.out HLI.out HT.out 0 _ rfl
              have tf0 : wr.frozen? ⟨p, i * 5, none⟩ = false := BQp.out.frozen _
              have tc1 : wr.cell? ⟨p, i * 5 + 1, none⟩ = some (.int .i64 t.a) := box_tcell BQp.out HLI.out HT.out 1 _ rfl
              have tf1 : wr.frozen? ⟨p, i * 5 + 1, none⟩ = false := BQp.out.frozen _
              have tc2 : wr.cell? ⟨p, i * 5 + 2, none⟩ = some (.int .i64 t.b) := box_tcell BQp.out HLI.out HT.out 2 _ rfl
              have tf2 : wr.frozen? ⟨p, i * 5 + 2, none⟩ = false := BQp.out.frozen _
              have tc3 : wr.cell? ⟨p, i * 5 + 3, none⟩ = some (.int .i64 t.c) := box_tcell BQp.out HLI.out HT.out 3 _ rfl
              have tf3 : wr.frozen? ⟨p, i * 5 + 3, none⟩ = false := BQp.out.frozen _
              have tc4 : wr.cell? ⟨p, i * 5 + 4, none⟩ = some (.int .i64 t.d) := box_tcell BQp.out HLI.out HT.out 4 _ rfl
              have tf4 : wr.frozen? ⟨p, i * 5 + 4, none⟩ = false := BQp.out.frozen _
              go_wp2_with fail
              clear tc0 tf0 tc1 tf1 tc2 tf2 tc3 tf3 tc4 tf4
              have b2 := BQp.out.setAt i HLI.out .over
              have hpb : w6.heap.size ≤ p := Nat.le_trans HWRS.out HLO.out
              have hb2 : Below w6.heap.size w6 (((((wr.setCell ⟨p, i * 5, none⟩ (.bool true)).setCell ⟨p, i * 5 + 1, none⟩ (.int .i64 0)).setCell ⟨p, i * 5 + 2, none⟩ (.int .i64 0)).setCell ⟨p, i * 5 + 3, none⟩ (.int .i64 0)).setCell ⟨p, i * 5 + 4, none⟩ (.int .i64 0)) := ((((WL.out.setCell (p := ⟨p, _, none⟩) hpb _).setCell (p := ⟨p, _, none⟩) hpb _).setCell (p := ⟨p, _, none⟩) hpb _).setCell (p := ⟨p, _, none⟩) hpb _).setCell (p := ⟨p, _, none⟩) hpb _
              have b2 : Box (((((wr.setCell ⟨p, i * 5, none⟩ (.bool true)).setCell ⟨p, i * 5 + 1, none⟩ (.int .i64 0)).setCell ⟨p, i * 5 + 2, none⟩ (.int .i64 0)).setCell ⟨p, i * 5 + 3, none⟩ (.int .i64 0)).setCell ⟨p, i * 5 + 4, none⟩ (.int .i64 0)) p 26 (flatT (l3.set i .over)) := b2
              generalize (((((wr.setCell ⟨p, i * 5, none⟩ (.bool true)).setCell ⟨p, i * 5 + 1, none⟩ (.int .i64 0)).setCell ⟨p, i * 5 + 2, none⟩ (.int .i64 0)).setCell ⟨p, i * 5 + 3, none⟩ (.int .i64 0)).setCell ⟨p, i * 5 + 4, none⟩ (.int .i64 0)) = w9 at b2 hb2 ⊢
              go_roundw
              case rel => exact ⟨i + 1, l3.set i .over, by omega, by rw [List.length_set]; exact HL3.out, by first | rfl | go_num, b2, hb2⟩
              case measure => simp [intOf]; omega
            · have fi : decide ((i : Int) < (m : Int)) = false := decide_eq_false (by omega)
              go_wp2_with fail
              go_roundw
              case rel => exact ⟨i2 + 1, by omega, by first | rfl | go_num, WL.out⟩
              case measure => simp [intOf]; omega
      · have fi2 : decide ((i2 : Int) < 2) = false := decide_eq_false (by omega)
        have hbb := BQg.out
        have gc0 : wr.cell? ⟨qg, 0, none⟩ = some a := hbb.cell 0 _ rfl
        have gc1 : wr.cell? ⟨qg, 1, none⟩ = some b := hbb.cell 1 _ rfl
        have gc2 : wr.cell? ⟨qg, 2, none⟩ = some c := hbb.cell 2 _ rfl
        clear hbb
        have hbb := BQo.out
        have oc0 : wr.cell? ⟨qo, 0, none⟩ = some (.slice oa g.owner.length oka) := hbb.cell 0 _ rfl
        have oc1 : wr.cell? ⟨qo, 1, none⟩ = some (.slice ob_ g.prio.length okb) := hbb.cell 1 _ rfl
        have oc2 : wr.cell? ⟨qo, 2, none⟩ = some (.slice oc_ g.moves.length okc) := hbb.cell 2 _ rfl
        clear hbb
        go_wp2_with fail
        refine (samegame_any g g _ _ _ GO.out (HV.out.on W.out)).mono ?_
        rintro e w9 ⟨rfl, hb⟩
        rw [decide_eq_true rfl]
        replace W := Lib.hid (W.out.trans (hb.mono W.out.size))
        clear hb
        go_wp2_with fail
        exact bodyPost_ret (v := .bool true) (by simp [results, Try.results6, go_sem]) rfl ⟨rfl, W.out⟩

  · go_wp2_with fail
    exact bodyPost_ret (v := .bool true) (by simp [results, Try.results6, go_sem]) rfl ⟨rfl, W.out⟩
end W
end Go.Proofs.Yteeaojciobmcaaa
