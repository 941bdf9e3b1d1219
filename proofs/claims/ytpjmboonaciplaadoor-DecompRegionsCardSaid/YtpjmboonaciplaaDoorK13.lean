/- How often a number stands in a list: the document's. The moves that count: the document's. A row of the call's own without its last one. Does a cycle go through a position: the document's. Do a player's moves win all plays from a region: the document's. -/
import Derived.Test.YtpjmboonaciplaaDoorHep
import Derived.Deep.Cut
import Derived.Lib.Hide
import Derived.Test.YtpjmboonaciplaaDoorDecA
import Derived.Test.YtpjmboonaciplaaDoorWonA
import Derived.Deep.QuietTactic
import Derived.BigQuiet
section
namespace Go.Proofs.YtpjmboonaciplaaDoor
open Go.RowKit
namespace W

theorem count_step (l : List Int) (z : Int) (k : Nat) (h : k < l.length) : (l.take (k + 1)).count z = (l.take k).count z + (if l.getD k 0 = z then 1 else 0) := by
  rw [← List.take_append_getElem h, List.count_append, List.getD_eq_getElem?_getD, List.getElem?_eq_getElem h, Option.getD_some]
  congr 1
  by_cases e : l[k] = z
  · rw [if_pos e, e]; simp
  · rw [if_neg e]; simp [e]
set_option maxRecDepth 100000 in
set_option maxHeartbeats 1000000 in
theorem count13_any (l : List Int) (z : Int) (hl : l.length ≤ 17592186043904) (v : Value) (w : World) (hv : Ints w v l) : Calls Tryd.prog 18 #[v, .int .i64 z] w fun e w' => e = .returned (.int .i64 (l.count z : Nat)) ∧ Below w.heap.size w w' := by
  obtain ⟨n, hn⟩ : ∃ n, l.length = n := ⟨_, rfl⟩
  rw [hn] at hl
  rcases Nat.eq_zero_or_pos n with h0 | h0
  · obtain ⟨xo, xk, rfl, -, -⟩ := hv
    have hl0 : l = [] := List.eq_nil_of_length_eq_zero (by omega)
    subst hl0
    go_enter Tryd.func18, Tryd.ntmps18
    go_wp2_with fail
    go_loopw [5, 6] (fun c i wr => c = .int .i64 0 ∧ i = .int .i64 0 ∧ wr = w) (fun _ _ _ => 0)
    case atStart => exact ⟨rfl, rfl, rfl⟩
    case round =>
      obtain ⟨rfl, rfl, hw⟩ := hrel
      rw [hw]
      clear hw
      go_wp2_with fail
      exact bodyPost_ret (v := .int .i64 0) (by simp [results, Tryd.results18, go_sem]) rfl ⟨rfl, Below.refl _ _⟩
  · obtain ⟨xo, kl, rfl, -, hc⟩ := hv
    rw [hn] at hc ⊢
    obtain ⟨bl, ol, rfl, -, hcl⟩ := hc.resolve_left (fun e => by rw [e] at hn; simp at hn; omega)
    have HCL := Lib.hid hcl
    have HN := Lib.hid hn
    clear hcl hn hc
    go_enter Tryd.func18, Tryd.ntmps18
    go_wp2_with fail
    go_loopw [5, 6] (fun cv i wr => ∃ k : Nat, k ≤ n ∧ cv = .int .i64 ((l.take k).count z : Nat) ∧ i = .int .i64 (k : Int) ∧ wr = w) (fun _ i _ => n - (intOf i).toNat)
    case atStart => exact ⟨0, Nat.zero_le _, rfl, rfl, rfl⟩
    case round =>
      obtain ⟨k, hk, rfl, rfl, hw⟩ := hrel
      rw [hw]
      clear hw
      have hk0 : (0 : Int) ≤ (k : Int) := Int.natCast_nonneg _
      by_cases hlt : k < n
      · have fk : decide ((k : Int) < (n : Int)) = true := decide_eq_true (by omega)
        have hki : (k : Int) < (n : Int) := by omega
        have cl := HCL.out k hlt
        have hs := count_step l z k (by rw [HN.out]; exact hlt)
        have hc := Nat.le_trans (List.count_le_length (a := z) (l := l.take k)) (by rw [List.length_take]; exact Nat.min_le_left _ _)
        obtain ⟨y, hy⟩ : ∃ y, l.getD k 0 = y := ⟨_, rfl⟩
        rw [hy] at cl hs
        obtain ⟨c, hcc⟩ : ∃ c, (l.take k).count z = c := ⟨_, rfl⟩
        rw [hcc] at hs hc ⊢
        clear hy hcc
        by_cases hq : y = z
        · have fq : (y == z) = true := by rw [beq_iff_eq]; exact hq
          rw [if_pos hq] at hs
          have HS := Lib.hid hs
          clear hs hq
          go_wp2_with fail
          clear cl
          go_roundw
          case rel => exact ⟨k + 1, by omega, by rw [HS.out]; first | rfl | go_num, by first | rfl | go_num, by first | trivial | rfl⟩
          case measure => simp [intOf]; omega
        · have fq : (y == z) = false := by rw [beq_eq_false_iff_ne]; exact hq
          rw [if_neg hq] at hs
          replace hs : (l.take (k + 1)).count z = c := hs
          have HS := Lib.hid hs
          clear hs hq
          go_wp2_with fail
          clear cl
          go_roundw
          case rel => exact ⟨k + 1, by omega, by rw [HS.out], by first | rfl | go_num, by first | trivial | rfl⟩
          case measure => simp [intOf]; omega
      · have fk : decide ((k : Int) < (n : Int)) = false := decide_eq_false (by omega)
        have HT := Lib.hid (show l.take k = l from List.take_of_length_le (by rw [HN.out]; omega))
        rw [HT.out]
        go_wp2_with fail
        exact bodyPost_ret (v := .int .i64 (l.count z : Nat)) (by simp [results, Tryd.results18, go_sem]) rfl ⟨rfl, Below.refl _ _⟩
end W
end Go.Proofs.YtpjmboonaciplaaDoor
end
section
namespace Go.Proofs.YtpjmboonaciplaaDoor
open Go.RowKit
namespace W

theorem getD_mem {l : List Int} {k : Nat} (h : k < l.length) : l.getD k 0 ∈ l := by
  rw [List.getD_eq_getElem?_getD, List.getElem?_eq_getElem h]
  exact List.getElem_mem h
/-- The moves that count at a position. -/
def keptL (g : P.G) (M : List Int) (p : Int) (i : Nat) : List Int := if g.owner.getD i 0 = p then [M.getD i 0] else g.moves.getD i []
set_option maxRecDepth 100000 in
set_option maxHeartbeats 4000000 in
theorem kept13_any (g : P.G) (hr : g.Right) (n : Nat) (hn : g.owner.length = n) (R M : List Int) (hRl : R.length ≤ 17592186043904) (p : Int) (i : Nat) (hi : i < n) (hM : M.length = n)
    (hown : g.owner.getD i 0 = p → M.getD i 0 ∈ g.moves.getD i []) (hin : ∀ x ∈ keptL g M p i, x ∈ R) (v vr vm : Value) (w : World) (hv : GameV w v g) (hR : Ints w vr R) (hMv : Ints w vm M) :
    Calls Tryd.prog 35 #[v, vr, vm, .int .i64 p, .int .i64 (i : Int)] w fun e w' => ∃ vl, e = .returned (.tuple #[vl, .bool true]) ∧ Ints w' vl (keptL g M p i) ∧ Below w.heap.size w w' := by
  have HV := Lib.hid hv
  have HRI := Lib.hid hR
  have HRL := Lib.hid hRl
  have hop := hr.prio
  have hmp := hr.moves
  have hmany := hr.many
  have h0 := hr.pos
  rw [hn] at hop hmp hmany h0
  obtain ⟨ba, oa, ka, bb, ob, kb, bc_, oc, kc, rfl, hca, -, hcc⟩ := hv.open_ hn hop hmp h0
  obtain ⟨xm, km, rfl, -, hcm⟩ := hMv
  rw [hM] at hcm ⊢
  obtain ⟨bM, oM, rfl, hbM, hcM⟩ := hcm.resolve_left (fun e => by rw [e] at hM; simp at hM; omega)
  have HBM := Lib.hid hbM
  have HCM := Lib.hid (hcM i (by first | exact hi | omega))
  have HMM := Lib.hid hM
  have HCA := Lib.hid hca
  have HCC := Lib.hid hcc
  have HIN0 := Lib.hid hin
  have HOWN := Lib.hid hown
  have hne := (hr.at i (by rw [hn]; exact hi)).2.2.2.1
  have HNE := Lib.hid hne
  have HMO := Lib.hid (hr.moves_in (i := i) (by rw [hn]; exact hi))
  have hii : (i : Int) < (n : Int) := by omega
  have hi0 : (0 : Int) ≤ (i : Int) := Int.natCast_nonneg _
  clear hcm hbM hcM hca hcc hin hown hne hop hmp hv hR hRl hM hr hn
  go_enter Tryd.func35, Tryd.ntmps35
  go_upto_region 1 with (fail)
  have bx0 : Box (w.alloc (.cells #[.slice (some ⟨ba, oa, none⟩) n ka, .slice (some ⟨bb, ob, none⟩) n kb, .slice (some ⟨bc_, oc, none⟩) n kc] 25)) (w.heap.size) 25 #[.slice (some ⟨ba, oa, none⟩) n ka, .slice (some ⟨bb, ob, none⟩) n kb, .slice (some ⟨bc_, oc, none⟩) n kc] := Box.new w 25 #[.slice (some ⟨ba, oa, none⟩) n ka, .slice (some ⟨bb, ob, none⟩) n kb, .slice (some ⟨bc_, oc, none⟩) n kc]
  have hbq : Below w.heap.size w (w.alloc (.cells #[.slice (some ⟨ba, oa, none⟩) n ka, .slice (some ⟨bb, ob, none⟩) n kb, .slice (some ⟨bc_, oc, none⟩) n kc] 25)) := (Below.refl _ w).alloc (Nat.le_refl _) _
  have hle0 : w.heap.size ≤ w.heap.size := Nat.le_refl _
  generalize (w.alloc (.cells #[.slice (some ⟨ba, oa, none⟩) n ka, .slice (some ⟨bb, ob, none⟩) n kb, .slice (some ⟨bc_, oc, none⟩) n kc] 25)) = w0 at bx0 hbq  ⊢
  have BQg := Lib.hid bx0
  have W := Lib.hid hbq
  have LEg := Lib.hid hle0
  clear hbq hle0 bx0 
  obtain ⟨qg, hqg⟩ : ∃ qg, w.heap.size = qg := ⟨_, rfl⟩
  rw [hqg] at BQg ⊢
  have LEg : Hid (w.heap.size ≤ qg) := Lib.hid (by omega)
  clear hqg
  obtain ⟨mv, hcx, hmi⟩ := HCC.out w0 W.out i hi
  have HMI := Lib.hid hmi
  obtain ⟨mo, mk, rfl, hml, hmc⟩ := hmi
  obtain ⟨m, hm⟩ : ∃ m, (g.moves.getD i []).length = m := ⟨_, rfl⟩
  have hlm : m ≤ 17592186043904 := by rw [← hm]; exact hml
  obtain ⟨bl, ol, rfl, hbl, hcl⟩ := hmc.resolve_left HNE.out
  have HBL := Lib.hid hbl
  have HCL := Lib.hid hcl
  have hoc := HCA.out w0 W.out i hi
  have HMI2 := HMI
  rw [hm] at hcx HCL
  clear hml hmc hbl hcl
  have hbb := BQg.out
  have gc0 : w0.cell? ⟨qg, 0, none⟩ = some (.slice (some ⟨ba, oa, none⟩) n ka) := hbb.cell 0 _ rfl
  have gc1 : w0.cell? ⟨qg, 1, none⟩ = some (.slice (some ⟨bb, ob, none⟩) n kb) := hbb.cell 1 _ rfl
  have gc2 : w0.cell? ⟨qg, 2, none⟩ = some (.slice (some ⟨bc_, oc, none⟩) n kc) := hbb.cell 2 _ rfl
  clear hbb
  obtain ⟨ow, how⟩ : ∃ z, g.owner.getD i 0 = z := ⟨_, rfl⟩
  rw [how] at hoc
  by_cases hp : ow = p
  · have fp : (ow == p) = true := by rw [beq_iff_eq]; exact hp
    obtain ⟨z, hz⟩ : ∃ z, M.getD i 0 = z := ⟨_, rfl⟩
    have cm := (W.out.cell (p := ⟨bM, oM + i, none⟩) HBM.out).trans HCM.out
    rw [hz] at cm
    have fg : decide ((n : Int) ≤ (i : Int)) = false := decide_eq_false (by omega)
    have fg2 : decide (n ≤ i) = false := decide_eq_false (by omega)
    have hzm : z ∈ g.moves.getD i [] := by rw [← hz]; exact HOWN.out (by rw [how]; exact hp)
    have HKL := Lib.hid (show keptL g M p i = [z] by unfold keptL; rw [if_pos (by rw [how]; exact hp), hz])
    have HZM := Lib.hid hzm
    have HZ := Lib.hid hz
    clear hzm hz
    go_wp2_with fail
    clear gc0 gc1 gc2 hcx hoc cm
    refine (count13_any (g.moves.getD i []) z (by rw [hm]; exact hlm) _ w0 (by have := HMI.out; rw [hm] at this; exact this)).mono ?_
    rintro e w1 ⟨rfl, hb⟩
    obtain ⟨ct, hct⟩ : ∃ c, (g.moves.getD i []).count z = c := ⟨_, rfl⟩
    have fc : ((((ct : Nat) : Int)) == 0) = false := by
      rw [beq_eq_false_iff_ne]
      have := List.count_pos_iff.2 HZM.out
      omega
    rw [hct]
    have cm := ((W.out.trans (hb.mono W.out.size)).cell (p := ⟨bM, oM + i, none⟩) HBM.out).trans HCM.out
    rw [HZ.out] at cm
    replace BQg := Lib.hid (BQg.out.keep (grown_of_below hb none))
    replace W := Lib.hid (W.out.trans (hb.mono W.out.size))
    clear hb hct
    have hbz := Box.new w1 3 #[.int .i64 z]
    have W2 := Lib.hid (W.out.alloc W.out.size (.cells #[.int .i64 z] 3))
    go_wp2_with fail
    clear cm
    obtain ⟨q, hq⟩ : ∃ q, w1.heap.size = q := ⟨_, rfl⟩
    rw [hq] at hbz ⊢
    generalize (w1.alloc (.cells #[.int .i64 z] 3)) = w2 at hbz W2 ⊢
    have hz0 := hbz.cell 0 _ rfl
    have HBL := Lib.hid hbz.lt
    have HCL := Lib.hid (show ∀ j, j < 1 → w2.cell? ⟨q, j, none⟩ = some (.int .i64 ([z].getD j 0)) from fun j hj => by rw [show j = 0 by omega]; exact hz0)
    have HLI : Hid (Ints w2 (.slice (some ⟨q, 0, none⟩) 1 1) [z]) := Lib.hid ⟨_, 1, rfl, by simp, .inr ⟨q, 0, rfl, hbz.lt, fun j hj => by rw [Nat.zero_add]; exact HCL.out j hj⟩⟩
    have W := W2
    have HML : Hid ([z].length = 1) := Lib.hid rfl
    have HLV := HKL
    have HIN := Lib.hid (show ∀ x ∈ [z], x ∈ R from fun x hx => HIN0.out x (by rw [HKL.out]; exact hx))
    clear hz0 hbz hq W2
    go_loopw [13] (fun i wr => ∃ k : Nat, k ≤ 1 ∧ i = .int .i64 (k : Int) ∧ Below w2.heap.size w2 wr ∧ Below w.heap.size w wr) (fun i _ => 1 - (intOf i).toNat)
    case atStart => exact ⟨0, Nat.zero_le _, rfl, Below.refl _ _, W.out⟩
    case round =>
      obtain ⟨k, hk, rfl, hb, hbw⟩ := hrel
      have HB := Lib.hid hb
      replace W := Lib.hid hbw
      clear hb hbw
      have hk0 : (0 : Int) ≤ (k : Int) := Int.natCast_nonneg _
      by_cases hlt : k < 1
      · have fk : decide ((k : Int) < (1 : Int)) = true := decide_eq_true (by omega)
        have hki : (k : Int) < (1 : Int) := by omega
        have hc := (HB.out.cell (p := ⟨q, k, none⟩) HBL.out).trans (HCL.out k hlt)
        obtain ⟨y, hy⟩ : ∃ y, ([z]).getD k 0 = y := ⟨_, rfl⟩
        rw [hy] at hc
        have HCT := Lib.hid (show R.count y ≠ 0 from fun e => by
          have h1 := HIN.out y (by rw [← hy]; exact getD_mem (by rw [HML.out]; exact hlt))
          have := List.count_pos_iff.2 h1
          omega)
        clear hy
        go_wp2_with fail
        clear hc
        refine (count13_any R y HRL.out _ wr (HRI.out.on W.out)).mono ?_
        rintro e w9 ⟨rfl, hb⟩
        obtain ⟨ct, hct⟩ : ∃ c, R.count y = c := ⟨_, rfl⟩
        have fc : ((((ct : Nat) : Int)) == 0) = false := by rw [beq_eq_false_iff_ne]; have := HCT.out; omega
        rw [hct]
        have HB2 := Lib.hid (HB.out.trans (hb.mono HB.out.size))
        replace W := Lib.hid (W.out.trans (hb.mono W.out.size))
        clear hb hct
        go_wp2_with fail
        go_roundw
        case rel => exact ⟨k + 1, by omega, by first | rfl | go_num, HB2.out, W.out⟩
        case measure => simp [intOf]; omega
      · have fk : decide ((k : Int) < (1 : Int)) = false := decide_eq_false (by omega)
        have HOUT := Lib.hid (HLI.out.on HB.out)
        rw [← HLV.out] at HOUT
        go_wp2_with fail
        refine bodyPost_ret (v := .tuple #[.slice (some ⟨q, 0, none⟩) 1 1, .bool true]) (by simp [results, Tryd.results35, go_sem]) rfl ⟨_, rfl, HOUT.out, W.out⟩
  · have fp : (ow == p) = false := by rw [beq_eq_false_iff_ne]; exact hp
    have HLV := Lib.hid (show keptL g M p i = g.moves.getD i [] by unfold keptL; rw [if_neg (by rw [how]; exact hp)])
    have HIN := Lib.hid (show ∀ x ∈ g.moves.getD i [], x ∈ R from fun x hx => HIN0.out x (by rw [HLV.out]; exact hx))
    have HML := Lib.hid hm
    have HLI := HMI
    rw [hm] at HLI
    go_wp2_with fail
    clear gc0 gc1 gc2 hcx hoc
    go_loopw [13] (fun i wr => ∃ k : Nat, k ≤ m ∧ i = .int .i64 (k : Int) ∧ Below w0.heap.size w0 wr ∧ Below w.heap.size w wr) (fun i _ => m - (intOf i).toNat)
    case atStart => exact ⟨0, Nat.zero_le _, rfl, Below.refl _ _, W.out⟩
    case round =>
      obtain ⟨k, hk, rfl, hb, hbw⟩ := hrel
      have HB := Lib.hid hb
      replace W := Lib.hid hbw
      clear hb hbw
      have hk0 : (0 : Int) ≤ (k : Int) := Int.natCast_nonneg _
      by_cases hlt : k < m
      · have fk : decide ((k : Int) < (m : Int)) = true := decide_eq_true (by omega)
        have hki : (k : Int) < (m : Int) := by omega
        have hc := (HB.out.cell (p := ⟨bl, ol + k, none⟩) HBL.out).trans (HCL.out k hlt)
        obtain ⟨y, hy⟩ : ∃ y, (g.moves.getD i []).getD k 0 = y := ⟨_, rfl⟩
        rw [hy] at hc
        have HCT := Lib.hid (show R.count y ≠ 0 from fun e => by
          have h1 := HIN.out y (by rw [← hy]; exact getD_mem (by rw [HML.out]; exact hlt))
          have := List.count_pos_iff.2 h1
          omega)
        clear hy
        go_wp2_with fail
        clear hc
        refine (count13_any R y HRL.out _ wr (HRI.out.on W.out)).mono ?_
        rintro e w9 ⟨rfl, hb⟩
        obtain ⟨ct, hct⟩ : ∃ c, R.count y = c := ⟨_, rfl⟩
        have fc : ((((ct : Nat) : Int)) == 0) = false := by rw [beq_eq_false_iff_ne]; have := HCT.out; omega
        rw [hct]
        have HB2 := Lib.hid (HB.out.trans (hb.mono HB.out.size))
        replace W := Lib.hid (W.out.trans (hb.mono W.out.size))
        clear hb hct
        go_wp2_with fail
        go_roundw
        case rel => exact ⟨k + 1, by omega, by first | rfl | go_num, HB2.out, W.out⟩
        case measure => simp [intOf]; omega
      · have fk : decide ((k : Int) < (m : Int)) = false := decide_eq_false (by omega)
        have HOUT := Lib.hid (HLI.out.on HB.out)
        rw [← HLV.out] at HOUT
        go_wp2_with fail
        refine bodyPost_ret (v := .tuple #[.slice (some ⟨bl, ol, none⟩) m mk, .bool true]) (by simp [results, Tryd.results35, go_sem]) rfl ⟨_, rfl, HOUT.out, W.out⟩
end W
end Go.Proofs.YtpjmboonaciplaaDoor
end
section
namespace Go.Proofs.YtpjmboonaciplaaDoor
open Go.RowKit
namespace W
theorem own_init {w : World} {lo : Nat} {e : TypeId} {ao : Option Addr} {n k : Nat} {xs : List Value} {x : Value} (h : w.ownsRow lo e 1 (.slice ao (n + 1) k) (n + 1) (xs ++ [x])) : w.ownsRow lo e 1 (.slice ao n k) n xs := by
  obtain ⟨h1, h2⟩ := h
  have hl : xs.length = n := by
    rw [List.length_append] at h1
    simp at h1
    omega
  refine ⟨by omega, ?_⟩
  rcases h2 with ⟨-, h2⟩ | ⟨g, cap, cur, e1, h3, h4, h5, h6, h7, h8⟩
  · omega
  · injection e1 with e1 e2 e3
    subst e1 e3
    refine .inr ⟨g, k, cur, rfl, h3, h4, by omega, h6, h7, ?_⟩
    rw [Nat.mul_one] at h8 ⊢
    have h9 : (cur.toList.take (n + 1)).take n = (xs ++ [x]).take n := by rw [h8]
    rw [List.take_take, Nat.min_eq_left (Nat.le_succ n), List.take_append_of_le_length (by omega)] at h9
    rw [h9]
    exact List.take_of_length_le (by omega)
end W
end Go.Proofs.YtpjmboonaciplaaDoor
end
section
namespace Go.Proofs.YtpjmboonaciplaaDoor
open Go.RowKit
namespace W

/-- What is looked at while a cycle is looked for. -/
structure Ls (g : P.G) (NX : List (List Int)) (i n : Nat) (f : Nat → Bool) (O : List Nat) : Prop where
  met : ∀ y, y < n → f y = true → P.Path (fun x y => (y : Int) ∈ NX.getD x []) (fun y => g.prio.getD y 0 ≤ g.prio.getD i 0) i y
  opn : ∀ y ∈ O, y < n ∧ (y = i ∨ f y = true)
  len : O.length ≤ (List.range n).countP f + 1
theorem Ls.pop {g : P.G} {NX : List (List Int)} {i n : Nat} {f : Nat → Bool} {O : List Nat} {x : Nat} (h : Ls g NX i n f (O ++ [x])) : Ls g NX i n f O ∧ x < n ∧ (x = i ∨ f x = true) := ⟨⟨h.met, fun y hy => h.opn y (List.mem_append_left _ hy), by have := h.len; rw [List.length_append] at this; simp at this; omega⟩, h.opn x (by simp)⟩
theorem Ls.push {g : P.G} {NX : List (List Int)} {i n : Nat} {f : Nat → Bool} {O : List Nat} {x y : Nat} (h : Ls g NX i n f O) (hx : x < n) (hxi : x = i ∨ f x = true) (hy : y < n) (he : (y : Int) ∈ NX.getD x []) (hp : g.prio.getD y 0 ≤ g.prio.getD i 0) (hf : f y = false) : Ls g NX i n (fun z => if z = y then true else f z) (O ++ [y]) := by
  refine ⟨fun z hz hf => ?_, fun z hz => ?_, ?_⟩
  · by_cases e : z = y
    · rw [e]
      rcases hxi with rfl | hxi
      · exact .one he hp
      · exact (h.met x hx hxi).trans (.one he hp)
    · simp only [if_neg e] at hf
      exact h.met z hz hf
  · rcases List.mem_append.1 hz with hz | hz
    · obtain ⟨h1, h2⟩ := h.opn z hz
      refine ⟨h1, h2.imp id fun h3 => ?_⟩
      by_cases e : z = y
      · simp [e]
      · simp only [if_neg e]; exact h3
    · have e : z = y := by simpa using hz
      exact ⟨by rw [e]; exact hy, .inr (by simp [e])⟩
  · have h1 := P.countP_lt (p := f) (q := fun z => if z = y then true else f z) (List.range n) (fun z _ h => by
      by_cases e : z = y
      · simp [e]
      · simp only [if_neg e]; exact h) ⟨y, List.mem_range.2 hy, hf, by simp⟩
    have h2 := h.len
    rw [List.length_append]
    simp only [List.length_singleton]
    omega
theorem Ls.short {g : P.G} {NX : List (List Int)} {i n : Nat} {f : Nat → Bool} {O : List Nat} (h : Ls g NX i n f O) : O.length ≤ n + 1 := by
  have h1 := h.len
  have h2 := List.countP_le_length (p := f) (l := List.range n)
  rw [List.length_range] at h2
  omega

/-- What lies in memory while a cycle is looked for. -/
structure LMV (w wr : World) (qg pa n : Nat) (gv : Array Value) (f : Nat → Bool) (O : List Nat) (ov : Value) : Prop where
  open_ : wr.ownsRow w.heap.size 3 1 ov O.length (O.map fun (y : Nat) => Value.int .i64 (y : Int))
  in_ : OwnB wr w.heap.size (.slice (some ⟨pa, 0, none⟩) n n) n f
  box : Box wr qg 25 gv
  low : Below w.heap.size w wr
section
variable {w wr : World} {qg pa n : Nat} {gv : Array Value} {f : Nat → Bool} {O : List Nat} {ov : Value}
theorem LMV.drewN (h : LMV w wr qg pa n gv f O ov) (q : Nat) : LMV w (wr.drewN q) qg pa n gv f O ov := ⟨h.open_, h.in_, h.box, h.low.trans ⟨rfl, rfl, rfl, Nat.le_refl _, fun _ _ => rfl⟩⟩
theorem LMV.set (h : LMV w wr qg pa n gv f O ov) (y : Nat) : (wr.setCell ⟨pa, y, none⟩ (.bool true)).ownsRow w.heap.size 3 1 ov O.length (O.map fun (y : Nat) => Value.int .i64 (y : Int)) := own_kept h.open_ (grown_set _ _ _) (own_ne h.open_ h.in_ (by decide))
theorem LMV.push (h : LMV w wr qg pa n gv f O ov) {y : Nat} {u : Obj} {v' : Value} {w7 : World} (hgr : ((wr.setCell ⟨pa, y, none⟩ (.bool true)).alloc u).grownBy w7 ov.ownBlock) (hn : w7.ownsRow w.heap.size 3 1 v' (O.length + 1) (O.map (fun (y : Nat) => Value.int .i64 (y : Int)) ++ [Value.int .i64 (y : Int)])) :
    LMV w w7 qg pa n gv (fun z => if z = y then true else f z) (O ++ [y]) v' := by
  have ga := World.grownBy_alloc (wr.setCell ⟨pa, y, none⟩ (.bool true)) u none
  have gs := grown_set wr ⟨pa, y, none⟩ (.bool true)
  have o1 := h.set y
  have i1 := h.in_.put y true
  have b1 := h.box.far (p := ⟨pa, y, none⟩) (fun e => own_box h.in_ h.box (by decide) (by rw [e]; rfl)) (.bool true)
  have l1 := h.low.setCell (p := ⟨pa, y, none⟩) (own_lt h.in_ pa rfl).1 (.bool true)
  refine ⟨?_, own_kept (own_grown i1 ga) hgr (own_ne i1 o1 (by decide)), (b1.alloc u).grown hgr (fun e => own_box o1 b1 (by decide) e.symm), (l1.alloc l1.size u).grown hgr (Nat.le_trans l1.size ga.size) (fun k e => (own_lt o1 k e).1)⟩
  rw [List.map_append, List.length_append]
  exact hn
end

def lenOf : Value → Nat
  | .slice _ n _ => n
  | _ => 0
set_option maxRecDepth 100000 in
set_option maxHeartbeats 4000000 in
theorem lost13_any (g : P.G) (hr : g.Right) (n : Nat) (hn : g.owner.length = n) (NX : List (List Int)) (hNX : NX.length = n) (hin : ∀ j, j < n → ∀ z ∈ NX.getD j [], 0 ≤ z ∧ z < (n : Int)) (i : Nat) (hi : i < n)
    (hno : ¬ P.Path (fun x y => (y : Int) ∈ NX.getD x []) (fun y => g.prio.getD y 0 ≤ g.prio.getD i 0) i i) (v vx : Value) (w : World) (hv : GameV w v g) (hG : Grid w vx NX) :
    Calls Tryd.prog 36 #[v, vx, .int .i64 (i : Int)] w fun e w' => e = .returned (.bool false) ∧ Below w.heap.size w w' := by
  have HV := Lib.hid hv
  have hop := hr.prio
  have hmp := hr.moves
  have hmany := hr.many
  have h0 := hr.pos
  rw [hn] at hop hmp hmany h0
  obtain ⟨ba, oa, ka, bb, ob, kb, bc_, oc, kc, rfl, -, hcb, -⟩ := hv.open_ hn hop hmp h0
  obtain ⟨bx, ox, kx, rfl, hcx⟩ := hG.open_ hNX h0
  have HCB := Lib.hid hcb
  have HCX := Lib.hid hcx
  have HBX : Hid (bx < w.heap.size) := Lib.hid (by
    obtain ⟨ao, cap, e, -, h2⟩ := hG
    rcases h2 with h2 | ⟨b, off, h3, h4, -⟩
    · rw [h2] at hNX; simp at hNX; omega
    · injection e with e1
      rw [h3] at e1
      injection e1 with e1
      injection e1 with e1
      omega)
  have HIN := Lib.hid hin
  have HNO := Lib.hid hno
  have hii : (i : Int) < (n : Int) := by omega
  have hi0 : (0 : Int) ≤ (i : Int) := Int.natCast_nonneg _
  have cpi := HCB.out w (Below.refl _ _) i hi
  clear hcb hcx hin hno hop hmp hv hG cpi
  go_enter Tryd.func36, Tryd.ntmps36
  go_upto_region 1 with (fail)
  have bx0 : Box (w.alloc (.cells #[.slice (some ⟨ba, oa, none⟩) n ka, .slice (some ⟨bb, ob, none⟩) n kb, .slice (some ⟨bc_, oc, none⟩) n kc] 25)) (w.heap.size) 25 #[.slice (some ⟨ba, oa, none⟩) n ka, .slice (some ⟨bb, ob, none⟩) n kb, .slice (some ⟨bc_, oc, none⟩) n kc] := Box.new w 25 #[.slice (some ⟨ba, oa, none⟩) n ka, .slice (some ⟨bb, ob, none⟩) n kb, .slice (some ⟨bc_, oc, none⟩) n kc]
  have hbq : Below w.heap.size w (w.alloc (.cells #[.slice (some ⟨ba, oa, none⟩) n ka, .slice (some ⟨bb, ob, none⟩) n kb, .slice (some ⟨bc_, oc, none⟩) n kc] 25)) := (Below.refl _ w).alloc (Nat.le_refl _) _
  have hle0 : w.heap.size ≤ w.heap.size := Nat.le_refl _
  generalize (w.alloc (.cells #[.slice (some ⟨ba, oa, none⟩) n ka, .slice (some ⟨bb, ob, none⟩) n kb, .slice (some ⟨bc_, oc, none⟩) n kc] 25)) = w0 at bx0 hbq  ⊢
  have BQg := Lib.hid bx0
  have W := Lib.hid hbq
  have LEg := Lib.hid hle0
  clear hbq hle0 bx0 
  obtain ⟨qg, hqg⟩ : ∃ qg, w.heap.size = qg := ⟨_, rfl⟩
  rw [hqg] at BQg ⊢
  have LEg : Hid (w.heap.size ≤ qg) := Lib.hid (by omega)
  clear hqg
  go_wp2_with (refine wpl_make elBoolB rfl (.tmp 13) (.tmp 13) rfl n rfl rfl (by omega) (by omega) ?_; intro w1 hown1 hg1 hs1)
  have oi0 : OwnB w1 w.heap.size (.slice (some ⟨w0.heap.size, 0, none⟩) n n) n (fun _ => false) := own_more (OwnB.made hown1) W.out.size
  obtain ⟨pa, hpa⟩ : ∃ pa, w0.heap.size = pa := ⟨_, rfl⟩
  rw [hpa] at oi0 hs1 ⊢
  have HSZ1 := Lib.hid hs1
  have hb := below_of_grown hg1
  replace BQg := Lib.hid (BQg.out.keep (grown_of_below hb none))
  replace W := Lib.hid (W.out.trans (hb.mono W.out.size))
  have OI := Lib.hid oi0
  clear hown1 hg1 hs1 hb hpa oi0
  go_wp2_with fail
  have hbz := Box.new w1 3 #[.int .i64 (i : Int)]
  have OI := Lib.hid (own_grown OI.out (World.grownBy_alloc w1 (.cells #[.int .i64 (i : Int)] 3) none))
  replace BQg := Lib.hid (BQg.out.alloc (.cells #[.int .i64 (i : Int)] 3))
  have WLE := Lib.hid W.out.size
  replace W := Lib.hid (W.out.alloc W.out.size (.cells #[.int .i64 (i : Int)] 3))
  rw [HSZ1.out] at hbz WLE
  obtain ⟨qo, hqo⟩ : ∃ q, pa + 1 = q := ⟨_, rfl⟩
  rw [hqo] at hbz WLE ⊢
  generalize (w1.alloc (.cells #[.int .i64 (i : Int)] 3)) = w2 at hbz OI BQg W ⊢
  have OO : Hid (w2.ownsRow w.heap.size 3 1 (.slice (some ⟨qo, 0, none⟩) 1 1) 1 [.int .i64 (i : Int)]) := Lib.hid ⟨rfl, .inr ⟨qo, 1, #[.int .i64 (i : Int)], rfl, WLE.out, hbz, by omega, by decide, rfl, rfl⟩⟩
  have HLS : Hid (Ls g NX i n (fun _ => false) [i]) := Lib.hid ⟨fun y _ h => by simp at h, fun y hy => by have h1 : y = i := (by simpa using hy); exact ⟨by omega, .inl h1⟩, by simp⟩
  clear hbz hqo WLE
  go_loopw [8] (fun ov wr => ∃ (f : Nat → Bool) (O : List Nat), Ls g NX i n f O ∧ wr.ownsRow w.heap.size 3 1 ov O.length (O.map fun (y : Nat) => Value.int .i64 (y : Int)) ∧ OwnB wr w.heap.size (.slice (some ⟨pa, 0, none⟩) n n) n f ∧ Box wr qg 25 #[.slice (some ⟨ba, oa, none⟩) n ka, .slice (some ⟨bb, ob, none⟩) n kb, .slice (some ⟨bc_, oc, none⟩) n kc] ∧ Below w.heap.size w wr) (fun ov wr => 2 * (n - truesAt wr (.slice (some ⟨pa, 0, none⟩) n n) n) + lenOf ov)
  case atStart => exact ⟨_, [i], HLS.out, OO.out, OI.out, BQg.out, W.out⟩
  case round =>
    obtain ⟨f, O, hls, hoo, hoi, hbg, hbw⟩ := hrel
    replace HLS := Lib.hid hls
    replace OO := Lib.hid hoo
    replace OI := Lib.hid hoi
    replace BQg := Lib.hid hbg
    replace W := Lib.hid hbw
    clear hls hoo hoi hbg hbw
    rcases List.eq_nil_or_concat O with hO | ⟨O', x, hO⟩
    · have hoo := OO.out
      rw [hO] at hoo
      obtain ⟨ao, ak, rfl, -⟩ := own_at hoo
      clear hoo
      obtain ⟨ci, -⟩ := OI.out.cell (j := i) hi
      have HF := Lib.hid (show f i = false from by
        cases h : f i
        · rfl
        · exact absurd (HLS.out.met i hi h) HNO.out)
      rw [HF.out] at ci
      clear hO
      go_wp2_with fail
      exact bodyPost_ret (v := .bool false) (by simp [results, Tryd.results36, go_sem]) rfl ⟨rfl, W.out⟩
    · rw [List.concat_eq_append] at hO
      obtain ⟨m, hm⟩ : ∃ m, O'.length = m := ⟨_, rfl⟩
      have hoo := OO.out
      rw [hO, List.length_append, hm, List.map_append, List.length_singleton] at hoo
      obtain ⟨ao, ak, rfl, hor⟩ := own_at hoo
      obtain ⟨b, rfl, hblo, hbl, hcell⟩ := hor.resolve_left (by simp)
      have hcap : m + 1 ≤ ak ∧ ak ≤ maxLen := by
        rcases hoo.2 with ⟨h1, -⟩ | ⟨_, _, _, e1, -, -, h5, h6, -⟩
        · cases h1
        · injection e1 with _ _ e3
          omega
      have hml := HLS.out.short
      rw [hO, List.length_append, hm] at hml
      simp only [List.length_singleton] at hml
      obtain ⟨hcap, hcap2⟩ := hcap
      have hm0 : (0 : Int) ≤ (m : Int) := Int.natCast_nonneg _
      have hmm : (m : Int) < (m : Int) + 1 := by omega
      have cx : wr.cell? ⟨b, m, none⟩ = some (.int .i64 (x : Int)) := by
        have h1 := hcell m (.int .i64 (x : Int)) (by rw [List.getElem?_append_right (by simp [hm])]; simp [hm])
        rw [Nat.zero_add] at h1
        exact h1
      have HSH := Lib.hid (own_init (by simpa using hoo))
      clear hor hoo hcell
      have hpop := (hO ▸ HLS.out : Ls g NX i n f (O' ++ [x])).pop
      have HL1 := Lib.hid hpop.1
      have HXN := Lib.hid hpop.2.1
      have HXI := Lib.hid hpop.2.2
      have hxn := hpop.2.1
      have hxn0 : (0 : Int) ≤ (x : Int) := Int.natCast_nonneg _
      have hxni : (x : Int) < (n : Int) := by omega
      obtain ⟨M, hM⟩ : ∃ M, 2 * (n - (List.range n).countP f) + O'.length + 1 = M := ⟨_, rfl⟩
      have HM := Lib.hid (Nat.le_of_eq hM)
      have HMM := Lib.hid (show M = 2 * (n - truesAt wr (.slice (some ⟨pa, 0, none⟩) n n) n) + (m + 1) by
        rw [← hM, truesAt_bl (OI.out.bl h0), ← List.countP_eq_length_filter, hm]
        omega)
      obtain ⟨mv, hcw, hmi⟩ := HCX.out w (Below.refl _ _) x hxn
      replace HSH : Hid (wr.ownsRow w.heap.size 3 1 (.slice (some ⟨b, 0, none⟩) m ak) O'.length (O'.map fun (y : Nat) => Value.int .i64 (y : Int))) := Lib.hid (by rw [hm]; exact HSH.out)
      obtain ⟨mo, mk, rfl, hrl, hmc⟩ := hmi
      have HCW := Lib.hid hcw
      clear hpop hM hcw hO
      by_cases hnil : NX.getD x [] = []
      · clear hmc hrl
        rw [hnil] at HCW
        replace HCW : Hid (w.cell? ⟨bx, ox + x, none⟩ = some (.slice mo 0 mk)) := HCW
        clear hnil
        go_wp2_with fail
        clear cx
        go_loopw [8, 10] (fun ov kv wr => ∃ (k : Nat) (f1 : Nat → Bool) (O1 : List Nat), k ≤ 0 ∧ kv = .int .i64 (k : Int) ∧ Ls g NX i n f1 O1 ∧ (x = i ∨ f1 x = true) ∧ 2 * (n - (List.range n).countP f1) + O1.length + 1 ≤ M ∧ LMV w wr qg pa n #[.slice (some ⟨ba, oa, none⟩) n ka, .slice (some ⟨bb, ob, none⟩) n kb, .slice (some ⟨bc_, oc, none⟩) n kc] f1 O1 ov) (fun _ kv _ => 0 - (intOf kv).toNat)
        case atStart => exact ⟨0, f, O', Nat.zero_le _, rfl, HL1.out, HXI.out, HM.out, ⟨HSH.out, OI.out, BQg.out, W.out⟩⟩
        case round =>
          obtain ⟨k, f1, O1, hk, rfl, hls, hxi, hms, hlm⟩ := hrel
          have HLS2 := Lib.hid hls
          have HXI2 := Lib.hid hxi
          have HMS2 := Lib.hid hms
          have HLM := Lib.hid hlm
          have hk0 : (0 : Int) ≤ (k : Int) := Int.natCast_nonneg _
          obtain ⟨ao1, ak1, rfl, -⟩ := own_at hlm.open_
          have hcx2 := (hlm.low.cell (p := ⟨bx, ox + x, none⟩) HBX.out).trans HCW.out
          clear hls hxi hms hlm
          have fk : decide ((k : Int) < 0) = false := decide_eq_false (by omega)
          go_wp2_with fail
          clear hcx2
          go_roundw
          case rel => exact ⟨f1, O1, HLS2.out, HLM.out.open_, HLM.out.in_, HLM.out.box, HLM.out.low⟩
          case measure =>
            have h1 := HMS2.out
            have h2 := HMM.out
            rw [truesAt_bl (HLM.out.in_.bl h0), ← List.countP_eq_length_filter]
            simp only [lenOf]
            omega
      · obtain ⟨bl, ol, rfl, hbl, hcl⟩ := hmc.resolve_left hnil
        have HBL := Lib.hid hbl
        have HCL := Lib.hid hcl
        obtain ⟨ml, hmlq⟩ : ∃ k, (NX.getD x []).length = k := ⟨_, rfl⟩
        rw [hmlq] at HCW HCL hrl
        have HML := Lib.hid hmlq
        clear hbl hcl hmc hnil hmlq
        go_wp2_with fail
        clear cx
        go_loopw [8, 10] (fun ov kv wr => ∃ (k : Nat) (f1 : Nat → Bool) (O1 : List Nat), k ≤ ml ∧ kv = .int .i64 (k : Int) ∧ Ls g NX i n f1 O1 ∧ (x = i ∨ f1 x = true) ∧ 2 * (n - (List.range n).countP f1) + O1.length + 1 ≤ M ∧ LMV w wr qg pa n #[.slice (some ⟨ba, oa, none⟩) n ka, .slice (some ⟨bb, ob, none⟩) n kb, .slice (some ⟨bc_, oc, none⟩) n kc] f1 O1 ov) (fun _ kv _ => ml - (intOf kv).toNat)
        case atStart => exact ⟨0, f, O', Nat.zero_le _, rfl, HL1.out, HXI.out, HM.out, ⟨HSH.out, OI.out, BQg.out, W.out⟩⟩
        case round =>
          obtain ⟨k, f1, O1, hk, rfl, hls, hxi, hms, hlm⟩ := hrel
          have HLS2 := Lib.hid hls
          have HXI2 := Lib.hid hxi
          have HMS2 := Lib.hid hms
          have HLM := Lib.hid hlm
          have hk0 : (0 : Int) ≤ (k : Int) := Int.natCast_nonneg _
          obtain ⟨ao1, ak1, rfl, -⟩ := own_at hlm.open_
          have hcx2 := (hlm.low.cell (p := ⟨bx, ox + x, none⟩) HBX.out).trans HCW.out
          clear hls hxi hms hlm
          by_cases hlt : k < ml
          · have fk : decide ((k : Int) < (ml : Int)) = true := decide_eq_true (by omega)
            have hki : (k : Int) < (ml : Int) := by omega
            have hcy := (HLM.out.low.cell (p := ⟨bl, ol + k, none⟩) HBL.out).trans (HCL.out k hlt)
            obtain ⟨y, hy, hyn⟩ : ∃ y : Nat, (NX.getD x []).getD k 0 = (y : Int) ∧ y < n := by
              have h1 := HIN.out x HXN.out _ (getD_mem (l := NX.getD x []) (k := k) (by rw [HML.out]; exact hlt))
              obtain ⟨y, hy⟩ := Int.eq_ofNat_of_zero_le h1.1
              exact ⟨y, hy, by have := h1.2; rw [hy] at this; omega⟩
            rw [hy] at hcy
            have HMEM := Lib.hid (show (y : Int) ∈ NX.getD x [] by rw [← hy]; exact getD_mem (by rw [HML.out]; exact hlt))
            have hy0 : (0 : Int) ≤ (y : Int) := Int.natCast_nonneg _
            have hyi : (y : Int) < (n : Int) := by omega
            have cpy := HCB.out wr HLM.out.low y hyn
            have cpi := HCB.out wr HLM.out.low i hi
            obtain ⟨ci, fi⟩ := HLM.out.in_.cell hyn
            obtain ⟨z1, hz1⟩ : ∃ z, g.prio.getD y 0 = z := ⟨_, rfl⟩
            obtain ⟨z0, hz0⟩ : ∃ z, g.prio.getD i 0 = z := ⟨_, rfl⟩
            rw [hz1] at cpy
            rw [hz0] at cpi
            obtain ⟨fy, hfy⟩ : ∃ b, f1 y = b := ⟨_, rfl⟩
            rw [hfy] at ci
            have HZ1 := Lib.hid hz1
            have HZ0 := Lib.hid hz0
            have HFY := Lib.hid hfy
            clear hy hz1 hz0 hfy
            have hbb := HLM.out.box
            have gc0 : wr.cell? ⟨qg, 0, none⟩ = some (.slice (some ⟨ba, oa, none⟩) n ka) := hbb.cell 0 _ rfl
            have gc1 : wr.cell? ⟨qg, 1, none⟩ = some (.slice (some ⟨bb, ob, none⟩) n kb) := hbb.cell 1 _ rfl
            have gc2 : wr.cell? ⟨qg, 2, none⟩ = some (.slice (some ⟨bc_, oc, none⟩) n kc) := hbb.cell 2 _ rfl
            clear hbb
            by_cases hz : z1 ≤ z0
            · have fz : decide (z1 ≤ z0) = true := decide_eq_true hz
              cases fy
              · have HL2 := Lib.hid (HLS2.out.push HXN.out HXI2.out hyn HMEM.out (by rw [HZ1.out, HZ0.out]; exact hz) HFY.out)
                have HXI3 := Lib.hid (show x = i ∨ (if x = y then true else f1 x) = true from HXI2.out.imp id fun h => by
                  by_cases e : x = y
                  · rw [if_pos e]
                  · rw [if_neg e]; exact h)
                have HSHT := Lib.hid HLS2.out.short
                have HMS3 := Lib.hid (show 2 * (n - (List.range n).countP (fun z => if z = y then true else f1 z)) + (O1 ++ [y]).length + 1 ≤ M by
                  have h1 := HMS2.out
                  have h2 := P.countP_lt (p := f1) (q := fun z => if z = y then true else f1 z) (List.range n) (fun z _ h => by
                    by_cases e : z = y
                    · simp [e]
                    · simp only [if_neg e]; exact h) ⟨y, List.mem_range.2 hyn, HFY.out, by simp⟩
                  have h3 := List.countP_le_length (p := fun z => if z = y then true else f1 z) (l := List.range n)
                  rw [List.length_range] at h3
                  rw [List.length_append, List.length_singleton]
                  omega)
                go_upto_region 10 with (fail)
                go_quiet (fail)
                replace HLM := Lib.hid (HLM.out.drewN nq)
                generalize wr.drewN nq = wq at HLM ⊢
                clear gc0 gc1 gc2 cpy cpi ci fi hcy hcx2
                have HOW := Lib.hid (HLM.out.set y)
                obtain ⟨ci, fi⟩ := HLM.out.in_.cell hyn
                rw [HFY.out] at ci
                go_wp2_with (at_builtin; refine wpl_append elInt rfl (.tmp 68) (.tmp 70) rfl rfl (own_grown HOW.out (World.grownBy_alloc _ _ none)) rfl (row_at13 (by simp [World.setCell])) ?_ ?_ ?_ ?_ ?_)
                · first | rfl | (intro u hu; simp at hu; subst hu; rfl)
                · have := HSHT.out; first | omega | (simp; omega)
                · have := HSHT.out; first | omega | (simp; omega)
                · have := HLM.out.low.size; first | omega | (simp [World.setCell] at this ⊢; omega)
                intro v7 w7 hown hgr hat
                obtain ⟨vo7, vk7, rfl, -⟩ := own_at hown
                have HLM7 := Lib.hid (HLM.out.push hgr (by simpa using hown))
                clear hown hgr hat ci fi
                go_wp2_with fail
                go_roundw
                case rel => exact ⟨k + 1, _, _, by omega, by first | rfl | go_num, HL2.out, HXI3.out, HMS3.out, HLM7.out⟩
                case measure => simp [intOf]; omega
              · go_upto_region 10 with (fail)
                go_quiet (fail)
                replace HLM := Lib.hid (HLM.out.drewN nq)
                generalize wr.drewN nq = wq at HLM ⊢
                clear gc0 gc1 gc2 cpy cpi ci fi hcy hcx2
                go_wp2_with fail
                go_roundw
                case rel => exact ⟨k + 1, _, _, by omega, by first | rfl | go_num, HLS2.out, HXI2.out, HMS2.out, HLM.out⟩
                case measure => simp [intOf]; omega
            · have fz : decide (z1 ≤ z0) = false := decide_eq_false hz
              go_upto_region 10 with (fail)
              go_quiet (fail)
              replace HLM := Lib.hid (HLM.out.drewN nq)
              generalize wr.drewN nq = wq at HLM ⊢
              clear gc0 gc1 gc2 cpy cpi ci fi hcy hcx2
              go_wp2_with fail
              go_roundw
              case rel => exact ⟨k + 1, _, _, by omega, by first | rfl | go_num, HLS2.out, HXI2.out, HMS2.out, HLM.out⟩
              case measure => simp [intOf]; omega
          · have fk : decide ((k : Int) < (ml : Int)) = false := decide_eq_false (by omega)
            go_wp2_with fail
            clear hcx2
            go_roundw
            case rel => exact ⟨f1, O1, HLS2.out, HLM.out.open_, HLM.out.in_, HLM.out.box, HLM.out.low⟩
            case measure =>
              have h1 := HMS2.out
              have h2 := HMM.out
              rw [truesAt_bl (HLM.out.in_.bl h0), ← List.countP_eq_length_filter]
              simp only [lenOf]
              omega
end W
end Go.Proofs.YtpjmboonaciplaaDoor
end
section
namespace Go.Proofs.YtpjmboonaciplaaDoor
open Go.RowKit
namespace W

/-- The rows of moves that count, once the first of a region are through. -/
def nextL (g : P.G) (R M : List Int) (p : Int) (n k : Nat) : List (List Int) := (List.range n).map fun (j : Nat) => if (j : Int) ∈ R.take k then keptL g M p j else []
theorem nextL_len {g : P.G} {R M : List Int} {p : Int} {n k : Nat} : (nextL g R M p n k).length = n := by unfold nextL; rw [List.length_map, List.length_range]
theorem nextL_at {g : P.G} {R M : List Int} {p : Int} {n k j : Nat} (hj : j < n) : (nextL g R M p n k).getD j [] = if (j : Int) ∈ R.take k then keptL g M p j else [] := by
  unfold nextL
  rw [List.getD_eq_getElem?_getD, List.getElem?_map, List.getElem?_range hj]
  rfl
theorem nextL_put {g : P.G} {R M : List Int} {p : Int} {n k x j : Nat} (hk : k < R.length) (hx : R.getD k 0 = (x : Int)) (hj : j < n) : (nextL g R M p n (k + 1)).getD j [] = if j = x then keptL g M p x else (nextL g R M p n k).getD j [] := by
  rw [nextL_at hj, nextL_at hj, List.take_add_one, List.getElem?_eq_getElem hk]
  have hx2 : R[k] = (x : Int) := by
    rw [← hx, List.getD_eq_getElem?_getD, List.getElem?_eq_getElem hk]
    rfl
  by_cases e : j = x
  · rw [if_pos e, if_pos (List.mem_append_right _ (by rw [hx2, e]; simp)), e]
  · rw [if_neg e]
    have h1 : (j : Int) ∈ R.take k ++ (some R[k]).toList ↔ (j : Int) ∈ R.take k := by
      rw [List.mem_append]
      constructor
      · rintro (h | h)
        · exact h
        · rw [hx2] at h
          have : (j : Int) = (x : Int) := by simpa using h
          omega
      · exact .inl
    by_cases h2 : (j : Int) ∈ R.take k
    · rw [if_pos h2, if_pos (h1.2 h2)]
    · rw [if_neg h2, if_neg (fun h => h2 (h1.1 h))]
/-- Ways by the rows that count are ways by the strategy. -/
theorem path_kept {g : P.G} {R M : List Int} {p : Int} {n : Nat} {ok : Nat → Prop} (hW : P.WinsIn g (· < n) p (fun i => M.getD i 0) (fun i => (i : Int) ∈ R)) (hin : ∀ j, j < n → ∀ z ∈ (nextL g R M p n R.length).getD j [], 0 ≤ z ∧ z < (n : Int)) {x y : Nat}
    (h : P.Path (fun x y => (y : Int) ∈ (nextL g R M p n R.length).getD x []) ok x y) (hx : (x : Int) ∈ R) : P.Path (P.Edge g (· < n) p fun i => M.getD i 0) (fun j => (j : Int) ∈ R ∧ ok j) x y := by
  have key : ∀ x y : Nat, (x : Int) ∈ R → (y : Int) ∈ (nextL g R M p n R.length).getD x [] → P.Edge g (· < n) p (fun i => M.getD i 0) x y := by
    intro x y hx hy
    have hxn : x < n := hW.sub x hx
    have hyn := hin x hxn _ hy
    rw [nextL_at hxn, List.take_length, if_pos hx] at hy
    unfold keptL at hy
    by_cases ho : g.owner.getD x 0 = p
    · rw [if_pos ho] at hy
      have hy2 : (y : Int) = M.getD x 0 := by simpa using hy
      obtain ⟨j, h1, h2, h3⟩ := hW.own x hx ho
      exact ⟨by rw [hy2, ← h1]; exact h2, by omega, fun _ => hy2⟩
    · rw [if_neg ho] at hy
      exact ⟨hy, by omega, fun h => absurd h ho⟩
  induction h with
  | one h hy =>
    have he := key _ _ hx h
    exact .one he ⟨hW.stays hx he, hy⟩
  | more h hy _ ih =>
    have he := key _ _ hx h
    have h1 := hW.stays hx he
    exact .more he ⟨h1, hy⟩ (ih h1)
theorem kept_in {g : P.G} (hr : g.Right) {R M : List Int} {p : Int} {n : Nat} (hn : g.owner.length = n) (hW : P.WinsIn g (· < n) p (fun i => M.getD i 0) (fun i => (i : Int) ∈ R)) {i : Nat} (hi : (i : Int) ∈ R) :
    (g.owner.getD i 0 = p → M.getD i 0 ∈ g.moves.getD i []) ∧ ∀ x ∈ keptL g M p i, x ∈ R := by
  have hin : i < n := hW.sub i hi
  refine ⟨fun ho => ?_, fun x hx => ?_⟩
  · obtain ⟨j, h1, h2, -⟩ := hW.own i hi ho
    rw [← h1]
    exact h2
  · unfold keptL at hx
    by_cases ho : g.owner.getD i 0 = p
    · rw [if_pos ho] at hx
      obtain ⟨j, h1, -, h3⟩ := hW.own i hi ho
      have : x = M.getD i 0 := by simpa using hx
      rw [this, ← h1]
      exact h3
    · rw [if_neg ho] at hx
      have h1 := hr.moves_in (i := i) (by rw [hn]; exact hin) x hx
      rw [hn] at h1
      obtain ⟨j, rfl⟩ := Int.eq_ofNat_of_zero_le h1.1
      exact hW.oth i hi ho j hx (by show j < n; omega)
theorem nexts_in {g : P.G} (hr : g.Right) {R M : List Int} {p : Int} {n : Nat} (hn : g.owner.length = n) (hW : P.WinsIn g (· < n) p (fun i => M.getD i 0) (fun i => (i : Int) ∈ R)) (hRn : ∀ x ∈ R, 0 ≤ x ∧ x < (n : Int)) : ∀ j, j < n → ∀ z ∈ (nextL g R M p n R.length).getD j [], 0 ≤ z ∧ z < (n : Int) := by
  intro j hj z hz
  rw [nextL_at hj, List.take_length] at hz
  by_cases h : (j : Int) ∈ R
  · rw [if_pos h] at hz
    exact hRn z ((kept_in hr hn hW h).2 z hz)
  · rw [if_neg h] at hz
    cases hz
/-- The rows in memory: a row of the call's own, of rows of numbers that lie somewhere. -/
def NXM (w wr : World) (pn n : Nat) (ls : List (List Int)) : Prop := ∃ xs : List Value, wr.ownsRow w.heap.size 22 1 (.slice (some ⟨pn, 0, none⟩) n n) n xs ∧ ∀ j, j < n → ∃ a m k, xs[j]? = some (.slice a m k) ∧ Ints wr (.slice a m k) (ls.getD j [])
theorem NXM.start {w wr : World} {pn n : Nat} {ls : List (List Int)} (h : wr.ownsRow w.heap.size 22 1 (.slice (some ⟨pn, 0, none⟩) n n) n (List.replicate n (.slice none 0 0))) (hl : ∀ j, j < n → ls.getD j [] = []) : NXM w wr pn n ls :=
  ⟨_, h, fun j hj => ⟨none, 0, 0, by rw [List.getElem?_replicate, if_pos hj], by rw [hl j hj]; exact ⟨none, 0, rfl, by simp, .inl rfl⟩⟩⟩
theorem NXM.on {w wr wq : World} {pn n : Nat} {ls : List (List Int)} (h : NXM w wr pn n ls) (hb : Below wr.heap.size wr wq) : NXM w wq pn n ls := by
  obtain ⟨xs, h1, h2⟩ := h
  exact ⟨xs, own_grown h1 (grown_of_below hb none), fun j hj => by obtain ⟨a, m, k, h3, h4⟩ := h2 j hj; exact ⟨a, m, k, h3, h4.on hb⟩⟩
theorem NXM.cell {w wr : World} {pn n : Nat} {ls : List (List Int)} (h : NXM w wr pn n ls) {j : Nat} (hj : j < n) : (∃ u, wr.cell? ⟨pn, j, none⟩ = some u) ∧ wr.frozen? ⟨pn, j, none⟩ = false := by
  obtain ⟨xs, h1, h2⟩ := h
  obtain ⟨a, m, k, h3, -⟩ := h2 j hj
  exact ⟨⟨_, (h1.cellAt j (by omega)).trans h3⟩, h1.frozenAt j⟩
theorem NXM.grid {w wr : World} {pn n : Nat} {ls : List (List Int)} (h : NXM w wr pn n ls) (hl : ls.length = n) (hn : n ≤ 5864062014634) : Grid wr (.slice (some ⟨pn, 0, none⟩) n n) ls := by
  obtain ⟨xs, h1, h2⟩ := h
  refine ⟨_, n, by rw [hl], by omega, ?_⟩
  by_cases h0 : n = 0
  · exact .inl (List.eq_nil_of_length_eq_zero (by omega))
  · refine .inr ⟨pn, 0, rfl, (own_lt h1 pn rfl).2, fun j hj => ?_⟩
    obtain ⟨a, m, k, h3, h4⟩ := h2 j (by omega)
    exact ⟨_, by rw [Nat.zero_add]; exact (h1.cellAt j (by omega)).trans h3, h4⟩
/-- A cell of rows is no cell of numbers. -/
theorem NXM.apart {w wr : World} {pn n : Nat} {ls : List (List Int)} (h : NXM w wr pn n ls) {j : Nat} {z : Int} (hc : wr.cell? ⟨pn, j, none⟩ = some (.int .i64 z)) : False := by
  obtain ⟨xs, h1, h2⟩ := h
  by_cases hj : j < n
  · obtain ⟨a, m, k, h3, -⟩ := h2 j hj
    rw [h1.cellAt j (by omega), h3] at hc
    cases hc
  · rcases h1.2 with ⟨h3, -⟩ | ⟨g, cap, cur, e1, h3, h4, h5, h6, h7, h8⟩
    · cases h3
    · injection e1 with e1 e2 e3
      injection e1 with e1
      injection e1 with e1
      subst e1 e3
      rw [cell_of_row wr pn j cur 22 (0, 0) h4, Array.getElem?_eq_none (by omega)] at hc
      cases hc
theorem NXM.ints {w wr : World} {pn n : Nat} {ls : List (List Int)} (h : NXM w wr pn n ls) {v : Value} {zs : List Int} (hv : Ints wr v zs) (x : Nat) (u : Value) : Ints (wr.setCell ⟨pn, x, none⟩ u) v zs := by
  obtain ⟨ao, cap, rfl, h1, h2⟩ := hv
  refine ⟨ao, cap, rfl, h1, h2.imp id ?_⟩
  rintro ⟨b, off, rfl, h3, h4⟩
  by_cases hz : zs.length = 0
  · exact ⟨b, off, rfl, by simpa [World.setCell] using h3, fun j hj => by omega⟩
  · have hne : b ≠ pn := fun e => h.apart (by rw [← e]; exact h4 0 (by omega))
    refine ⟨b, off, rfl, by simpa [World.setCell] using h3, fun j hj => ?_⟩
    have hg := grown_set wr ⟨pn, x, none⟩ u
    exact hg.cell (h4 j hj) (fun e => hne (by injection e))
theorem NXM.put {w wr : World} {pn n x : Nat} {ls ls' : List (List Int)} (h : NXM w wr pn n ls) {a : Option Addr} {m k : Nat} {zs : List Int} (hv : Ints wr (.slice a m k) zs) (hl : ∀ j, j < n → ls'.getD j [] = if j = x then zs else ls.getD j []) : NXM w (wr.setCell ⟨pn, x, none⟩ (.slice a m k)) pn n ls' := by
  have h0 := h
  obtain ⟨xs, h1, h2⟩ := h
  refine ⟨_, (h1.stored x (.slice a m k)).1, fun j hj => ?_⟩
  rw [hl j hj]
  by_cases e : j = x
  · rw [if_pos e, e]
    rw [e] at hj
    exact ⟨a, m, k, by rw [List.getElem?_set_self (by have := h1.1; omega)], h0.ints hv x _⟩
  · rw [if_neg e]
    obtain ⟨a', m', k', h3, h4⟩ := h2 j hj
    exact ⟨a', m', k', by rw [List.getElem?_set_ne (Ne.symm e)]; exact h3, h0.ints h4 x _⟩

set_option maxRecDepth 100000 in
set_option maxHeartbeats 8000000 in
theorem wins13_any (g : P.G) (hr : g.Right) (n : Nat) (hn : g.owner.length = n) (R M : List Int) (hRb : R.length ≤ 17592186043904) (hMn : M.length = n) (p : Int) (hRn : ∀ x ∈ R, 0 ≤ x ∧ x < (n : Int))
    (hW : P.WinsIn g (· < n) p (fun i => M.getD i 0) (fun i => (i : Int) ∈ R)) (v vr vm : Value) (w : World) (hv : GameV w v g) (hR : Ints w vr R) (hM : Ints w vm M) :
    Calls Tryd.prog 17 #[v, vr, vm, .int .i64 p] w fun e w' => e = .returned (.bool true) ∧ Below w.heap.size w w' := by
  have HV := Lib.hid hv
  have HRI := Lib.hid hR
  have HMV := Lib.hid hM
  have HRB := Lib.hid hRb
  have HRN := Lib.hid hRn
  have HMN := Lib.hid hMn
  have HW := Lib.hid hW
  have HR := Lib.hid hr
  have HN := Lib.hid hn
  have HNX := Lib.hid (nexts_in hr hn hW hRn)
  have hop := hr.prio
  have hmp := hr.moves
  have hmany := hr.many
  have h0 := hr.pos
  rw [hn] at hop hmp hmany h0
  obtain ⟨ba, oa, ka, bb, ob, kb, bc_, oc, kc, rfl, -, hcb, -⟩ := hv.open_ hn hop hmp h0
  have HCB := Lib.hid hcb
  obtain ⟨ro, kR, rfl, -, hrc⟩ := hR
  obtain ⟨mo, km, rfl, -, -⟩ := hM
  rw [hMn] at HMV ⊢
  obtain ⟨rl, hrl⟩ : ∃ k, R.length = k := ⟨_, rfl⟩
  rw [hrl] at HRI hrc ⊢
  have HRL := Lib.hid hrl
  have hrb : rl ≤ 17592186043904 := by omega
  clear hv hr hn hW hRn hRb hMn hop hmp hcb hrl
  go_enter Tryd.func17, Tryd.ntmps17
  go_upto_region 1 with (fail)
  have bx0 : Box (w.alloc (.cells #[.slice (some ⟨ba, oa, none⟩) n ka, .slice (some ⟨bb, ob, none⟩) n kb, .slice (some ⟨bc_, oc, none⟩) n kc] 25)) (w.heap.size) 25 #[.slice (some ⟨ba, oa, none⟩) n ka, .slice (some ⟨bb, ob, none⟩) n kb, .slice (some ⟨bc_, oc, none⟩) n kc] := Box.new w 25 #[.slice (some ⟨ba, oa, none⟩) n ka, .slice (some ⟨bb, ob, none⟩) n kb, .slice (some ⟨bc_, oc, none⟩) n kc]
  have hbq : Below w.heap.size w (w.alloc (.cells #[.slice (some ⟨ba, oa, none⟩) n ka, .slice (some ⟨bb, ob, none⟩) n kb, .slice (some ⟨bc_, oc, none⟩) n kc] 25)) := (Below.refl _ w).alloc (Nat.le_refl _) _
  have hle0 : w.heap.size ≤ w.heap.size := Nat.le_refl _
  generalize (w.alloc (.cells #[.slice (some ⟨ba, oa, none⟩) n ka, .slice (some ⟨bb, ob, none⟩) n kb, .slice (some ⟨bc_, oc, none⟩) n kc] 25)) = w0 at bx0 hbq  ⊢
  have BQg := Lib.hid bx0
  have W := Lib.hid hbq
  have LEg := Lib.hid hle0
  clear hbq hle0 bx0 
  obtain ⟨qg, hqg⟩ : ∃ qg, w.heap.size = qg := ⟨_, rfl⟩
  rw [hqg] at BQg ⊢
  have LEg : Hid (w.heap.size ≤ qg) := Lib.hid (by omega)
  clear hqg
  have hbb := BQg.out
  have gc0 : w0.cell? ⟨qg, 0, none⟩ = some (.slice (some ⟨ba, oa, none⟩) n ka) := hbb.cell 0 _ rfl
  have gc1 : w0.cell? ⟨qg, 1, none⟩ = some (.slice (some ⟨bb, ob, none⟩) n kb) := hbb.cell 1 _ rfl
  have gc2 : w0.cell? ⟨qg, 2, none⟩ = some (.slice (some ⟨bc_, oc, none⟩) n kc) := hbb.cell 2 _ rfl
  clear hbb
  go_wp2_with (refine wpl_make elInts rfl (.tmp 18) (.tmp 18) rfl n rfl rfl (by omega) (by omega) ?_; intro w1 hown1 hg1 hs1)
  have oi0 := own_more hown1 W.out.size
  obtain ⟨pn, hpn⟩ : ∃ pn, w0.heap.size = pn := ⟨_, rfl⟩
  rw [hpn] at oi0 ⊢
  have NX : Hid (NXM w w1 pn n (nextL g R M p n 0)) := Lib.hid (NXM.start oi0 fun j hj => by rw [nextL_at hj, List.take_zero, if_neg (by simp)])
  have hb := below_of_grown hg1
  replace BQg := Lib.hid (BQg.out.keep (grown_of_below hb none))
  replace W := Lib.hid (W.out.trans (hb.mono W.out.size))
  clear hown1 hg1 hs1 hb hpn oi0 gc0 gc1 gc2
  by_cases hnil : R = []
  · have hr0 : rl = 0 := by have := HRL.out; rw [hnil] at this; simp at this; omega
    clear hrc
    rw [hr0] at HRI HRL ⊢
    clear hnil hr0 hrb
    go_wp2_with fail
    go_loopw [10] (fun i wr => ∃ k : Nat, k ≤ 0 ∧ i = .int .i64 (k : Int) ∧ NXM w wr pn n (nextL g R M p n k) ∧ Box wr qg 25 #[.slice (some ⟨ba, oa, none⟩) n ka, .slice (some ⟨bb, ob, none⟩) n kb, .slice (some ⟨bc_, oc, none⟩) n kc] ∧ Below w.heap.size w wr) (fun i _ => 0 - (intOf i).toNat)
    case atStart => exact ⟨0, Nat.zero_le _, rfl, NX.out, BQg.out, W.out⟩
    case round =>
      obtain ⟨k, hk, rfl, hnx, hbq, hbw⟩ := hrel
      replace NX := Lib.hid hnx
      replace BQg := Lib.hid hbq
      replace W := Lib.hid hbw
      have hk0 : (0 : Int) ≤ (k : Int) := Int.natCast_nonneg _
      clear hnx hbq hbw
      have fk : decide ((k : Int) < 0) = false := decide_eq_false (by omega)
      replace NX : Hid (NXM w wr pn n (nextL g R M p n R.length)) := Lib.hid (by have h1 := NX.out; rw [show k = R.length by rw [HRL.out]; omega] at h1; exact h1)
      clear hk
      go_wp2_with fail
      have HGR := Lib.hid (NX.out.grid nextL_len (by omega))
      go_loopw [13] (fun i wq => ∃ k : Nat, k ≤ 0 ∧ i = .int .i64 (k : Int) ∧ Below wr.heap.size wr wq ∧ Box wq qg 25 #[.slice (some ⟨ba, oa, none⟩) n ka, .slice (some ⟨bb, ob, none⟩) n kb, .slice (some ⟨bc_, oc, none⟩) n kc] ∧ Below w.heap.size w wq) (fun i _ => 0 - (intOf i).toNat)
      case atStart => exact ⟨0, Nat.zero_le _, rfl, Below.refl _ _, BQg.out, W.out⟩
      case round =>
        obtain ⟨k, hk, rfl, hbb, hbq, hbw⟩ := hrel
        have HB := Lib.hid hbb
        replace BQg := Lib.hid hbq
        replace W := Lib.hid hbw
        have hk0 : (0 : Int) ≤ (k : Int) := Int.natCast_nonneg _
        clear hbb hbq hbw
        have fk : decide ((k : Int) < 0) = false := decide_eq_false (by omega)
        go_wp2_with fail
        exact bodyPost_ret (v := .bool true) (by simp [results, Tryd.results17, go_sem]) rfl ⟨rfl, W.out⟩
  · obtain ⟨bR, oR, rfl, hbR, hcR⟩ := hrc.resolve_left hnil
    have HBR := Lib.hid hbR
    have HRC := Lib.hid hcR
    clear hrc hnil hbR hcR
    go_wp2_with fail
    go_loopw [10] (fun i wr => ∃ k : Nat, k ≤ rl ∧ i = .int .i64 (k : Int) ∧ NXM w wr pn n (nextL g R M p n k) ∧ Box wr qg 25 #[.slice (some ⟨ba, oa, none⟩) n ka, .slice (some ⟨bb, ob, none⟩) n kb, .slice (some ⟨bc_, oc, none⟩) n kc] ∧ Below w.heap.size w wr) (fun i _ => rl - (intOf i).toNat)
    case atStart => exact ⟨0, Nat.zero_le _, rfl, NX.out, BQg.out, W.out⟩
    case round =>
      obtain ⟨k, hk, rfl, hnx, hbq, hbw⟩ := hrel
      replace NX := Lib.hid hnx
      replace BQg := Lib.hid hbq
      replace W := Lib.hid hbw
      have hk0 : (0 : Int) ≤ (k : Int) := Int.natCast_nonneg _
      clear hnx hbq hbw
      by_cases hlt : k < rl
      · have fk : decide ((k : Int) < (rl : Int)) = true := decide_eq_true (by omega)
        have hki : (k : Int) < (rl : Int) := by omega
        obtain ⟨x, hx, hxn⟩ : ∃ x : Nat, R.getD k 0 = (x : Int) ∧ x < n := by
          have h1 := HRN.out _ (getD_mem (l := R) (k := k) (by rw [HRL.out]; exact hlt))
          obtain ⟨x, hx⟩ := Int.eq_ofNat_of_zero_le h1.1
          exact ⟨x, hx, by have := h1.2; rw [hx] at this; omega⟩
        have HXN := Lib.hid hxn
        have HX := Lib.hid hx
        have HXC := Lib.hid ((HRC.out k hlt).trans (by rw [hx]))
        have HKI := Lib.hid (kept_in HR.out HN.out HW.out (i := x) (by rw [← hx]; exact getD_mem (by rw [HRL.out]; exact hlt)))
        have hx0 : (0 : Int) ≤ (x : Int) := Int.natCast_nonneg _
        have hxi : (x : Int) < (n : Int) := by omega
        clear hx
        go_upto_region 5 with (fail)
        refine Rt.wp_region_tail 1 (fun idx => match idx with | 0 => (fun v _ _ => v = .agg #[.slice (some ⟨ba, oa, none⟩) n ka, .slice (some ⟨bb, ob, none⟩) n kb, .slice (some ⟨bc_, oc, none⟩) n kc]) | 1 => (fun v _ _ => v = (.slice (some ⟨bR, oR, none⟩) rl kR)) | 2 => (fun v _ _ => v = (.slice mo n km)) | 3 => (fun v _ _ => v = (.int .i64 p)) | 4 => (fun v _ _ => v = (.slice (some ⟨bR, oR, none⟩) rl kR)) | 5 => (fun v _ _ => v = (.int .i64 (k : Int))) | 6 => (fun v _ _ => v = (.pointer (some ⟨bR, oR + k, none⟩))) | 7 => (fun v _ _ => v = (.int .i64 (x : Int))) | 8 => (fun v _ w' => (∃ vl, v = .tuple #[vl, .bool true] ∧ Ints w' vl (keptL g M p x))) | 9 => (fun v ds w' => v = ds.getD 0 undef ∧ (∃ vl, v = .tuple #[vl, .bool true] ∧ Ints w' vl (keptL g M p x))) | 10 => (fun v ds _ => v = tupW (ds.getD 0 undef) 0) | 11 => (fun v ds _ => v = tupW (ds.getD 0 undef) 1) | 12 => (fun v ds _ => v = ds.getD 0 undef) | _ => fun _ _ _ => True) (fun _ _ _ _ => True) (Rk.allK) 99 (by kernel_rfl) (by rfl) (by kernel_rfl) (by rfl) ?_ ?_ ?_ ?_
        · refine ⟨?_, ?_, ?_, ?_, ?_, ?_, ?_, ?_, ?_, ?_, ?_, ?_, ?_, trivial⟩
          · intro A w' K vals h hn hT hgk hK0
            have r0 : A.tmps[4]?.getD undef = .pointer (some ⟨qg, 0, none⟩) := Rg.slot h.1
            have bs := BQg.out.keep (Rk.grown_of hgk)
            have cc0 : w'.cell? ⟨qg, 0, none⟩ = some (.slice (some ⟨ba, oa, none⟩) n ka) := bs.cell 0 _ rfl
            have cc1 : w'.cell? ⟨qg, 1, none⟩ = some (.slice (some ⟨bb, ob, none⟩) n kb) := bs.cell 1 _ rfl
            have cc2 : w'.cell? ⟨qg, 2, none⟩ = some (.slice (some ⟨bc_, oc, none⟩) n kc) := bs.cell 2 _ rfl
            clear h hn hT hgk bs
            simp [Oper.wp, execOp, go_sem, r0, cc0, cc1, cc2]
            exact hK0 _ _ (Rk.Keeps.refl _ _) rfl trivial
          · intro A w' K vals h hn hT hgk hK0
            have r0 : A.tmps[1]?.getD undef = .slice (some ⟨bR, oR, none⟩) rl kR := Rg.slot h.1
            clear h hn hT hgk
            simp [Oper.wp, execOp, go_sem, r0]
            exact hK0 _ _ (Rk.Keeps.refl _ _) rfl trivial
          · intro A w' K vals h hn hT hgk hK0
            have r0 : A.tmps[2]?.getD undef = .slice mo n km := Rg.slot h.1
            clear h hn hT hgk
            simp [Oper.wp, execOp, go_sem, r0]
            exact hK0 _ _ (Rk.Keeps.refl _ _) rfl trivial
          · intro A w' K vals h hn hT hgk hK0
            have r0 : A.tmps[3]?.getD undef = .int .i64 p := Rg.slot h.1
            clear h hn hT hgk
            simp [Oper.wp, execOp, go_sem, r0]
            exact hK0 _ _ (Rk.Keeps.refl _ _) rfl trivial
          · intro A w' K vals h hn hT hgk hK0
            have r0 : A.tmps[1]?.getD undef = .slice (some ⟨bR, oR, none⟩) rl kR := Rg.slot h.1
            clear h hn hT hgk
            simp [Oper.wp, execOp, go_sem, r0]
            exact hK0 _ _ (Rk.Keeps.refl _ _) rfl trivial
          · intro A w' K vals h hn hT hgk hK0
            have r0 : A.tmps[10]?.getD undef = .int .i64 (k : Int) := Rg.slot h.1
            clear h hn hT hgk
            simp [Oper.wp, execOp, go_sem, r0]
            exact hK0 _ _ (Rk.Keeps.refl _ _) rfl trivial
          · intro A w' K vals h hn hT hgk hK0
            have r0 : A.tmps[31]?.getD undef = vals 4 := Rg.slot h.1
            have s0 : vals 4 = (.slice (some ⟨bR, oR, none⟩) rl kR) := hn.1
            have r1 : A.tmps[32]?.getD undef = vals 5 := Rg.slot h.2.1
            have s1 : vals 5 = (.int .i64 (k : Int)) := hn.2.1
            clear h hn hT hgk
            simp [Oper.wp, execOp, go_sem, r0, r1, s0, s1, hki, hk0]
            exact hK0 _ _ (Rk.Keeps.refl _ _) rfl trivial
          · intro A w' K vals h hn hT hgk hK0
            have r0 : A.tmps[33]?.getD undef = vals 6 := Rg.slot (h.1)
            have r1 : vals 6 = (.pointer (some ⟨bR, oR + k, none⟩)) := hn.1
            have c : w'.cell? ⟨bR, oR + k, none⟩ = some (.int .i64 (x : Int)) := ((W.out.trans ((below_of_grown (Rk.grown_of hgk)).mono W.out.size)).cell (p := ⟨bR, oR + k, none⟩) HBR.out).trans HXC.out
            clear h hn hT hgk
            simp [Oper.wp, execOp, go_sem, r0, r1, c]
            exact hK0 _ _ (Rk.Keeps.refl _ _) rfl trivial
          · intro A w' K vals h hn hT hgk hK0
            have r0 : A.tmps[27]?.getD undef = vals 0 := Rg.slot h.2.1
            have r1 : A.tmps[28]?.getD undef = vals 1 := Rg.slot h.2.2.1
            have r2 : A.tmps[29]?.getD undef = vals 2 := Rg.slot h.2.2.2.1
            have r3 : A.tmps[30]?.getD undef = vals 3 := Rg.slot h.2.2.2.2.1
            have r4 : A.tmps[34]?.getD undef = vals 7 := Rg.slot h.2.2.2.2.2.1
            have s0 : vals 0 = .agg #[.slice (some ⟨ba, oa, none⟩) n ka, .slice (some ⟨bb, ob, none⟩) n kb, .slice (some ⟨bc_, oc, none⟩) n kc] := hn.1
            have s1 : vals 1 = (.slice (some ⟨bR, oR, none⟩) rl kR) := hn.2.1
            have s2 : vals 2 = (.slice mo n km) := hn.2.2.1
            have s3 : vals 3 = (.int .i64 p) := hn.2.2.2.1
            have s4 : vals 7 = (.int .i64 (x : Int)) := hn.2.2.2.2.1
            have hb := W.out.trans ((below_of_grown (Rk.grown_of hgk)).mono W.out.size)
            clear h hn hT
            simp [Oper.wp, go_sem, r0, r1, r2, r3, r4, s0, s1, s2, s3, s4]
            refine (kept13_any g HR.out n HN.out R M HRB.out p x HXN.out HMN.out HKI.out.1 HKI.out.2 _ _ _ w' (HV.out.on hb) (HRI.out.on hb) (HMV.out.on hb)).mono ?_
            rintro e w'' ⟨vl, rfl, hvl, hb⟩
            exact hK0 _ _ (Rk.keep_of (grown_of_below hb _)) ⟨vl, rfl, hvl⟩ trivial
          · intro A w' K vals h hn hT hgk hK0
            have r0 : A.tmps[35]?.getD undef = vals 8 := Rg.slot h.1
            have n3 : (∃ vl, vals 8 = .tuple #[vl, .bool true] ∧ Ints w' vl (keptL g M p x)) := hn.1
            clear h hn hT hgk
            simp [Oper.wp, execOp, go_sem, r0]
            exact hK0 _ _ (Rk.Keeps.refl _ _) ⟨rfl, n3⟩ trivial
          · intro A w' K vals h hn hT hgk hK0
            have r0 : A.tmps[26]?.getD undef = vals 9 := Rg.slot h.1
            obtain ⟨vl, hv, -⟩ : (∃ vl, vals 9 = .tuple #[vl, .bool true] ∧ Ints w' vl (keptL g M p x)) := hn.1.2
            clear h hn hT hgk
            simp [Oper.wp, execOp, go_sem, r0, hv]
            refine hK0 _ _ (Rk.Keeps.refl _ _) ?_ trivial
            show _ = tupW (vals 9) 0
            rw [hv]
            rfl
          · intro A w' K vals h hn hT hgk hK0
            have r0 : A.tmps[26]?.getD undef = vals 9 := Rg.slot h.1
            obtain ⟨vl, hv, -⟩ : (∃ vl, vals 9 = .tuple #[vl, .bool true] ∧ Ints w' vl (keptL g M p x)) := hn.1.2
            clear h hn hT hgk
            simp [Oper.wp, execOp, go_sem, r0, hv]
            refine hK0 _ _ (Rk.Keeps.refl _ _) ?_ trivial
            show _ = tupW (vals 9) 1
            rw [hv]
            rfl
          · intro A w' K vals h hn hT hgk hK0
            have r0 : A.tmps[36]?.getD undef = vals 10 := Rg.slot h.1
            clear h hn hT hgk
            simp [Oper.wp, execOp, go_sem, r0]
            exact hK0 _ _ (Rk.Keeps.refl _ _) rfl trivial
        · refine ⟨?_, ?_, ?_, ?_, ?_, ?_, ?_, ?_, ?_, ?_, ?_, ?_, ?_, trivial⟩
          · exact fun _ _ _ _ _ _ h => h
          · exact fun _ _ _ _ _ _ h => h
          · exact fun _ _ _ _ _ _ h => h
          · exact fun _ _ _ _ _ _ h => h
          · exact fun _ _ _ _ _ _ h => h
          · exact fun _ _ _ _ _ _ h => h
          · exact fun _ _ _ _ _ _ h => h
          · exact fun _ _ _ _ _ _ h => h
          · exact fun _ _ _ _ _ h ⟨vl, h1, h2⟩ => ⟨vl, h1, h2.grown (Rk.grown_of h)⟩
          · exact fun _ _ _ _ _ h ⟨h0, vl, h1, h2⟩ => ⟨h0, vl, h1, h2.grown (Rk.grown_of h)⟩
          · exact fun _ _ _ _ _ _ h => h
          · exact fun _ _ _ _ _ _ h => h
          · exact fun _ _ _ _ _ _ h => h
        · exact fun _ _ _ _ _ _ h => h
        · intro vals w8 G hgk hS hG
          obtain ⟨vl, s9, hvl⟩ : (∃ vl, vals 9 = .tuple #[vl, .bool true] ∧ Ints w8 vl (keptL g M p x)) := hS.2.2.2.2.2.2.2.2.2.1.2
          have s10 : vals 10 = tupW (vals 9) 0 := hS.2.2.2.2.2.2.2.2.2.2.1
          have s11 : vals 11 = tupW (vals 9) 1 := hS.2.2.2.2.2.2.2.2.2.2.2.1
          have s12 : vals 12 = vals 10 := hS.2.2.2.2.2.2.2.2.2.2.2.2.1
          clear hS
          rw [s9] at s10 s11
          replace s10 : vals 10 = vl := s10
          replace s11 : vals 11 = .bool true := s11
          rw [s10] at s12
          obtain ⟨va, vk, rfl, -, -⟩ := id hvl
          have HVL := Lib.hid hvl
          have hb := below_of_grown (Rk.grown_of hgk)
          replace NX := Lib.hid (NX.out.on hb)
          replace BQg := Lib.hid (BQg.out.keep (grown_of_below hb none))
          replace W := Lib.hid (W.out.trans (hb.mono W.out.size))
          clear hb hgk hvl
          refine hG ?_
          clear hG
          simp only [List.take, List.drop, List.length, Nat.reduceSub, Nat.reduceAdd, Rg.putAll, Act.put, List.setIfInBounds_toArray, List.set_cons_succ, List.set_cons_zero, s11, s12]
          clear s9 s10 s11 s12
          have cR := (W.out.cell (p := ⟨bR, oR + k, none⟩) HBR.out).trans HXC.out
          obtain ⟨⟨uo, cn⟩, fn⟩ := NX.out.cell hxn
          go_wp2_with fail
          have HN2 := Lib.hid (NX.out.put (x := x) HVL.out (ls' := nextL g R M p n (k + 1)) fun j hj => nextL_put (by rw [HRL.out]; exact hlt) HX.out hj)
          have HP2 : Hid (w.heap.size ≤ pn) := Lib.hid (by obtain ⟨xs, h1, -⟩ := NX.out; exact (own_lt h1 pn rfl).1)
          have HB2 := Lib.hid (BQg.out.far (p := ⟨pn, x, none⟩) (fun e => by obtain ⟨xs, h1, -⟩ := NX.out; exact own_box h1 BQg.out (by decide) (by rw [e]; rfl)) (.slice va (keptL g M p x).length vk))
          have HW2 := Lib.hid (W.out.setCell (p := ⟨pn, x, none⟩) HP2.out (.slice va (keptL g M p x).length vk))
          clear cR cn fn
          go_roundw
          case rel => exact ⟨k + 1, by omega, by first | rfl | go_num, HN2.out, HB2.out, HW2.out⟩
          case measure => simp [intOf]; omega
      · have fk : decide ((k : Int) < (rl : Int)) = false := decide_eq_false (by omega)
        replace NX : Hid (NXM w wr pn n (nextL g R M p n R.length)) := Lib.hid (by have h1 := NX.out; rw [show k = R.length by rw [HRL.out]; omega] at h1; exact h1)
        clear hk
        go_wp2_with fail
        have HGR := Lib.hid (NX.out.grid nextL_len (by omega))
        go_loopw [13] (fun i wq => ∃ k : Nat, k ≤ rl ∧ i = .int .i64 (k : Int) ∧ Below wr.heap.size wr wq ∧ Box wq qg 25 #[.slice (some ⟨ba, oa, none⟩) n ka, .slice (some ⟨bb, ob, none⟩) n kb, .slice (some ⟨bc_, oc, none⟩) n kc] ∧ Below w.heap.size w wq) (fun i _ => rl - (intOf i).toNat)
        case atStart => exact ⟨0, Nat.zero_le _, rfl, Below.refl _ _, BQg.out, W.out⟩
        case round =>
          obtain ⟨k, hk, rfl, hbb, hbq, hbw⟩ := hrel
          have HB := Lib.hid hbb
          replace BQg := Lib.hid hbq
          replace W := Lib.hid hbw
          have hk0 : (0 : Int) ≤ (k : Int) := Int.natCast_nonneg _
          clear hbb hbq hbw
          by_cases hlt : k < rl
          · have fk : decide ((k : Int) < (rl : Int)) = true := decide_eq_true (by omega)
            have hki : (k : Int) < (rl : Int) := by omega
            obtain ⟨x, hx, hxn⟩ : ∃ x : Nat, R.getD k 0 = (x : Int) ∧ x < n := by
              have h1 := HRN.out _ (getD_mem (l := R) (k := k) (by rw [HRL.out]; exact hlt))
              obtain ⟨x, hx⟩ := Int.eq_ofNat_of_zero_le h1.1
              exact ⟨x, hx, by have := h1.2; rw [hx] at this; omega⟩
            have HXN := Lib.hid hxn
            have HXR := Lib.hid (show (x : Int) ∈ R by rw [← hx]; exact getD_mem (by rw [HRL.out]; exact hlt))
            have cR := (W.out.cell (p := ⟨bR, oR + k, none⟩) HBR.out).trans ((HRC.out k hlt).trans (by rw [hx]))
            have hx0 : (0 : Int) ≤ (x : Int) := Int.natCast_nonneg _
            have hxi : (x : Int) < (n : Int) := by omega
            have cp := HCB.out wr W.out x hxn
            obtain ⟨z, hz⟩ : ∃ z, g.prio.getD x 0 = z := ⟨_, rfl⟩
            rw [hz] at cp
            have hz0 : 0 ≤ z := by rw [← hz]; exact (HR.out.at x (by rw [HN.out]; exact hxn)).2.1
            obtain ⟨pl, hpl⟩ : ∃ p, z % 2 = p := ⟨_, rfl⟩
            have fr : z.tmod 2 = pl := by rw [Int.tmod_eq_emod_of_nonneg hz0, hpl]
            have HPL := Lib.hid (show g.prio.getD x 0 % 2 = pl by rw [hz]; exact hpl)
            clear hx hz hpl hz0
            have hbb := BQg.out
            have gc0 : wr.cell? ⟨qg, 0, none⟩ = some (.slice (some ⟨ba, oa, none⟩) n ka) := hbb.cell 0 _ rfl
            have gc1 : wr.cell? ⟨qg, 1, none⟩ = some (.slice (some ⟨bb, ob, none⟩) n kb) := hbb.cell 1 _ rfl
            have gc2 : wr.cell? ⟨qg, 2, none⟩ = some (.slice (some ⟨bc_, oc, none⟩) n kc) := hbb.cell 2 _ rfl
            clear hbb
            by_cases hp : pl = p
            · have fp : (pl == p) = true := by rw [beq_iff_eq]; exact hp
              go_wp2_with fail
              clear gc0 gc1 gc2 cp cR
              go_roundw
              case rel => exact ⟨k + 1, by omega, by first | rfl | go_num, HB.out, BQg.out, W.out⟩
              case measure => simp [intOf]; omega
            · have fp : (pl == p) = false := by rw [beq_eq_false_iff_ne]; exact hp
              have HNP := Lib.hid (show ¬ P.Path (fun x y => (y : Int) ∈ (nextL g R M p n R.length).getD x []) (fun y => g.prio.getD y 0 ≤ g.prio.getD x 0) x x from fun h => HW.out.good x HXR.out (by rw [HPL.out]; exact hp) (path_kept HW.out HNX.out h HXR.out))
              go_wp2_with fail
              clear gc0 gc1 gc2 cp cR
              refine (lost13_any g HR.out n HN.out (nextL g R M p n R.length) nextL_len HNX.out x hxn HNP.out _ _ wr (HV.out.on W.out) (HGR.out.on HB.out)).mono ?_
              rintro e w9 ⟨rfl, hb⟩
              have HB2 := Lib.hid (HB.out.trans (hb.mono HB.out.size))
              replace BQg := Lib.hid (BQg.out.keep (grown_of_below hb none))
              replace W := Lib.hid (W.out.trans (hb.mono W.out.size))
              clear hb
              go_wp2_with fail
              go_roundw
              case rel => exact ⟨k + 1, by omega, by first | rfl | go_num, HB2.out, BQg.out, W.out⟩
              case measure => simp [intOf]; omega
          · have fk : decide ((k : Int) < (rl : Int)) = false := decide_eq_false (by omega)
            go_wp2_with fail
            exact bodyPost_ret (v := .bool true) (by simp [results, Tryd.results17, go_sem]) rfl ⟨rfl, W.out⟩
end W
end Go.Proofs.YtpjmboonaciplaaDoor
end
