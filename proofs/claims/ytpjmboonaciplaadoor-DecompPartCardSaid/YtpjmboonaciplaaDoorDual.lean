/- A game with the players exchanged: the program's. -/
import Derived.Test.YtpjmboonaciplaaDoorFind
import Derived.Test.YtpjmboonaciplaaDoorPts
import Derived.StillTailTactics
namespace Go.Proofs.YtpjmboonaciplaaDoor
open Go.RowKit
namespace W

set_option maxRecDepth 100000 in
set_option maxHeartbeats 1000000 in
theorem dual_bad (g : P.G) (v : Value) (w : World) (hv : GameV w v g) (hok : g.ok = false) : Calls Tryd.prog 20 #[v] w (Copied w g.dual) := by
  have HD := Lib.hid (show g.dual = .none by unfold P.G.dual; rw [if_pos hok])
  have hq0 : g.right.2 ≠ 0 := by unfold P.G.ok at hok; exact beq_eq_false_iff_ne.1 hok
  clear hok
  have HV := Lib.hid hv
  obtain ⟨a, b, c, rfl, ha, hb, ⟨co, cc, rfl, hzc, hc⟩⟩ := hv
  have HA := Lib.hid ha
  have HB := Lib.hid hb
  have HC := Lib.hid hc
  clear ha hb hc
  obtain ⟨n, hn⟩ : ∃ n, g.moves.length = n := ⟨_, rfl⟩
  rw [hn] at hzc HV
  rw [hn]
  have HN := Lib.hid hn
  clear hn
  go_enter Tryd.func20, Tryd.ntmps20
  go_wp2_with fail
  have B0 : Box ((w.alloc (.cells #[a, b, .slice co n cc] 25)).alloc (.cells #[.slice none 0 0, .slice none 0 0, .slice none 0 0] 25)) w.heap.size 25 #[a, b, .slice co n cc] := (Box.new w _ _).alloc _
  have B1 : Box ((w.alloc (.cells #[a, b, .slice co n cc] 25)).alloc (.cells #[.slice none 0 0, .slice none 0 0, .slice none 0 0] 25)) (w.heap.size + 1) 25 #[.slice none 0 0, .slice none 0 0, .slice none 0 0] := by
    have := Box.new (w.alloc (.cells #[a, b, .slice co n cc] 25)) 25 #[.slice none 0 0, .slice none 0 0, .slice none 0 0]
    simpa using this
  have hb0 : Below w.heap.size w ((w.alloc (.cells #[a, b, .slice co n cc] 25)).alloc (.cells #[.slice none 0 0, .slice none 0 0, .slice none 0 0] 25)) := ((Below.refl _ w).alloc (Nat.le_refl _) _).alloc (by simp) _
  have hs0 : ((w.alloc (.cells #[a, b, .slice co n cc] 25)).alloc (.cells #[.slice none 0 0, .slice none 0 0, .slice none 0 0] 25)).heap.size = w.heap.size + 1 + 1 := by simp
  generalize ((w.alloc (.cells #[a, b, .slice co n cc] 25)).alloc (.cells #[.slice none 0 0, .slice none 0 0, .slice none 0 0] 25)) = W at B0 B1 hb0 hs0 ⊢
  have HB0 := Lib.hid B0
  have HB1 := Lib.hid B1
  have HG := Lib.hid hb0
  have HS := Lib.hid hs0
  clear B0 B1 hb0 hs0
  refine (right_any g _ _ (HV.out.on HG.out)).mono ?_
  rintro e w1 ⟨rfl, hb1⟩
  have HB1W := Lib.hid hb1
  obtain ⟨z, hz⟩ : ∃ z, g.right.2 = z := ⟨_, rfl⟩
  rw [hz] at hq0 ⊢
  have fq : (((z : Nat) : Int) != 0) = true := by rw [bne_iff_ne]; omega
  clear hz hq0
  have b0 := HB0.out.keep (grown_of_below HB1W.out none)
  have pc0 : w1.cell? ⟨w.heap.size, 0, none⟩ = some a := b0.cell 0 _ rfl
  have pc1 : w1.cell? ⟨w.heap.size, 1, none⟩ = some b := b0.cell 1 _ rfl
  have pc2 : w1.cell? ⟨w.heap.size, 2, none⟩ = some (.slice co n cc) := b0.cell 2 _ rfl
  have b1 := HB1.out.keep (grown_of_below HB1W.out none)
  have qc0 : w1.cell? ⟨(w.heap.size + 1), 0, none⟩ = some (.slice none 0 0) := b1.cell 0 _ rfl
  have qc1 : w1.cell? ⟨(w.heap.size + 1), 1, none⟩ = some (.slice none 0 0) := b1.cell 1 _ rfl
  have qc2 : w1.cell? ⟨(w.heap.size + 1), 2, none⟩ = some (.slice none 0 0) := b1.cell 2 _ rfl
  have qf0 : w1.frozen? ⟨(w.heap.size + 1), 0, none⟩ = false := b1.frozen 0
  have qf1 : w1.frozen? ⟨(w.heap.size + 1), 1, none⟩ = false := b1.frozen 1
  have qf2 : w1.frozen? ⟨(w.heap.size + 1), 2, none⟩ = false := b1.frozen 2
  clear b0 b1
  clear hb1
  have HP := Lib.hid (Copied.mk (w := w) (OwnG.none_ (((w1.setCell ⟨w.heap.size + 1, 0, none⟩ (.slice none 0 0)).setCell ⟨w.heap.size + 1, 1, none⟩ (.slice none 0 0)).setCell ⟨w.heap.size + 1, 2, none⟩ (.slice none 0 0)) w.heap.size) (((((HG.out.trans (HB1W.out.mono (by have := HS.out; omega))).setCell (p := ⟨w.heap.size + 1, 0, none⟩) (by show w.heap.size ≤ w.heap.size + 1; omega) (.slice none 0 0)).setCell (p := ⟨w.heap.size + 1, 1, none⟩) (by show w.heap.size ≤ w.heap.size + 1; omega) (.slice none 0 0)).setCell (p := ⟨w.heap.size + 1, 2, none⟩) (by show w.heap.size ≤ w.heap.size + 1; omega) (.slice none 0 0))))
  go_wp2_with fail
  rw [HD.out]
  refine bodyPost_ret (v := .agg #[(.slice none 0 0), (.slice none 0 0), (.slice none 0 0)]) (by simp [results, Tryd.results20, go_sem, qc0, qc1, qc2]) rfl (HP.out)

set_option maxRecDepth 100000 in
set_option maxHeartbeats 1000000 in
theorem dual_both (g : P.G) (v : Value) (w : World) (hv : GameV w v g) (hok : g.ok = true) (h7 : (7 : Int) ∈ g.prio) (h0 : (0 : Int) ∈ g.prio) : Calls Tryd.prog 20 #[v] w (Copied w g.dual) := by
  have HD := Lib.hid (show g.dual = .none by unfold P.G.dual; rw [if_neg (by rw [hok]; decide), if_pos h7, if_pos h0])
  have hq0 : g.right.2 = 0 := by unfold P.G.ok at hok; exact beq_iff_eq.1 hok
  have H7 := Lib.hid (show decide ((7 : Int) ∈ g.prio) = true from decide_eq_true h7)
  have H0 := Lib.hid (show decide ((0 : Int) ∈ g.prio) = true from decide_eq_true h0)
  clear hok h7 h0
  have HV := Lib.hid hv
  obtain ⟨a, b, c, rfl, ha, hb, ⟨co, cc, rfl, hzc, hc⟩⟩ := hv
  have HA := Lib.hid ha
  have HB := Lib.hid hb
  have HC := Lib.hid hc
  clear ha hb hc
  obtain ⟨n, hn⟩ : ∃ n, g.moves.length = n := ⟨_, rfl⟩
  rw [hn] at hzc HV
  rw [hn]
  have HN := Lib.hid hn
  clear hn
  go_enter Tryd.func20, Tryd.ntmps20
  go_wp2_with fail
  have B0 : Box ((w.alloc (.cells #[a, b, .slice co n cc] 25)).alloc (.cells #[.slice none 0 0, .slice none 0 0, .slice none 0 0] 25)) w.heap.size 25 #[a, b, .slice co n cc] := (Box.new w _ _).alloc _
  have B1 : Box ((w.alloc (.cells #[a, b, .slice co n cc] 25)).alloc (.cells #[.slice none 0 0, .slice none 0 0, .slice none 0 0] 25)) (w.heap.size + 1) 25 #[.slice none 0 0, .slice none 0 0, .slice none 0 0] := by
    have := Box.new (w.alloc (.cells #[a, b, .slice co n cc] 25)) 25 #[.slice none 0 0, .slice none 0 0, .slice none 0 0]
    simpa using this
  have hb0 : Below w.heap.size w ((w.alloc (.cells #[a, b, .slice co n cc] 25)).alloc (.cells #[.slice none 0 0, .slice none 0 0, .slice none 0 0] 25)) := ((Below.refl _ w).alloc (Nat.le_refl _) _).alloc (by simp) _
  have hs0 : ((w.alloc (.cells #[a, b, .slice co n cc] 25)).alloc (.cells #[.slice none 0 0, .slice none 0 0, .slice none 0 0] 25)).heap.size = w.heap.size + 1 + 1 := by simp
  generalize ((w.alloc (.cells #[a, b, .slice co n cc] 25)).alloc (.cells #[.slice none 0 0, .slice none 0 0, .slice none 0 0] 25)) = W at B0 B1 hb0 hs0 ⊢
  have HB0 := Lib.hid B0
  have HB1 := Lib.hid B1
  have HG := Lib.hid hb0
  have HS := Lib.hid hs0
  clear B0 B1 hb0 hs0
  refine (right_any g _ _ (HV.out.on HG.out)).mono ?_
  rintro e w1 ⟨rfl, hb1⟩
  have HB1W := Lib.hid hb1
  obtain ⟨z, hz⟩ : ∃ z, g.right.2 = z := ⟨_, rfl⟩
  rw [hz] at hq0 ⊢
  have fq : (((z : Nat) : Int) != 0) = false := by rw [bne_eq_false_iff_eq]; omega
  clear hz hq0
  have b0 := HB0.out.keep (grown_of_below HB1W.out none)
  have pc0 : w1.cell? ⟨w.heap.size, 0, none⟩ = some a := b0.cell 0 _ rfl
  have pc1 : w1.cell? ⟨w.heap.size, 1, none⟩ = some b := b0.cell 1 _ rfl
  have pc2 : w1.cell? ⟨w.heap.size, 2, none⟩ = some (.slice co n cc) := b0.cell 2 _ rfl
  have b1 := HB1.out.keep (grown_of_below HB1W.out none)
  have qc0 : w1.cell? ⟨(w.heap.size + 1), 0, none⟩ = some (.slice none 0 0) := b1.cell 0 _ rfl
  have qc1 : w1.cell? ⟨(w.heap.size + 1), 1, none⟩ = some (.slice none 0 0) := b1.cell 1 _ rfl
  have qc2 : w1.cell? ⟨(w.heap.size + 1), 2, none⟩ = some (.slice none 0 0) := b1.cell 2 _ rfl
  have qf0 : w1.frozen? ⟨(w.heap.size + 1), 0, none⟩ = false := b1.frozen 0
  have qf1 : w1.frozen? ⟨(w.heap.size + 1), 1, none⟩ = false := b1.frozen 1
  have qf2 : w1.frozen? ⟨(w.heap.size + 1), 2, none⟩ = false := b1.frozen 2
  clear b0 b1
  clear hb1
  go_wp2_with fail
  refine (contains_any b g.prio 7 _ ((HB.out.on HG.out).on HB1W.out)).mono ?_
  rintro e w2 ⟨rfl, rfl⟩
  rw [H7.out]
  go_wp2_with fail
  refine (contains_any b g.prio 0 _ ((HB.out.on HG.out).on HB1W.out)).mono ?_
  rintro e w2 ⟨rfl, rfl⟩
  rw [H0.out]
  have HP := Lib.hid (Copied.mk (w := w) (OwnG.none_ (((w1.setCell ⟨w.heap.size + 1, 0, none⟩ (.slice none 0 0)).setCell ⟨w.heap.size + 1, 1, none⟩ (.slice none 0 0)).setCell ⟨w.heap.size + 1, 2, none⟩ (.slice none 0 0)) w.heap.size) (((((HG.out.trans (HB1W.out.mono (by have := HS.out; omega))).setCell (p := ⟨w.heap.size + 1, 0, none⟩) (by show w.heap.size ≤ w.heap.size + 1; omega) (.slice none 0 0)).setCell (p := ⟨w.heap.size + 1, 1, none⟩) (by show w.heap.size ≤ w.heap.size + 1; omega) (.slice none 0 0)).setCell (p := ⟨w.heap.size + 1, 2, none⟩) (by show w.heap.size ≤ w.heap.size + 1; omega) (.slice none 0 0))))
  go_wp2_with fail
  rw [HD.out]
  refine bodyPost_ret (v := .agg #[(.slice none 0 0), (.slice none 0 0), (.slice none 0 0)]) (by simp [results, Tryd.results20, go_sem, qc0, qc1, qc2]) rfl (HP.out)

structure RelD (w1 : World) (m q : Nat) (a1 : Option Addr) (k1 : Nat) (b1 : Option Addr) (k2 : Nat) (c : Value) (L : List Value) (g : P.G) (s : Int) (i : Value) (wr : World) (k : Nat) : Prop where
  le : k ≤ m
  eq : i = .int .i64 k
  box : Box wr q 25 #[.slice a1 m k1, .slice b1 m k2, c]
  own : OwnG wr w1.heap.size (.slice a1 m k1) (.slice b1 m k2) c L (g.half s k)
  below : Below w1.heap.size w1 wr
theorem P.half_all (g : P.G) (s : Int) (k : Nat) (h1 : g.owner.length ≤ k) (h2 : g.prio.length ≤ k) : g.half s k = g.turned s := by unfold P.G.half P.G.turned; rw [P.upto_all _ _ _ h1, P.upto_all _ _ _ h2]
theorem P.half_step (g : P.G) (s : Int) (k : Nat) (h1 : k < g.owner.length) (h2 : k < g.prio.length) : ({ owner := (g.half s k).owner.set k (1 - g.owner.getD k 0), prio := (g.half s k).prio.set k (g.prio.getD k 0 + s), moves := (g.half s k).moves } : P.G) = g.half s (k + 1) := by
  unfold P.G.half
  simp only
  rw [P.upto_set (1 - ·) _ _ h1, P.upto_set (· + s) _ _ h2]
theorem P.half_zero (g : P.G) (s : Int) : g.half s 0 = g := by unfold P.G.half; rw [P.upto_zero, P.upto_zero]

set_option maxRecDepth 100000 in
set_option maxHeartbeats 1000000 in
theorem dual_up (g : P.G) (v : Value) (w : World) (hv : GameV w v g) (hok : g.ok = true) (h7 : ¬ (7 : Int) ∈ g.prio) : Calls Tryd.prog 20 #[v] w (Copied w (g.turned (1))) := by
  have HRT := Lib.hid ((P.G.ok_iff g).1 hok)
  have hq0 : g.right.2 = 0 := by unfold P.G.ok at hok; exact beq_iff_eq.1 hok
  have H7 := Lib.hid (show decide ((7 : Int) ∈ g.prio) = false from decide_eq_false h7)
  
  clear hok h7
  have HV := Lib.hid hv
  obtain ⟨a, b, c, rfl, ha, hb, ⟨co, cc, rfl, hzc, hc⟩⟩ := hv
  have HA := Lib.hid ha
  have HB := Lib.hid hb
  have HC := Lib.hid hc
  clear ha hb hc
  obtain ⟨n, hn⟩ : ∃ n, g.moves.length = n := ⟨_, rfl⟩
  rw [hn] at hzc HV
  rw [hn]
  have HN := Lib.hid hn
  clear hn
  go_enter Tryd.func20, Tryd.ntmps20
  go_wp2_with fail
  have B0 : Box ((w.alloc (.cells #[a, b, .slice co n cc] 25)).alloc (.cells #[.slice none 0 0, .slice none 0 0, .slice none 0 0] 25)) w.heap.size 25 #[a, b, .slice co n cc] := (Box.new w _ _).alloc _
  have B1 : Box ((w.alloc (.cells #[a, b, .slice co n cc] 25)).alloc (.cells #[.slice none 0 0, .slice none 0 0, .slice none 0 0] 25)) (w.heap.size + 1) 25 #[.slice none 0 0, .slice none 0 0, .slice none 0 0] := by
    have := Box.new (w.alloc (.cells #[a, b, .slice co n cc] 25)) 25 #[.slice none 0 0, .slice none 0 0, .slice none 0 0]
    simpa using this
  have hb0 : Below w.heap.size w ((w.alloc (.cells #[a, b, .slice co n cc] 25)).alloc (.cells #[.slice none 0 0, .slice none 0 0, .slice none 0 0] 25)) := ((Below.refl _ w).alloc (Nat.le_refl _) _).alloc (by simp) _
  have hs0 : ((w.alloc (.cells #[a, b, .slice co n cc] 25)).alloc (.cells #[.slice none 0 0, .slice none 0 0, .slice none 0 0] 25)).heap.size = w.heap.size + 1 + 1 := by simp
  generalize ((w.alloc (.cells #[a, b, .slice co n cc] 25)).alloc (.cells #[.slice none 0 0, .slice none 0 0, .slice none 0 0] 25)) = W at B0 B1 hb0 hs0 ⊢
  have HB0 := Lib.hid B0
  have HB1 := Lib.hid B1
  have HG := Lib.hid hb0
  have HS := Lib.hid hs0
  clear B0 B1 hb0 hs0
  refine (right_any g _ _ (HV.out.on HG.out)).mono ?_
  rintro e w1 ⟨rfl, hb1⟩
  have HB1W := Lib.hid hb1
  obtain ⟨z, hz⟩ : ∃ z, g.right.2 = z := ⟨_, rfl⟩
  rw [hz] at hq0 ⊢
  have fq : (((z : Nat) : Int) != 0) = false := by rw [bne_eq_false_iff_eq]; omega
  clear hz hq0
  have b0 := HB0.out.keep (grown_of_below HB1W.out none)
  have pc0 : w1.cell? ⟨w.heap.size, 0, none⟩ = some a := b0.cell 0 _ rfl
  have pc1 : w1.cell? ⟨w.heap.size, 1, none⟩ = some b := b0.cell 1 _ rfl
  have pc2 : w1.cell? ⟨w.heap.size, 2, none⟩ = some (.slice co n cc) := b0.cell 2 _ rfl
  clear b0
  clear hb1
  go_wp2_with fail
  refine (contains_any b g.prio 7 _ ((HB.out.on HG.out).on HB1W.out)).mono ?_
  rintro e w2 ⟨rfl, rfl⟩
  rw [H7.out]
  go_wp2_with fail
  refine (copy_any g _ _ ((HV.out.on HG.out).on HB1W.out)).mono ?_
  rintro e w2 ⟨a', b', c', L, rfl, ho, hb2⟩
  obtain ⟨a1, k1, b1, k2, c1, k3, rfl, rfl, rfl⟩ := ho.forms
  have HO := Lib.hid ho
  have HB2 := Lib.hid hb2
  clear ho hb2 pc0 pc1 pc2
  go_wp2_with fail
  have hbx : Box (w2.alloc (.cells #[.slice a1 g.owner.length k1, .slice b1 g.prio.length k2, .slice c1 g.moves.length k3] 25)) w2.heap.size 25 #[.slice a1 g.owner.length k1, .slice b1 g.prio.length k2, .slice c1 g.moves.length k3] := Box.new _ _ _
  have ho3 := HO.out.grown (World.grownBy_alloc w2 (.cells #[.slice a1 g.owner.length k1, .slice b1 g.prio.length k2, .slice c1 g.moves.length k3] 25) none)
  have hb3 := HB2.out.alloc (show w1.heap.size ≤ w2.heap.size from HB2.out.size) (.cells #[.slice a1 g.owner.length k1, .slice b1 g.prio.length k2, .slice c1 g.moves.length k3] 25)
  have hq : w1.heap.size ≤ w2.heap.size := HB2.out.size
  generalize (w2.alloc (.cells #[.slice a1 g.owner.length k1, .slice b1 g.prio.length k2, .slice c1 g.moves.length k3] 25)) = W3 at hbx ho3 hb3 ⊢
  generalize w2.heap.size = q at hbx hq ⊢
  have HQ := Lib.hid hq
  have HBX := Lib.hid hbx
  have HO3 := Lib.hid ho3
  have HB3 := Lib.hid hb3
  clear hq hbx ho3 hb3
  have hop : g.prio.length = g.owner.length := HRT.out.prio
  have hmany : g.owner.length ≤ 200 := HRT.out.many
  obtain ⟨m, hm⟩ : ∃ m, g.owner.length = m := ⟨_, rfl⟩
  rw [hm] at hop hmany
  have HM := Lib.hid hm
  have HP := Lib.hid hop
  have e1 := HM.out
  rw [hm, hop] at HBX HO3 ⊢
  clear hm hop e1
  go_loopw [28] (fun i wr => ∃ k, RelD w1 m q a1 k1 b1 k2 (.slice c1 g.moves.length k3) L g (1) i wr k) (fun i _ => m - (intOf i).toNat)
  case atStart => exact ⟨0, Nat.zero_le _, rfl, HBX.out, by rw [P.half_zero]; exact HO3.out, HB3.out⟩
  case round =>
    obtain ⟨k, hR⟩ := hrel
    have hk := hR.le
    obtain rfl := hR.eq
    have hj0 : (0 : Int) ≤ (k : Int) := Int.natCast_nonneg _
    have HR := Lib.hid hR
    clear hR
    by_cases hlt : k < m
    · have fj : decide ((k : Int) < (m : Int)) = true := decide_eq_true (by omega)
      have hm0 : 0 < m := by omega
      obtain ⟨x, hx⟩ : ∃ x, g.owner.getD k 0 = x := ⟨_, rfl⟩
      obtain ⟨y, hy⟩ : ∃ y, g.prio.getD k 0 = y := ⟨_, rfl⟩
      have hat := HRT.out.at k (by rw [HM.out]; exact hlt)
      rw [hx, hy] at hat
      obtain ⟨hx01, hy0, hy7, -, -⟩ := hat
      have hx0 : 0 ≤ x := by omega
      have hx1 : x ≤ 1 := by omega
      have HX := Lib.hid hx
      have HY := Lib.hid hy
      clear hx hy hx01
      have hol : (g.half (1) k).owner.length = m := by show (P.upto _ _ _).length = m; rw [P.upto_length]; exact HM.out
      have hpl : (g.half (1) k).prio.length = m := by show (P.upto _ _ _).length = m; rw [P.upto_length]; exact HP.out
      obtain ⟨qa, ka, ea, -, -, ca, fa⟩ := own_form HR.out.own.owner (by rw [hol]; exact hm0)
      obtain ⟨qb, kb, eb, -, -, cb, fb⟩ := own_form HR.out.own.prio (by rw [hpl]; exact hm0)
      obtain ⟨rfl, -, -⟩ : a1 = some ⟨qa, 0, none⟩ ∧ m = _ ∧ k1 = ka := by injection ea with h1 h2 h3; exact ⟨h1, h2, h3⟩
      obtain ⟨rfl, -, -⟩ : b1 = some ⟨qb, 0, none⟩ ∧ m = _ ∧ k2 = kb := by injection eb with h1 h2 h3; exact ⟨h1, h2, h3⟩
      have cx : wr.cell? ⟨qa, k, none⟩ = some (.int .i64 x) := ca k _ (by rw [List.getElem?_map]; show (P.upto _ _ _)[k]?.map _ = _; rw [P.upto_at _ _ _ (by rw [HM.out]; exact hlt), HX.out]; rfl)
      have fx := fa k
      have hbq := HR.out.box
      have HBQ := Lib.hid hbq
      have qc0 : wr.cell? ⟨q, 0, none⟩ = some (.slice (some ⟨qa, 0, none⟩) m k1) := hbq.cell 0 _ rfl
      have qc1 : wr.cell? ⟨q, 1, none⟩ = some (.slice (some ⟨qb, 0, none⟩) m k2) := hbq.cell 1 _ rfl
      have qc2 : wr.cell? ⟨q, 2, none⟩ = some (.slice c1 g.moves.length k3) := hbq.cell 2 _ rfl
      clear hbq hol hpl ea eb ca fa cb fb
      have hown4 := (HR.out.own.setOwner hm0 k (1 - x)).grown (Rg.grown_drew (Rg.grown_refl _ none))
      have hnq : q ≠ qa := fun e => own_box HR.out.own.owner HR.out.box (by decide) (by rw [e]; rfl)
      have hnq2 : q ≠ qb := fun e => own_box HR.out.own.prio HR.out.box (by decide) (by rw [e]; rfl)
      have hbox4 : Box (wr.setCell ⟨qa, k, none⟩ (.int .i64 (1 - x))).drew q 25 #[.slice (some ⟨qa, 0, none⟩) m k1, .slice (some ⟨qb, 0, none⟩) m k2, .slice c1 g.moves.length k3] := HBQ.out.far hnq _
      have hbel4 : Below w1.heap.size w1 (wr.setCell ⟨qa, k, none⟩ (.int .i64 (1 - x))).drew := (HR.out.below.setCell (p := ⟨qa, k, none⟩) (by show w1.heap.size ≤ qa; exact (own_lt HR.out.own.owner qa rfl).1) _).drew
      obtain ⟨cy, fy⟩ : (wr.setCell ⟨qa, k, none⟩ (.int .i64 (1 - x))).drew.cell? ⟨qb, k, none⟩ = some (.int .i64 y) ∧ (wr.setCell ⟨qa, k, none⟩ (.int .i64 (1 - x))).drew.frozen? ⟨qb, k, none⟩ = false := by
        obtain ⟨qb', kb', eb', -, -, cb', fb'⟩ := own_form hown4.prio (by show 0 < (P.upto _ _ _).length; rw [P.upto_length, HP.out]; exact hm0)
        have : qb = qb' := by injection eb' with h1; injection h1 with h1; injection h1
        subst this
        refine ⟨cb' k _ ?_, fb' k⟩
        rw [List.getElem?_map]
        show (P.upto _ _ _)[k]?.map _ = _
        rw [P.upto_at _ _ _ (by rw [HP.out]; exact hlt), HY.out]
        rfl
      obtain ⟨cy0, fy0⟩ : wr.cell? ⟨qb, k, none⟩ = some (.int .i64 y) ∧ wr.frozen? ⟨qb, k, none⟩ = false := by
        obtain ⟨qb', kb', eb', -, -, cb', fb'⟩ := own_form HR.out.own.prio (by show 0 < (P.upto _ _ _).length; rw [P.upto_length, HP.out]; exact hm0)
        have : qb = qb' := by injection eb' with h1; injection h1 with h1; injection h1
        subst this
        refine ⟨cb' k _ ?_, fb' k⟩
        rw [List.getElem?_map]
        show (P.upto _ _ _)[k]?.map _ = _
        rw [P.upto_at _ _ _ (by rw [HP.out]; exact hlt), HY.out]
        rfl
      have hab : qb ≠ qa := by
        rcases own_apart HR.out.own.owner HR.out.own.prio (by show 0 < (P.upto _ _ _).length; rw [P.upto_length, HM.out]; exact hm0) (HR.out.own.apart 0 1 _ _ rfl rfl (by decide)) with h | h
        · cases h
        · exact fun e => h (by rw [e]; rfl)
      have hab2 : qa ≠ qb := Ne.symm hab
      have hnq3 : qa ≠ q := Ne.symm hnq
      have HN2 := Lib.hid hnq2
      have H4 := Lib.hid hown4
      have HX4 := Lib.hid hbox4
      have HL4 := Lib.hid hbel4
      clear hown4 hbox4 hbel4 cy fy
      have HREL := Lib.hid (show RelD w1 m q (some ⟨qa, 0, none⟩) k1 (some ⟨qb, 0, none⟩) k2 (.slice c1 g.moves.length k3) L g (1) (.int .i64 ((k + 1 : Nat) : Int)) ((wr.setCell ⟨qa, k, none⟩ (.int .i64 (1 - x))).drew.setCell ⟨qb, k, none⟩ (.int .i64 (y + (1)))) (k + 1) from
        ⟨by omega, rfl, HX4.out.far HN2.out _, by
          have h5 := H4.out.setPrio hm0 k (y + (1))
          rw [← HX.out, ← HY.out] at h5
          rw [← HX.out, ← HY.out, ← P.half_step g (1) k (by rw [HM.out]; exact hlt) (by rw [HP.out]; exact hlt)]
          exact h5, HL4.out.setCell (p := ⟨qb, k, none⟩) (by show w1.heap.size ≤ qb; exact (own_lt H4.out.prio qb rfl).1) _⟩)
      clear H4 HX4 HL4
      go_wp2_with fail
      go_still_tail 10, (by kernel_rfl)
      go_wp2_with fail
      go_roundw
      case rel => exact ⟨k + 1, HREL.out⟩
      case measure => simp [intOf]; omega
    · have fj : decide ((k : Int) < (m : Int)) = false := decide_eq_false (by omega)
      have hown := HR.out.own
      have htur : g.half (1) k = g.turned (1) := P.half_all g _ k (by rw [HM.out]; omega) (by rw [HP.out]; omega)
      rw [htur] at hown
      have hbq := HR.out.box
      have hW : Below W.heap.size W wr := HB1W.out.trans (HR.out.below.mono HB1W.out.size)
      have bb1 := HB1.out.keep (grown_of_below hW none)
      have rc0 : wr.cell? ⟨q, 0, none⟩ = some (.slice a1 m k1) := hbq.cell 0 _ rfl
      have rc1 : wr.cell? ⟨q, 1, none⟩ = some (.slice b1 m k2) := hbq.cell 1 _ rfl
      have rc2 : wr.cell? ⟨q, 2, none⟩ = some (.slice c1 g.moves.length k3) := hbq.cell 2 _ rfl
      have qc0 : wr.cell? ⟨(w.heap.size + 1), 0, none⟩ = some (.slice none 0 0) := bb1.cell 0 _ rfl
      have qc1 : wr.cell? ⟨(w.heap.size + 1), 1, none⟩ = some (.slice none 0 0) := bb1.cell 1 _ rfl
      have qc2 : wr.cell? ⟨(w.heap.size + 1), 2, none⟩ = some (.slice none 0 0) := bb1.cell 2 _ rfl
      have qf0 : wr.frozen? ⟨(w.heap.size + 1), 0, none⟩ = false := bb1.frozen 0
      have qf1 : wr.frozen? ⟨(w.heap.size + 1), 1, none⟩ = false := bb1.frozen 1
      have qf2 : wr.frozen? ⟨(w.heap.size + 1), 2, none⟩ = false := bb1.frozen 2
      have HPO := Lib.hid (Copied.mk (w := w) (((hown.set bb1 (by decide) (by decide) 0 (.slice a1 m k1)).set (bb1.set 0 _) (by decide) (by decide) 1 (.slice b1 m k2)).set ((bb1.set 0 _).set 1 _) (by decide) (by decide) 2 (.slice c1 g.moves.length k3) |>.low (by have := HS.out; have := HB1W.out.size; omega)) (((((HG.out.trans (hW.mono (by have := HS.out; omega))).setCell (p := ⟨w.heap.size + 1, 0, none⟩) (by show w.heap.size ≤ w.heap.size + 1; omega) (.slice a1 m k1)).setCell (p := ⟨w.heap.size + 1, 1, none⟩) (by show w.heap.size ≤ w.heap.size + 1; omega) (.slice b1 m k2)).setCell (p := ⟨w.heap.size + 1, 2, none⟩) (by show w.heap.size ≤ w.heap.size + 1; omega) (.slice c1 g.moves.length k3))))
      clear hown htur hbq hW bb1
      go_wp2_with fail
      refine bodyPost_ret (v := .agg #[.slice a1 m k1, .slice b1 m k2, .slice c1 g.moves.length k3]) (by simp [results, Tryd.results20, go_sem, qc0, qc1, qc2]) rfl (HPO.out)

set_option maxRecDepth 100000 in
set_option maxHeartbeats 1000000 in
theorem dual_down (g : P.G) (v : Value) (w : World) (hv : GameV w v g) (hok : g.ok = true) (h7 : (7 : Int) ∈ g.prio) (h0 : ¬ (0 : Int) ∈ g.prio) : Calls Tryd.prog 20 #[v] w (Copied w (g.turned (-1))) := by
  have HRT := Lib.hid ((P.G.ok_iff g).1 hok)
  have hq0 : g.right.2 = 0 := by unfold P.G.ok at hok; exact beq_iff_eq.1 hok
  have H7 := Lib.hid (show decide ((7 : Int) ∈ g.prio) = true from decide_eq_true h7)
  have H0 := Lib.hid (show decide ((0 : Int) ∈ g.prio) = false from decide_eq_false h0)
  clear hok h7 h0
  have HV := Lib.hid hv
  obtain ⟨a, b, c, rfl, ha, hb, ⟨co, cc, rfl, hzc, hc⟩⟩ := hv
  have HA := Lib.hid ha
  have HB := Lib.hid hb
  have HC := Lib.hid hc
  clear ha hb hc
  obtain ⟨n, hn⟩ : ∃ n, g.moves.length = n := ⟨_, rfl⟩
  rw [hn] at hzc HV
  rw [hn]
  have HN := Lib.hid hn
  clear hn
  go_enter Tryd.func20, Tryd.ntmps20
  go_wp2_with fail
  have B0 : Box ((w.alloc (.cells #[a, b, .slice co n cc] 25)).alloc (.cells #[.slice none 0 0, .slice none 0 0, .slice none 0 0] 25)) w.heap.size 25 #[a, b, .slice co n cc] := (Box.new w _ _).alloc _
  have B1 : Box ((w.alloc (.cells #[a, b, .slice co n cc] 25)).alloc (.cells #[.slice none 0 0, .slice none 0 0, .slice none 0 0] 25)) (w.heap.size + 1) 25 #[.slice none 0 0, .slice none 0 0, .slice none 0 0] := by
    have := Box.new (w.alloc (.cells #[a, b, .slice co n cc] 25)) 25 #[.slice none 0 0, .slice none 0 0, .slice none 0 0]
    simpa using this
  have hb0 : Below w.heap.size w ((w.alloc (.cells #[a, b, .slice co n cc] 25)).alloc (.cells #[.slice none 0 0, .slice none 0 0, .slice none 0 0] 25)) := ((Below.refl _ w).alloc (Nat.le_refl _) _).alloc (by simp) _
  have hs0 : ((w.alloc (.cells #[a, b, .slice co n cc] 25)).alloc (.cells #[.slice none 0 0, .slice none 0 0, .slice none 0 0] 25)).heap.size = w.heap.size + 1 + 1 := by simp
  generalize ((w.alloc (.cells #[a, b, .slice co n cc] 25)).alloc (.cells #[.slice none 0 0, .slice none 0 0, .slice none 0 0] 25)) = W at B0 B1 hb0 hs0 ⊢
  have HB0 := Lib.hid B0
  have HB1 := Lib.hid B1
  have HG := Lib.hid hb0
  have HS := Lib.hid hs0
  clear B0 B1 hb0 hs0
  refine (right_any g _ _ (HV.out.on HG.out)).mono ?_
  rintro e w1 ⟨rfl, hb1⟩
  have HB1W := Lib.hid hb1
  obtain ⟨z, hz⟩ : ∃ z, g.right.2 = z := ⟨_, rfl⟩
  rw [hz] at hq0 ⊢
  have fq : (((z : Nat) : Int) != 0) = false := by rw [bne_eq_false_iff_eq]; omega
  clear hz hq0
  have b0 := HB0.out.keep (grown_of_below HB1W.out none)
  have pc0 : w1.cell? ⟨w.heap.size, 0, none⟩ = some a := b0.cell 0 _ rfl
  have pc1 : w1.cell? ⟨w.heap.size, 1, none⟩ = some b := b0.cell 1 _ rfl
  have pc2 : w1.cell? ⟨w.heap.size, 2, none⟩ = some (.slice co n cc) := b0.cell 2 _ rfl
  clear b0
  clear hb1
  go_wp2_with fail
  refine (contains_any b g.prio 7 _ ((HB.out.on HG.out).on HB1W.out)).mono ?_
  rintro e w2 ⟨rfl, rfl⟩
  rw [H7.out]
  go_wp2_with fail
  refine (contains_any b g.prio 0 _ ((HB.out.on HG.out).on HB1W.out)).mono ?_
  rintro e w2 ⟨rfl, rfl⟩
  rw [H0.out]
  go_wp2_with fail
  refine (copy_any g _ _ ((HV.out.on HG.out).on HB1W.out)).mono ?_
  rintro e w2 ⟨a', b', c', L, rfl, ho, hb2⟩
  obtain ⟨a1, k1, b1, k2, c1, k3, rfl, rfl, rfl⟩ := ho.forms
  have HO := Lib.hid ho
  have HB2 := Lib.hid hb2
  clear ho hb2 pc0 pc1 pc2
  go_wp2_with fail
  have hbx : Box (w2.alloc (.cells #[.slice a1 g.owner.length k1, .slice b1 g.prio.length k2, .slice c1 g.moves.length k3] 25)) w2.heap.size 25 #[.slice a1 g.owner.length k1, .slice b1 g.prio.length k2, .slice c1 g.moves.length k3] := Box.new _ _ _
  have ho3 := HO.out.grown (World.grownBy_alloc w2 (.cells #[.slice a1 g.owner.length k1, .slice b1 g.prio.length k2, .slice c1 g.moves.length k3] 25) none)
  have hb3 := HB2.out.alloc (show w1.heap.size ≤ w2.heap.size from HB2.out.size) (.cells #[.slice a1 g.owner.length k1, .slice b1 g.prio.length k2, .slice c1 g.moves.length k3] 25)
  have hq : w1.heap.size ≤ w2.heap.size := HB2.out.size
  generalize (w2.alloc (.cells #[.slice a1 g.owner.length k1, .slice b1 g.prio.length k2, .slice c1 g.moves.length k3] 25)) = W3 at hbx ho3 hb3 ⊢
  generalize w2.heap.size = q at hbx hq ⊢
  have HQ := Lib.hid hq
  have HBX := Lib.hid hbx
  have HO3 := Lib.hid ho3
  have HB3 := Lib.hid hb3
  clear hq hbx ho3 hb3
  have hop : g.prio.length = g.owner.length := HRT.out.prio
  have hmany : g.owner.length ≤ 200 := HRT.out.many
  obtain ⟨m, hm⟩ : ∃ m, g.owner.length = m := ⟨_, rfl⟩
  rw [hm] at hop hmany
  have HM := Lib.hid hm
  have HP := Lib.hid hop
  have e1 := HM.out
  rw [hm, hop] at HBX HO3 ⊢
  clear hm hop e1
  go_loopw [28] (fun i wr => ∃ k, RelD w1 m q a1 k1 b1 k2 (.slice c1 g.moves.length k3) L g (-1) i wr k) (fun i _ => m - (intOf i).toNat)
  case atStart => exact ⟨0, Nat.zero_le _, rfl, HBX.out, by rw [P.half_zero]; exact HO3.out, HB3.out⟩
  case round =>
    obtain ⟨k, hR⟩ := hrel
    have hk := hR.le
    obtain rfl := hR.eq
    have hj0 : (0 : Int) ≤ (k : Int) := Int.natCast_nonneg _
    have HR := Lib.hid hR
    clear hR
    by_cases hlt : k < m
    · have fj : decide ((k : Int) < (m : Int)) = true := decide_eq_true (by omega)
      have hm0 : 0 < m := by omega
      obtain ⟨x, hx⟩ : ∃ x, g.owner.getD k 0 = x := ⟨_, rfl⟩
      obtain ⟨y, hy⟩ : ∃ y, g.prio.getD k 0 = y := ⟨_, rfl⟩
      have hat := HRT.out.at k (by rw [HM.out]; exact hlt)
      rw [hx, hy] at hat
      obtain ⟨hx01, hy0, hy7, -, -⟩ := hat
      have hx0 : 0 ≤ x := by omega
      have hx1 : x ≤ 1 := by omega
      have HX := Lib.hid hx
      have HY := Lib.hid hy
      clear hx hy hx01
      have hol : (g.half (-1) k).owner.length = m := by show (P.upto _ _ _).length = m; rw [P.upto_length]; exact HM.out
      have hpl : (g.half (-1) k).prio.length = m := by show (P.upto _ _ _).length = m; rw [P.upto_length]; exact HP.out
      obtain ⟨qa, ka, ea, -, -, ca, fa⟩ := own_form HR.out.own.owner (by rw [hol]; exact hm0)
      obtain ⟨qb, kb, eb, -, -, cb, fb⟩ := own_form HR.out.own.prio (by rw [hpl]; exact hm0)
      obtain ⟨rfl, -, -⟩ : a1 = some ⟨qa, 0, none⟩ ∧ m = _ ∧ k1 = ka := by injection ea with h1 h2 h3; exact ⟨h1, h2, h3⟩
      obtain ⟨rfl, -, -⟩ : b1 = some ⟨qb, 0, none⟩ ∧ m = _ ∧ k2 = kb := by injection eb with h1 h2 h3; exact ⟨h1, h2, h3⟩
      have cx : wr.cell? ⟨qa, k, none⟩ = some (.int .i64 x) := ca k _ (by rw [List.getElem?_map]; show (P.upto _ _ _)[k]?.map _ = _; rw [P.upto_at _ _ _ (by rw [HM.out]; exact hlt), HX.out]; rfl)
      have fx := fa k
      have hbq := HR.out.box
      have HBQ := Lib.hid hbq
      have qc0 : wr.cell? ⟨q, 0, none⟩ = some (.slice (some ⟨qa, 0, none⟩) m k1) := hbq.cell 0 _ rfl
      have qc1 : wr.cell? ⟨q, 1, none⟩ = some (.slice (some ⟨qb, 0, none⟩) m k2) := hbq.cell 1 _ rfl
      have qc2 : wr.cell? ⟨q, 2, none⟩ = some (.slice c1 g.moves.length k3) := hbq.cell 2 _ rfl
      clear hbq hol hpl ea eb ca fa cb fb
      have hown4 := (HR.out.own.setOwner hm0 k (1 - x)).grown (Rg.grown_drew (Rg.grown_refl _ none))
      have hnq : q ≠ qa := fun e => own_box HR.out.own.owner HR.out.box (by decide) (by rw [e]; rfl)
      have hnq2 : q ≠ qb := fun e => own_box HR.out.own.prio HR.out.box (by decide) (by rw [e]; rfl)
      have hbox4 : Box (wr.setCell ⟨qa, k, none⟩ (.int .i64 (1 - x))).drew q 25 #[.slice (some ⟨qa, 0, none⟩) m k1, .slice (some ⟨qb, 0, none⟩) m k2, .slice c1 g.moves.length k3] := HBQ.out.far hnq _
      have hbel4 : Below w1.heap.size w1 (wr.setCell ⟨qa, k, none⟩ (.int .i64 (1 - x))).drew := (HR.out.below.setCell (p := ⟨qa, k, none⟩) (by show w1.heap.size ≤ qa; exact (own_lt HR.out.own.owner qa rfl).1) _).drew
      obtain ⟨cy, fy⟩ : (wr.setCell ⟨qa, k, none⟩ (.int .i64 (1 - x))).drew.cell? ⟨qb, k, none⟩ = some (.int .i64 y) ∧ (wr.setCell ⟨qa, k, none⟩ (.int .i64 (1 - x))).drew.frozen? ⟨qb, k, none⟩ = false := by
        obtain ⟨qb', kb', eb', -, -, cb', fb'⟩ := own_form hown4.prio (by show 0 < (P.upto _ _ _).length; rw [P.upto_length, HP.out]; exact hm0)
        have : qb = qb' := by injection eb' with h1; injection h1 with h1; injection h1
        subst this
        refine ⟨cb' k _ ?_, fb' k⟩
        rw [List.getElem?_map]
        show (P.upto _ _ _)[k]?.map _ = _
        rw [P.upto_at _ _ _ (by rw [HP.out]; exact hlt), HY.out]
        rfl
      obtain ⟨cy0, fy0⟩ : wr.cell? ⟨qb, k, none⟩ = some (.int .i64 y) ∧ wr.frozen? ⟨qb, k, none⟩ = false := by
        obtain ⟨qb', kb', eb', -, -, cb', fb'⟩ := own_form HR.out.own.prio (by show 0 < (P.upto _ _ _).length; rw [P.upto_length, HP.out]; exact hm0)
        have : qb = qb' := by injection eb' with h1; injection h1 with h1; injection h1
        subst this
        refine ⟨cb' k _ ?_, fb' k⟩
        rw [List.getElem?_map]
        show (P.upto _ _ _)[k]?.map _ = _
        rw [P.upto_at _ _ _ (by rw [HP.out]; exact hlt), HY.out]
        rfl
      have hab : qb ≠ qa := by
        rcases own_apart HR.out.own.owner HR.out.own.prio (by show 0 < (P.upto _ _ _).length; rw [P.upto_length, HM.out]; exact hm0) (HR.out.own.apart 0 1 _ _ rfl rfl (by decide)) with h | h
        · cases h
        · exact fun e => h (by rw [e]; rfl)
      have hab2 : qa ≠ qb := Ne.symm hab
      have hnq3 : qa ≠ q := Ne.symm hnq
      have HN2 := Lib.hid hnq2
      have H4 := Lib.hid hown4
      have HX4 := Lib.hid hbox4
      have HL4 := Lib.hid hbel4
      clear hown4 hbox4 hbel4 cy fy
      have HREL := Lib.hid (show RelD w1 m q (some ⟨qa, 0, none⟩) k1 (some ⟨qb, 0, none⟩) k2 (.slice c1 g.moves.length k3) L g (-1) (.int .i64 ((k + 1 : Nat) : Int)) ((wr.setCell ⟨qa, k, none⟩ (.int .i64 (1 - x))).drew.setCell ⟨qb, k, none⟩ (.int .i64 (y + (-1)))) (k + 1) from
        ⟨by omega, rfl, HX4.out.far HN2.out _, by
          have h5 := H4.out.setPrio hm0 k (y + (-1))
          rw [← HX.out, ← HY.out] at h5
          rw [← HX.out, ← HY.out, ← P.half_step g (-1) k (by rw [HM.out]; exact hlt) (by rw [HP.out]; exact hlt)]
          exact h5, HL4.out.setCell (p := ⟨qb, k, none⟩) (by show w1.heap.size ≤ qb; exact (own_lt H4.out.prio qb rfl).1) _⟩)
      clear H4 HX4 HL4
      go_wp2_with fail
      go_still_tail 10, (by kernel_rfl)
      go_wp2_with fail
      go_roundw
      case rel => exact ⟨k + 1, HREL.out⟩
      case measure => simp [intOf]; omega
    · have fj : decide ((k : Int) < (m : Int)) = false := decide_eq_false (by omega)
      have hown := HR.out.own
      have htur : g.half (-1) k = g.turned (-1) := P.half_all g _ k (by rw [HM.out]; omega) (by rw [HP.out]; omega)
      rw [htur] at hown
      have hbq := HR.out.box
      have hW : Below W.heap.size W wr := HB1W.out.trans (HR.out.below.mono HB1W.out.size)
      have bb1 := HB1.out.keep (grown_of_below hW none)
      have rc0 : wr.cell? ⟨q, 0, none⟩ = some (.slice a1 m k1) := hbq.cell 0 _ rfl
      have rc1 : wr.cell? ⟨q, 1, none⟩ = some (.slice b1 m k2) := hbq.cell 1 _ rfl
      have rc2 : wr.cell? ⟨q, 2, none⟩ = some (.slice c1 g.moves.length k3) := hbq.cell 2 _ rfl
      have qc0 : wr.cell? ⟨(w.heap.size + 1), 0, none⟩ = some (.slice none 0 0) := bb1.cell 0 _ rfl
      have qc1 : wr.cell? ⟨(w.heap.size + 1), 1, none⟩ = some (.slice none 0 0) := bb1.cell 1 _ rfl
      have qc2 : wr.cell? ⟨(w.heap.size + 1), 2, none⟩ = some (.slice none 0 0) := bb1.cell 2 _ rfl
      have qf0 : wr.frozen? ⟨(w.heap.size + 1), 0, none⟩ = false := bb1.frozen 0
      have qf1 : wr.frozen? ⟨(w.heap.size + 1), 1, none⟩ = false := bb1.frozen 1
      have qf2 : wr.frozen? ⟨(w.heap.size + 1), 2, none⟩ = false := bb1.frozen 2
      have HPO := Lib.hid (Copied.mk (w := w) (((hown.set bb1 (by decide) (by decide) 0 (.slice a1 m k1)).set (bb1.set 0 _) (by decide) (by decide) 1 (.slice b1 m k2)).set ((bb1.set 0 _).set 1 _) (by decide) (by decide) 2 (.slice c1 g.moves.length k3) |>.low (by have := HS.out; have := HB1W.out.size; omega)) (((((HG.out.trans (hW.mono (by have := HS.out; omega))).setCell (p := ⟨w.heap.size + 1, 0, none⟩) (by show w.heap.size ≤ w.heap.size + 1; omega) (.slice a1 m k1)).setCell (p := ⟨w.heap.size + 1, 1, none⟩) (by show w.heap.size ≤ w.heap.size + 1; omega) (.slice b1 m k2)).setCell (p := ⟨w.heap.size + 1, 2, none⟩) (by show w.heap.size ≤ w.heap.size + 1; omega) (.slice c1 g.moves.length k3))))
      clear hown htur hbq hW bb1
      go_wp2_with fail
      refine bodyPost_ret (v := .agg #[.slice a1 m k1, .slice b1 m k2, .slice c1 g.moves.length k3]) (by simp [results, Tryd.results20, go_sem, qc0, qc1, qc2]) rfl (HPO.out)

theorem dual_any (g : P.G) (v : Value) (w : World) (hv : GameV w v g) : Calls Tryd.prog 20 #[v] w (Copied w g.dual) := by
  by_cases hok : g.ok = true
  · by_cases h7 : (7 : Int) ∈ g.prio
    · by_cases h0 : (0 : Int) ∈ g.prio
      · exact dual_both g v w hv hok h7 h0
      · have := dual_down g v w hv hok h7 h0
        rw [show g.dual = g.turned (-1) by unfold P.G.dual; rw [if_neg (by rw [hok]; decide), if_pos h7, if_neg h0]]
        exact this
    · have := dual_up g v w hv hok h7
      rw [show g.dual = g.turned 1 by unfold P.G.dual; rw [if_neg (by rw [hok]; decide), if_neg h7]]
      exact this
  · exact dual_bad g v w hv (by simpa using hok)
end W
end Go.Proofs.YtpjmboonaciplaaDoor
