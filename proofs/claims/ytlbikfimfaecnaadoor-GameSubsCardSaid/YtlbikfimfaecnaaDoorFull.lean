/- full: a game is its owner's, who writes it full: what is kept. -/
import Derived.Test.YtlbikfimfaecnaaDoorShape
namespace Go.Proofs.YtlbikfimfaecnaaDoor
open Go.RowKit
namespace W

set_option maxRecDepth 100000 in
set_option maxHeartbeats 4000000 in
theorem fill_any (lo hi N n m r : Nat) (a b c : Value) (w : World) (hs : Sh lo hi N w a b c n m r 0) (hn : n ≤ 17592186043904) (hm : m ≤ 17592186043904) (hr : r ≤ 5864062014634) (hN : w.heap.size = N) (hlo : lo ≤ N) :
    Calls Tryd.prog 20 #[.agg #[a, b, c]] w fun e w' => e = .returned (.tuple #[]) ∧ Rk.Keeps (K0 lo hi N) w w' := by
  obtain ⟨ao, ka, rfl⟩ := hs.ra.form
  obtain ⟨bo, kb, rfl⟩ := hs.rb.form
  obtain ⟨co, kc, rfl⟩ : ∃ co kc, c = .slice co r kc := by
    obtain ⟨L, h1, -⟩ := hs.head
    obtain ⟨co, kc, e, -⟩ := own_at h1
    exact ⟨co, kc, e⟩
  have sh1 := hs.all (Rk.keep_of (World.grownBy_alloc w (.cells #[.slice ao n ka, .slice bo m kb, .slice co r kc] 25) none))
  have bx1 := Box.new w 25 #[.slice ao n ka, .slice bo m kb, .slice co r kc]
  have kp1 : Rk.Keeps (K0 lo hi N) w (w.alloc (.cells #[.slice ao n ka, .slice bo m kb, .slice co r kc] 25)) := Rk.keep_weak (Rk.keep_of (World.grownBy_alloc w _ none))
  have HN := Lib.hid hN
  have HLO := Lib.hid hlo
  clear hs hN hlo
  go_enter Tryd.func20, Tryd.ntmps20
  go_wp2_with fail
  generalize (w.alloc (.cells #[.slice ao n ka, .slice bo m kb, .slice co r kc] 25)) = w1 at sh1 bx1 kp1 ⊢
  generalize w.heap.size = q1 at bx1 ⊢
  have SH := Lib.hid sh1
  have BX := Lib.hid bx1
  have KP := Lib.hid kp1
  clear sh1 bx1 kp1
  go_loopw [2] (fun i wr => ∃ k : Nat, k ≤ n ∧ i = .int .i64 k ∧ Sh lo hi N wr (.slice ao n ka) (.slice bo m kb) (.slice co r kc) n m r 0 ∧ Box wr q1 25 #[.slice ao n ka, .slice bo m kb, .slice co r kc] ∧ Rk.Keeps (K0 lo hi N) w wr) (fun i _ => n - (intOf i).toNat)
  case atStart => exact ⟨0, Nat.zero_le _, rfl, SH.out, BX.out, KP.out⟩
  case round =>
    obtain ⟨k, hk, rfl, sh, bx, kp⟩ := hrel
    have SH := Lib.hid sh
    have BX := Lib.hid bx
    have KP := Lib.hid kp
    clear sh kp
    have pc0 : wr.cell? ⟨q1, 0, none⟩ = some (.slice ao n ka) := bx.cell 0 _ rfl
    have pc1 : wr.cell? ⟨q1, 1, none⟩ = some (.slice bo m kb) := bx.cell 1 _ rfl
    have pc2 : wr.cell? ⟨q1, 2, none⟩ = some (.slice co r kc) := bx.cell 2 _ rfl
    clear bx
    have hk0 : (0 : Int) ≤ (k : Int) := Int.natCast_nonneg _
    by_cases hlt : k < n
    · have fk : decide ((k : Int) < (n : Int)) = true := decide_eq_true (by omega)
      obtain ⟨g, u, hao, gc, gf, hset⟩ := SH.out.ra.at k hlt
      subst hao
      have HS := Lib.hid hset
      clear hset
      go_wp2_with fail
      go_roundw
      case rel => exact ⟨k + 1, by omega, by go_num, SH.out.soft (HS.out _).1 (kf_kg (HS.out _).2), BX.out.other (kf_kg (HS.out _).2) (by decide), KP.out.trans (kf_k0 (HS.out _).2)⟩
      case measure => simp [intOf]; omega
    · obtain rfl : n = k := by omega
      have fk : decide ((n : Int) < (n : Int)) = false := decide_eq_false (Int.lt_irrefl _)
      have kle := hk
      clear hk hlt hk0
      go_wp2_with fail
      clear fk kle pc0 pc1 pc2
      go_loopw [3] (fun i wr => ∃ k : Nat, k ≤ m ∧ i = .int .i64 k ∧ Sh lo hi N wr (.slice ao n ka) (.slice bo m kb) (.slice co r kc) n m r 0 ∧ Box wr q1 25 #[.slice ao n ka, .slice bo m kb, .slice co r kc] ∧ Rk.Keeps (K0 lo hi N) w wr) (fun i _ => m - (intOf i).toNat)
      case atStart => exact ⟨0, Nat.zero_le _, rfl, SH.out, BX.out, KP.out⟩
      case round =>
        obtain ⟨k, hk, rfl, sh, bx, kp⟩ := hrel
        have SH := Lib.hid sh
        have BX := Lib.hid bx
        have KP := Lib.hid kp
        clear sh kp
        have pc0 : wr.cell? ⟨q1, 0, none⟩ = some (.slice ao n ka) := bx.cell 0 _ rfl
        have pc1 : wr.cell? ⟨q1, 1, none⟩ = some (.slice bo m kb) := bx.cell 1 _ rfl
        have pc2 : wr.cell? ⟨q1, 2, none⟩ = some (.slice co r kc) := bx.cell 2 _ rfl
        clear bx
        have hk0 : (0 : Int) ≤ (k : Int) := Int.natCast_nonneg _
        by_cases hlt : k < m
        · have fk : decide ((k : Int) < (m : Int)) = true := decide_eq_true (by omega)
          obtain ⟨g, u, hao, gc, gf, hset⟩ := SH.out.rb.at k hlt
          subst hao
          have HS := Lib.hid hset
          clear hset
          go_wp2_with fail
          go_roundw
          case rel => exact ⟨k + 1, by omega, by go_num, SH.out.soft (HS.out _).1 (kf_kg (HS.out _).2), BX.out.other (kf_kg (HS.out _).2) (by decide), KP.out.trans (kf_k0 (HS.out _).2)⟩
          case measure => simp [intOf]; omega
        · obtain rfl : m = k := by omega
          have fk : decide ((m : Int) < (m : Int)) = false := decide_eq_false (Int.lt_irrefl _)
          have kle := hk
          clear hk hlt hk0
          go_wp2_with fail
          clear fk kle pc0 pc1 pc2
          go_loopw [4] (fun i wr => ∃ k : Nat, k ≤ r ∧ i = .int .i64 k ∧ Sh lo hi N wr (.slice ao n ka) (.slice bo m kb) (.slice co r kc) n m r k ∧ Box wr q1 25 #[.slice ao n ka, .slice bo m kb, .slice co r kc] ∧ Rk.Keeps (K0 lo hi N) w wr) (fun i _ => r - (intOf i).toNat)
          case atStart => exact ⟨0, Nat.zero_le _, rfl, SH.out, BX.out, KP.out⟩
          case round =>
            obtain ⟨k, hk, rfl, sh, bx, kp⟩ := hrel
            obtain ⟨wo, rfl⟩ : ∃ wo, wo = wr := ⟨_, rfl⟩
            have SH := Lib.hid sh
            have BX := Lib.hid bx
            have KP := Lib.hid kp
            clear sh kp
            have pc0 : wo.cell? ⟨q1, 0, none⟩ = some (.slice ao n ka) := bx.cell 0 _ rfl
            have pc1 : wo.cell? ⟨q1, 1, none⟩ = some (.slice bo m kb) := bx.cell 1 _ rfl
            have pc2 : wo.cell? ⟨q1, 2, none⟩ = some (.slice co r kc) := bx.cell 2 _ rfl
            clear bx
            have hk0 : (0 : Int) ≤ (k : Int) := Int.natCast_nonneg _
            by_cases hlt : k < r
            · have fk : decide ((k : Int) < (r : Int)) = true := decide_eq_true (by omega)
              obtain ⟨g, cur, xo, l, xk, hco, hbg, hx, hl, hrw⟩ := SH.out.at hlt
              subst hco
              have BG := Lib.hid hbg
              have HX := Lib.hid hx
              have RW := Lib.hid hrw
              clear hbg hx hrw
              go_wp2_with fail
              clear pc0 pc1 pc2
              go_loopw [5] (fun i wr => ∃ t : Nat, t ≤ l ∧ i = .int .i64 t ∧ Sh lo hi N wr (.slice ao n ka) (.slice bo m kb) (.slice (some ⟨g, 0, none⟩) r kc) n m r k ∧ Box wr q1 25 #[.slice ao n ka, .slice bo m kb, .slice (some ⟨g, 0, none⟩) r kc] ∧ Rk.Keeps (K0 lo hi N) w wr ∧ Box wr g 22 cur ∧ Rw lo hi N wr (.slice xo l xk) l) (fun i _ => l - (intOf i).toNat)
              case atStart => exact ⟨0, Nat.zero_le _, rfl, SH.out, BX.out, KP.out, BG.out, RW.out⟩
              case round =>
                obtain ⟨t, ht, rfl, sh, bx, kp, bg, rw_⟩ := hrel
                have SH := Lib.hid sh
                have BX := Lib.hid bx
                have KP := Lib.hid kp
                have BG := Lib.hid bg
                have RW := Lib.hid rw_
                clear sh kp rw_
                have pc0 : wr.cell? ⟨q1, 0, none⟩ = some (.slice ao n ka) := bx.cell 0 _ rfl
                have pc1 : wr.cell? ⟨q1, 1, none⟩ = some (.slice bo m kb) := bx.cell 1 _ rfl
                have pc2 : wr.cell? ⟨q1, 2, none⟩ = some (.slice (some ⟨g, 0, none⟩) r kc) := bx.cell 2 _ rfl
                clear bx
                have bc : wr.cell? ⟨g, k, none⟩ = some (.slice xo l xk) := bg.cell k _ HX.out
                clear bg
                have ht0 : (0 : Int) ≤ (t : Int) := Int.natCast_nonneg _
                by_cases htl : t < l
                · have ft : decide ((t : Int) < (l : Int)) = true := decide_eq_true (by omega)
                  obtain ⟨g2, u, hao, gc, gf, hset⟩ := RW.out.at t htl
                  subst hao
                  have HS := Lib.hid hset
                  clear hset
                  go_wp2_with fail
                  go_roundw
                  case rel => exact ⟨t + 1, by omega, by go_num, SH.out.soft (HS.out _).1 (kf_kg (HS.out _).2), BX.out.other (kf_kg (HS.out _).2) (by decide), KP.out.trans (kf_k0 (HS.out _).2), BG.out.other (kf_kg (HS.out _).2) (by decide), RW.out.soft (HS.out _).1⟩
                  case measure => simp [intOf]; omega
                · obtain rfl : l = t := by omega
                  have ft : decide ((l : Int) < (l : Int)) = false := decide_eq_false (Int.lt_irrefl _)
                  have tle := ht
                  clear ht htl ht0
                  go_wp2_with fail
                  clear pc0 pc1 pc2 ft bc tle
                  refine Rk.wp_region_lit (fun idx => match idx with | 0 => (fun v _ _ => v = .pointer (some ⟨q1, 2, none⟩)) | 1 => (fun v _ _ => v = .slice (some ⟨g, 0, none⟩) r kc) | 2 => (fun v _ _ => v = .int .i64 (k : Int)) | 3 => (fun v _ _ => v = .pointer (some ⟨q1, 2, none⟩)) | 4 => (fun v _ _ => v = .slice (some ⟨g, 0, none⟩) r kc) | 5 => (fun v _ _ => v = .int .i64 (k : Int)) | 6 => (fun v _ _ => v = .pointer (some ⟨g, k, none⟩)) | 7 => (fun v _ _ => v = .slice xo l xk) | 8 => (fun v _ _ => ∃ p, v = .slice (some ⟨p, 0, none⟩) 2 2) | 9 => (fun v _ w' => Rw lo hi N w' v (l + 2) ∧ Sh lo hi N w' (.slice ao n ka) (.slice bo m kb) (.slice (some ⟨g, 0, none⟩) r kc) n m r k) | 10 => (fun v _ _ => v = .pointer (some ⟨g, k, none⟩)) | _ => fun _ _ _ => True) (fun idx => match idx with | 8 => (fun v _ w' => ∃ p, v = .slice (some ⟨p, 0, none⟩) 2 2 ∧ Box w' p 3 #[.int .i64 80, .int .i64 81]) | _ => fun _ _ _ => True) (KF lo hi N 3) 9 (by kernel_rfl) (by rfl) (by kernel_rfl) (by rfl) ?_ ?_ ?_ ?_
                  · refine ⟨?_, ?_, ?_, ?_, ?_, ?_, ?_, ?_, ?_, ?_, ?_, trivial⟩
                    · intro A w' K vals h hn hT hgk hK0
                      have r0 : A.tmps[1]?.getD undef = .pointer (some ⟨q1, 0, none⟩) := Rg.slot h.1
                      clear h hn hT hgk
                      simp [Oper.wp, execOp, go_sem, r0]
                      exact hK0 _ _ (Rk.Keeps.refl _ _) rfl trivial
                    · intro A w' K vals h hn hT hgk hK0
                      have r0 : A.tmps[52]?.getD undef = .pointer (some ⟨q1, 2, none⟩) := (Rg.slot (h.1)).trans (hn.1)
                      have hkf : Rk.Keeps (KF lo hi N 3) wr w' := hgk
                      have lc : w'.cell? ⟨q1, 2, none⟩ = some (.slice (some ⟨g, 0, none⟩) r kc) := (BX.out.other (kf_kg hkf) (by decide)).cell 2 _ rfl
                      clear h hn hT hgk
                      simp [Oper.wp, execOp, go_sem, r0, lc]
                      exact hK0 _ _ (Rk.Keeps.refl _ _) rfl trivial
                    · intro A w' K vals h hn hT hgk hK0
                      have r0 : A.tmps[4]?.getD undef = .int .i64 (k : Int) := Rg.slot h.1
                      clear h hn hT hgk
                      simp [Oper.wp, execOp, go_sem, r0]
                      exact hK0 _ _ (Rk.Keeps.refl _ _) rfl trivial
                    · intro A w' K vals h hn hT hgk hK0
                      have r0 : A.tmps[1]?.getD undef = .pointer (some ⟨q1, 0, none⟩) := Rg.slot h.1
                      clear h hn hT hgk
                      simp [Oper.wp, execOp, go_sem, r0]
                      exact hK0 _ _ (Rk.Keeps.refl _ _) rfl trivial
                    · intro A w' K vals h hn hT hgk hK0
                      have r0 : A.tmps[55]?.getD undef = .pointer (some ⟨q1, 2, none⟩) := (Rg.slot (h.1)).trans (hn.1)
                      have hkf : Rk.Keeps (KF lo hi N 3) wr w' := hgk
                      have lc : w'.cell? ⟨q1, 2, none⟩ = some (.slice (some ⟨g, 0, none⟩) r kc) := (BX.out.other (kf_kg hkf) (by decide)).cell 2 _ rfl
                      clear h hn hT hgk
                      simp [Oper.wp, execOp, go_sem, r0, lc]
                      exact hK0 _ _ (Rk.Keeps.refl _ _) rfl trivial
                    · intro A w' K vals h hn hT hgk hK0
                      have r0 : A.tmps[4]?.getD undef = .int .i64 (k : Int) := Rg.slot h.1
                      clear h hn hT hgk
                      simp [Oper.wp, execOp, go_sem, r0]
                      exact hK0 _ _ (Rk.Keeps.refl _ _) rfl trivial
                    · intro A w' K vals h hn hT hgk hK0
                      have r0 : A.tmps[56]?.getD undef = .slice (some ⟨g, 0, none⟩) r kc := (Rg.slot (h.1)).trans (hn.1)
                      have r1 : A.tmps[57]?.getD undef = .int .i64 (k : Int) := (Rg.slot (h.2.1)).trans (hn.2.1)
                      have hkf : Rk.Keeps (KF lo hi N 3) wr w' := hgk
                      clear h hn hT hgk
                      simp [Oper.wp, execOp, go_sem, r0, r1, hlt]
                      exact hK0 _ _ (Rk.Keeps.refl _ _) rfl trivial
                    · intro A w' K vals h hn hT hgk hK0
                      have r0 : A.tmps[58]?.getD undef = .pointer (some ⟨g, k, none⟩) := (Rg.slot (h.1)).trans (hn.1)
                      have hkf : Rk.Keeps (KF lo hi N 3) wr w' := hgk
                      have lc : w'.cell? ⟨g, k, none⟩ = some (.slice xo l xk) := (BG.out.other (kf_kg hkf) (by decide)).cell k _ HX.out
                      clear h hn hT hgk
                      simp [Oper.wp, execOp, go_sem, r0, lc]
                      exact hK0 _ _ (Rk.Keeps.refl _ _) rfl trivial
                    · intro A w' K vals h hn hT hgk hK0
                      clear h hn hT hgk
                      simp [Oper.wp, execOp, go_sem]
                      exact hK0 _ _ (Rk.keep_of (World.grownBy_alloc _ _ _)) ⟨_, rfl⟩ ⟨_, rfl, Box.new _ _ _⟩
                    · intro A w' K vals h hn hT hgk hK0
                      have r0 : A.tmps[59]?.getD undef = .slice xo l xk := (Rg.slot h.1).trans hn.1
                      have r1 : A.tmps[60]?.getD undef = vals 8 := Rg.slot h.2.1
                      obtain ⟨p, hp, hbx⟩ : ∃ p, vals 8 = .slice (some ⟨p, 0, none⟩) 2 2 ∧ Box w' p 3 #[.int .i64 80, .int .i64 81] := (hT rfl).2.1
                      have hal : Rk.Keeps Rk.allK wr w' := hgk
                      rw [hp] at r1
                      clear h hn hT hgk
                      have hsz : N ≤ w'.heap.size := by
                        have h1 := KP.out.size
                        have h2 := hal.size
                        have h3 := HN.out
                        omega
                      obtain ⟨v', w'', hr', hrw', hs', hk'⟩ := (RW.out.soft (soft_all hal)).add hl hsz (Nat.le_trans HLO.out hsz) hbx
                      refine op_append rfl (by simp [Act.eval, r0]) (by simp [Act.eval, r1]) hr' (hK0 _ _ hk' ⟨hrw', (SH.out.all hal).soft hs' (kf_kg hk')⟩ trivial)
                    · intro A w' K vals h hn hT hgk hK0
                      have r0 : A.tmps[53]?.getD undef = .slice (some ⟨g, 0, none⟩) r kc := (Rg.slot (h.1)).trans (hn.1)
                      have r1 : A.tmps[54]?.getD undef = .int .i64 (k : Int) := (Rg.slot (h.2.1)).trans (hn.2.1)
                      have hkf : Rk.Keeps (KF lo hi N 3) wr w' := hgk
                      clear h hn hT hgk
                      simp [Oper.wp, execOp, go_sem, r0, r1, hlt]
                      exact hK0 _ _ (Rk.Keeps.refl _ _) rfl trivial
                  · refine ⟨?_, ?_, ?_, ?_, ?_, ?_, ?_, ?_, ?_, ?_, ?_, trivial⟩
                    · exact fun _ _ _ _ _ _ h => h
                    · exact fun _ _ _ _ _ _ h => h
                    · exact fun _ _ _ _ _ _ h => h
                    · exact fun _ _ _ _ _ _ h => h
                    · exact fun _ _ _ _ _ _ h => h
                    · exact fun _ _ _ _ _ _ h => h
                    · exact fun _ _ _ _ _ _ h => h
                    · exact fun _ _ _ _ _ _ h => h
                    · exact fun _ _ _ _ _ _ h => h
                    · exact fun _ _ _ _ _ h hs => ⟨hs.1.soft (soft_all h), hs.2.all h⟩
                    · exact fun _ _ _ _ _ _ h => h
                  · intro k' v ds w w' hk h
                    match k', h with
                    | 8, h => exact ⟨h.choose, h.choose_spec.1, h.choose_spec.2.keep (Rk.grown_of hk)⟩
                    | 0, _ | 1, _ | 2, _ | 3, _ | 4, _ | 5, _ | 6, _ | 7, _ | _ + 9, _ => trivial
                  · intro vals w6 G hgk hS hG
                    have s10 : vals 10 = .pointer (some ⟨g, k, none⟩) := hS.2.2.2.2.2.2.2.2.2.2.1
                    obtain ⟨hrw6, hsh6⟩ : Rw lo hi N w6 (vals 9) (l + 2) ∧ Sh lo hi N w6 (.slice ao n ka) (.slice bo m kb) (.slice (some ⟨g, 0, none⟩) r kc) n m r k := hS.2.2.2.2.2.2.2.2.2.1
                    clear hS
                    obtain ⟨vo, vk, hv9⟩ := hrw6.form
                    rw [hv9] at hrw6
                    have bg6 := BG.out.other (kf_kg hgk) (by decide)
                    have bc6 : w6.cell? ⟨g, k, none⟩ = some (.slice xo l xk) := bg6.cell k _ HX.out
                    have bf6 : w6.frozen? ⟨g, k, none⟩ = false := bg6.frozen k
                    have HF := Lib.hid (hsh6.put hlt hrw6)
                    have B6 := Lib.hid (BX.out.other (kf_kg hgk) (by decide))
                    have K6 := Lib.hid (KP.out.trans (kf_k0 hgk))
                    clear hrw6 hsh6 bg6 hgk
                    refine hG ?_
                    clear hG
                    simp [Rg.putAll, Oper.wp, execOp, go_sem, s10, hv9, bc6, bf6]
                    clear s10 hv9 bc6 bf6
                    go_wp2_with fail
                    go_roundw
                    case rel => exact ⟨k + 1, by omega, by go_num, HF.out.1, B6.out.other (kf_kg HF.out.2) (by decide), K6.out.trans (kf_k0 HF.out.2)⟩
                    case measure => simp [intOf]; omega
            · obtain rfl : r = k := by omega
              have fk : decide ((r : Int) < (r : Int)) = false := decide_eq_false (Int.lt_irrefl _)
              go_wp2_with fail
              exact bodyPost_end (v := .tuple #[]) (by simp [results, Tryd.results20, go_sem]) rfl ⟨rfl, KP.out⟩
end W
end Go.Proofs.YtlbikfimfaecnaaDoor
