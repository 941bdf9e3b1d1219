/- ScanCuts: a text that is cut where a token begins has the tokens ahead of it. -/
import Derived.Test.YtbimjejidlohnaaDoorUpTo
import Derived.Deep.QuietTactic
import Derived.BigQuiet
namespace Go.Proofs.YtbimjejidlohnaaDoor
open Go.RowKit
namespace W

set_option maxRecDepth 100000 in
set_option maxHeartbeats 600000 in
theorem cuts_bad (b : ByteArray) (hb : b.size ≤ 140737488351232) (k er : Nat) (hs : P.scanAll b = .error (k, er)) (which : Int) (w : World) (hg : Handle w) : Calls Tryd.prog 10 #[.string b, .int .i64 which] w fun e w' => e = .returned (.bool true) ∧ Below w.heap.size w w' := by
  go_enter Tryd.func10, Tryd.ntmps10
  go_wp2_with fail
  refine (shown_any _ hg).mono ?_
  rintro e w1 ⟨rfl, hb1⟩
  have HB1 := Lib.hid hb1
  clear hb1
  go_wp2_with fail
  refine (all_bad hs (by omega) _).mono ?_
  rintro e w2 ⟨g, rfl, hf, hb2⟩
  have HB2 := Lib.hid (HB1.out.trans (hb2.mono HB1.out.size))
  have HF := Lib.hid hf
  have HS := Lib.hid hs
  clear hf hb2 hs
  go_wp2_with fail
  go_ret
  exact ⟨rfl, HB2.out⟩

set_option maxRecDepth 100000 in
set_option maxHeartbeats 600000 in
theorem cuts_neg (b : ByteArray) (hb : b.size ≤ 140737488351232) (l : List P.Tok) (hs : P.scanAll b = .ok l) (which : Int) (hw1 : -9223372036854775808 ≤ which) (hw2 : which < 0) (k : Nat) (hk : k < l.length) (hm : (-(which + 1)).tmod (l.length : Int) = (k : Int)) (t : P.Tok) (ht : l[k]? = some t) (hp : t.place ≤ b.size) (h18 : b.size ≤ 262144) (hl : P.scanAll (b.extract 0 t.place) = .ok (l.take k ++ [P.stop t.place])) (w : World) (hg : Handle w) : Calls Tryd.prog 10 #[.string b, .int .i64 which] w fun e w' => e = .returned (.bool true) ∧ Below w.heap.size w w' := by
  have hlen := P.scanAll_len hs
  go_enter Tryd.func10, Tryd.ntmps10
  go_wp2_with fail
  refine (shown_any _ hg).mono ?_
  rintro e w1 ⟨rfl, hb1⟩
  have HB1 := Lib.hid hb1
  clear hb1
  go_wp2_with fail
  refine (all_ok hs (by omega) _).mono ?_
  rintro e w2 ⟨g, cap, rfl, _, hcap, htt, hb2⟩
  have HT := Lib.hid htt
  have HB2 := Lib.hid (HB1.out.trans (hb2.mono HB1.out.size))
  have HS := Lib.hid hs
  have c1 : w2.cell? ⟨g, k * 4 + 1, none⟩ = some (.int .i64 (t.place : Int)) := htt.c k t ht 1 _ rfl
  have HL := Lib.hid hl
  have HTK := Lib.hid ht
  obtain ⟨n, hn⟩ : ∃ n, l.length = n := ⟨_, rfl⟩
  rw [hn] at hcap hk hm hlen ⊢
  have hn1 := hlen.1
  have fn0 : (((n : Nat) : Int) == 0) = false := by rw [beq_eq_false_iff_ne]; omega
  have HN := Lib.hid hn
  clear htt hb2 hs hl ht hlen hn
  go_wp2_with fail
  refine (all_ok HL.out (by rw [P.size_cut hp]; omega) _).mono ?_
  rintro e w3 ⟨g2, cap2, rfl, _, hcap2, ht2, hb3⟩
  have HB3 := Lib.hid (HB2.out.trans (hb3.mono HB2.out.size))
  have HT2 := Lib.hid ht2
  have HTA := Lib.hid (HT.out.on hb3)
  have hlk : (l.take k).length = k := by rw [List.length_take, HN.out]; omega
  rw [List.length_append, List.length_singleton, hlk] at hcap2 ⊢
  have hc : ∀ j v, (tokCells (P.stop t.place))[j]? = some v → w3.cell? ⟨g2, k * 4 + j, none⟩ = some v := ht2.c k (P.stop t.place) (by rw [List.getElem?_append_right (by omega)]; simp [hlk])
  have d0 : w3.cell? ⟨g2, k * 4, none⟩ = some (.int .i64 0) := hc 0 _ rfl
  have d1 : w3.cell? ⟨g2, k * 4 + 1, none⟩ = some (.int .i64 (t.place : Int)) := hc 1 _ rfl
  have d2 : w3.cell? ⟨g2, k * 4 + 2, none⟩ = some (.string ⟨#[]⟩) := hc 2 _ rfl
  have d3 : w3.cell? ⟨g2, k * 4 + 3, none⟩ = some (.int .i64 0) := hc 3 _ rfl
  have hall : ∀ j, j < k → ∃ u, l[j]? = some u ∧ (l.take k ++ [P.stop t.place])[j]? = some u := by
    intro j hj
    have hjl : j < l.length := by rw [HN.out]; omega
    refine ⟨l[j], by simp [hjl], ?_⟩
    rw [List.getElem?_append_left (by omega), List.getElem?_take_of_lt hj]
    simp [hjl]
  have HA := Lib.hid hall
  clear ht2 hb3 hc hlk hall
  go_wp2_with fail
  go_loopw [12] (fun i wr => ∃ j : Nat, j ≤ k ∧ i = .int .i64 j ∧ Below w3.heap.size w3 wr) (fun i _ => k - (intOf i).toNat)
  case atStart => exact ⟨0, Nat.zero_le _, rfl, Below.refl _ _⟩
  case round =>
    obtain ⟨j, hj, rfl, hbw⟩ := hrel
    have HW := Lib.hid hbw
    clear hbw
    have hj0 : (0 : Int) ≤ (j : Int) := Int.natCast_nonneg _
    by_cases hlt : j < k
    · have fj : decide ((j : Int) < (k : Int)) = true := decide_eq_true (by omega)
      obtain ⟨u, hu1, hu2⟩ := HA.out j hlt
      have a0 : wr.cell? ⟨g, j * 4, none⟩ = some (.int .i64 ((u.kind : Nat) : Int)) := (HW.out.cell (p := ⟨g, j * 4 + 0, none⟩) HTA.out.lt).trans (HTA.out.c j u hu1 0 _ rfl)
      have a1 : wr.cell? ⟨g, j * 4 + 1, none⟩ = some (.int .i64 ((u.place : Nat) : Int)) := (HW.out.cell (p := ⟨g, j * 4 + 1, none⟩) HTA.out.lt).trans (HTA.out.c j u hu1 1 _ rfl)
      have a2 : wr.cell? ⟨g, j * 4 + 2, none⟩ = some (.string u.text) := (HW.out.cell (p := ⟨g, j * 4 + 2, none⟩) HTA.out.lt).trans (HTA.out.c j u hu1 2 _ rfl)
      have a3 : wr.cell? ⟨g, j * 4 + 3, none⟩ = some (.int .i64 ((u.number : Nat) : Int)) := (HW.out.cell (p := ⟨g, j * 4 + 3, none⟩) HTA.out.lt).trans (HTA.out.c j u hu1 3 _ rfl)
      have b0 : wr.cell? ⟨g2, j * 4, none⟩ = some (.int .i64 ((u.kind : Nat) : Int)) := (HW.out.cell (p := ⟨g2, j * 4 + 0, none⟩) HT2.out.lt).trans (HT2.out.c j u hu2 0 _ rfl)
      have b1 : wr.cell? ⟨g2, j * 4 + 1, none⟩ = some (.int .i64 ((u.place : Nat) : Int)) := (HW.out.cell (p := ⟨g2, j * 4 + 1, none⟩) HT2.out.lt).trans (HT2.out.c j u hu2 1 _ rfl)
      have b2 : wr.cell? ⟨g2, j * 4 + 2, none⟩ = some (.string u.text) := (HW.out.cell (p := ⟨g2, j * 4 + 2, none⟩) HT2.out.lt).trans (HT2.out.c j u hu2 2 _ rfl)
      have b3 : wr.cell? ⟨g2, j * 4 + 3, none⟩ = some (.int .i64 ((u.number : Nat) : Int)) := (HW.out.cell (p := ⟨g2, j * 4 + 3, none⟩) HT2.out.lt).trans (HT2.out.c j u hu2 3 _ rfl)
      clear hu1 hu2
      have i1 : (j : Int) < (n : Int) := by omega
      have i2 : (j : Int) < (k : Int) + 1 := by omega
      go_wp2_with fail
      go_quiet (fail)
      go_wp2_with fail
      go_roundw
      case rel => exact ⟨j + 1, by omega, by go_num, below_drewN HW.out _⟩
      case measure => simp [intOf]; omega
    · go_wp2_with fail
      go_ret
      exact ⟨rfl, HB3.out.trans (HW.out.mono HB3.out.size)⟩

set_option maxRecDepth 100000 in
set_option maxHeartbeats 600000 in
theorem cuts_pos (b : ByteArray) (hb : b.size ≤ 140737488351232) (l : List P.Tok) (hs : P.scanAll b = .ok l) (which : Int) (hw2 : 0 ≤ which) (k : Nat) (hk : k < l.length) (hm : (which).tmod (l.length : Int) = (k : Int)) (t : P.Tok) (ht : l[k]? = some t) (hp : t.place ≤ b.size) (h18 : b.size ≤ 262144) (hl : P.scanAll (b.extract 0 t.place) = .ok (l.take k ++ [P.stop t.place])) (w : World) (hg : Handle w) : Calls Tryd.prog 10 #[.string b, .int .i64 which] w fun e w' => e = .returned (.bool true) ∧ Below w.heap.size w w' := by
  have hlen := P.scanAll_len hs
  have fw : decide (which < 0) = false := decide_eq_false (by omega)
  go_enter Tryd.func10, Tryd.ntmps10
  go_wp2_with fail
  refine (shown_any _ hg).mono ?_
  rintro e w1 ⟨rfl, hb1⟩
  have HB1 := Lib.hid hb1
  clear hb1
  go_wp2_with fail
  refine (all_ok hs (by omega) _).mono ?_
  rintro e w2 ⟨g, cap, rfl, _, hcap, htt, hb2⟩
  have HT := Lib.hid htt
  have HB2 := Lib.hid (HB1.out.trans (hb2.mono HB1.out.size))
  have HS := Lib.hid hs
  have c1 : w2.cell? ⟨g, k * 4 + 1, none⟩ = some (.int .i64 (t.place : Int)) := htt.c k t ht 1 _ rfl
  have HL := Lib.hid hl
  have HTK := Lib.hid ht
  obtain ⟨n, hn⟩ : ∃ n, l.length = n := ⟨_, rfl⟩
  rw [hn] at hcap hk hm hlen ⊢
  have hn1 := hlen.1
  have fn0 : (((n : Nat) : Int) == 0) = false := by rw [beq_eq_false_iff_ne]; omega
  have HN := Lib.hid hn
  clear htt hb2 hs hl ht hlen hn
  go_wp2_with fail
  refine (all_ok HL.out (by rw [P.size_cut hp]; omega) _).mono ?_
  rintro e w3 ⟨g2, cap2, rfl, _, hcap2, ht2, hb3⟩
  have HB3 := Lib.hid (HB2.out.trans (hb3.mono HB2.out.size))
  have HT2 := Lib.hid ht2
  have HTA := Lib.hid (HT.out.on hb3)
  have hlk : (l.take k).length = k := by rw [List.length_take, HN.out]; omega
  rw [List.length_append, List.length_singleton, hlk] at hcap2 ⊢
  have hc : ∀ j v, (tokCells (P.stop t.place))[j]? = some v → w3.cell? ⟨g2, k * 4 + j, none⟩ = some v := ht2.c k (P.stop t.place) (by rw [List.getElem?_append_right (by omega)]; simp [hlk])
  have d0 : w3.cell? ⟨g2, k * 4, none⟩ = some (.int .i64 0) := hc 0 _ rfl
  have d1 : w3.cell? ⟨g2, k * 4 + 1, none⟩ = some (.int .i64 (t.place : Int)) := hc 1 _ rfl
  have d2 : w3.cell? ⟨g2, k * 4 + 2, none⟩ = some (.string ⟨#[]⟩) := hc 2 _ rfl
  have d3 : w3.cell? ⟨g2, k * 4 + 3, none⟩ = some (.int .i64 0) := hc 3 _ rfl
  have hall : ∀ j, j < k → ∃ u, l[j]? = some u ∧ (l.take k ++ [P.stop t.place])[j]? = some u := by
    intro j hj
    have hjl : j < l.length := by rw [HN.out]; omega
    refine ⟨l[j], by simp [hjl], ?_⟩
    rw [List.getElem?_append_left (by omega), List.getElem?_take_of_lt hj]
    simp [hjl]
  have HA := Lib.hid hall
  clear ht2 hb3 hc hlk hall
  go_wp2_with fail
  go_loopw [12] (fun i wr => ∃ j : Nat, j ≤ k ∧ i = .int .i64 j ∧ Below w3.heap.size w3 wr) (fun i _ => k - (intOf i).toNat)
  case atStart => exact ⟨0, Nat.zero_le _, rfl, Below.refl _ _⟩
  case round =>
    obtain ⟨j, hj, rfl, hbw⟩ := hrel
    have HW := Lib.hid hbw
    clear hbw
    have hj0 : (0 : Int) ≤ (j : Int) := Int.natCast_nonneg _
    by_cases hlt : j < k
    · have fj : decide ((j : Int) < (k : Int)) = true := decide_eq_true (by omega)
      obtain ⟨u, hu1, hu2⟩ := HA.out j hlt
      have a0 : wr.cell? ⟨g, j * 4, none⟩ = some (.int .i64 ((u.kind : Nat) : Int)) := (HW.out.cell (p := ⟨g, j * 4 + 0, none⟩) HTA.out.lt).trans (HTA.out.c j u hu1 0 _ rfl)
      have a1 : wr.cell? ⟨g, j * 4 + 1, none⟩ = some (.int .i64 ((u.place : Nat) : Int)) := (HW.out.cell (p := ⟨g, j * 4 + 1, none⟩) HTA.out.lt).trans (HTA.out.c j u hu1 1 _ rfl)
      have a2 : wr.cell? ⟨g, j * 4 + 2, none⟩ = some (.string u.text) := (HW.out.cell (p := ⟨g, j * 4 + 2, none⟩) HTA.out.lt).trans (HTA.out.c j u hu1 2 _ rfl)
      have a3 : wr.cell? ⟨g, j * 4 + 3, none⟩ = some (.int .i64 ((u.number : Nat) : Int)) := (HW.out.cell (p := ⟨g, j * 4 + 3, none⟩) HTA.out.lt).trans (HTA.out.c j u hu1 3 _ rfl)
      have b0 : wr.cell? ⟨g2, j * 4, none⟩ = some (.int .i64 ((u.kind : Nat) : Int)) := (HW.out.cell (p := ⟨g2, j * 4 + 0, none⟩) HT2.out.lt).trans (HT2.out.c j u hu2 0 _ rfl)
      have b1 : wr.cell? ⟨g2, j * 4 + 1, none⟩ = some (.int .i64 ((u.place : Nat) : Int)) := (HW.out.cell (p := ⟨g2, j * 4 + 1, none⟩) HT2.out.lt).trans (HT2.out.c j u hu2 1 _ rfl)
      have b2 : wr.cell? ⟨g2, j * 4 + 2, none⟩ = some (.string u.text) := (HW.out.cell (p := ⟨g2, j * 4 + 2, none⟩) HT2.out.lt).trans (HT2.out.c j u hu2 2 _ rfl)
      have b3 : wr.cell? ⟨g2, j * 4 + 3, none⟩ = some (.int .i64 ((u.number : Nat) : Int)) := (HW.out.cell (p := ⟨g2, j * 4 + 3, none⟩) HT2.out.lt).trans (HT2.out.c j u hu2 3 _ rfl)
      clear hu1 hu2
      have i1 : (j : Int) < (n : Int) := by omega
      have i2 : (j : Int) < (k : Int) + 1 := by omega
      go_wp2_with fail
      go_quiet (fail)
      go_wp2_with fail
      go_roundw
      case rel => exact ⟨j + 1, by omega, by go_num, below_drewN HW.out _⟩
      case measure => simp [intOf]; omega
    · go_wp2_with fail
      go_ret
      exact ⟨rfl, HB3.out.trans (HW.out.mono HB3.out.size)⟩

theorem cuts_any (b : ByteArray) (hb : b.size ≤ 140737488351232) (which : Int) (hw : -9223372036854775808 ≤ which ∧ which ≤ 9223372036854775807) (w : World) (hg : Handle w) : Calls Tryd.prog 10 #[.string b, .int .i64 which] w fun e w' => e = .returned (.bool true) ∧ Below w.heap.size w w' := by
  cases hs : P.scanAll b with
  | error x =>
    obtain ⟨k, er⟩ := x
    exact cuts_bad b hb k er hs which w hg
  | ok l =>
    have hpos := scanAll_ne hs
    by_cases h : which < 0
    · have e1 := Int.tmod_eq_emod_of_nonneg (b := (l.length : Int)) (show 0 ≤ -(which + 1) by omega)
      have e2 := Int.emod_nonneg (-(which + 1)) (show (l.length : Int) ≠ 0 by omega)
      have e3 := Int.emod_lt_of_pos (-(which + 1)) (show (0 : Int) < (l.length : Int) by omega)
      obtain ⟨k, hk⟩ := Int.eq_ofNat_of_zero_le e2
      have hkl : k < l.length := by omega
      obtain ⟨h18, hp, hl⟩ := P.scanAll_cut hs (i := k) (t := l[k]) (by simp [hkl])
      exact cuts_neg b hb l hs which hw.1 h k hkl (e1.trans hk) l[k] (by simp [hkl]) hp h18 hl w hg
    · have e1 := Int.tmod_eq_emod_of_nonneg (b := (l.length : Int)) (show 0 ≤ which by omega)
      have e2 := Int.emod_nonneg which (show (l.length : Int) ≠ 0 by omega)
      have e3 := Int.emod_lt_of_pos which (show (0 : Int) < (l.length : Int) by omega)
      obtain ⟨k, hk⟩ := Int.eq_ofNat_of_zero_le e2
      have hkl : k < l.length := by omega
      obtain ⟨h18, hp, hl⟩ := P.scanAll_cut hs (i := k) (t := l[k]) (by simp [hkl])
      exact cuts_pos b hb l hs which (by omega) k hkl (e1.trans hk) l[k] (by simp [hkl]) hp h18 hl w hg
end W
end Go.Proofs.YtbimjejidlohnaaDoor
