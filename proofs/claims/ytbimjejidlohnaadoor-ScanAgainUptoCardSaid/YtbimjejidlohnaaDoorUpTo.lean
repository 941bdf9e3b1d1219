/- ScanUpTo: a text that is refused at a place is fine up to there. -/
import Derived.Test.YtbimjejidlohnaaDoorShown
import Derived.Test.YtbimjejidlohnaaDoorCut
import Derived.BigRegion
namespace Go.Proofs.YtbimjejidlohnaaDoor
open Go.RowKit
namespace W

set_option maxRecDepth 100000 in
set_option maxHeartbeats 600000 in
theorem upto_ok (b : ByteArray) (hb : b.size ≤ 140737488351232) (l : List P.Tok) (hs : P.scanAll b = .ok l) (w : World) (hg : Handle w) : Calls Tryd.prog 9 #[.string b] w fun e w' => e = .returned (.bool true) ∧ Below w.heap.size w w' := by
  go_enter Tryd.func9, Tryd.ntmps9
  go_wp2_with fail
  refine (shown_any _ hg).mono ?_
  rintro e w1 ⟨rfl, hb1⟩
  have HB1 := Lib.hid hb1
  clear hb1
  go_wp2_with fail
  refine (all_ok hs (by omega) _).mono ?_
  rintro e w2 ⟨g, cap, rfl, _, hcap, ht, hb2⟩
  have HT := Lib.hid ht
  have HB2 := Lib.hid (HB1.out.trans (hb2.mono HB1.out.size))
  have HS := Lib.hid hs
  clear ht hb2 hs
  go_wp2_with fail
  refine (fault_nil _).mono ?_
  rintro e w3 ⟨rfl, h3⟩
  obtain rfl : w2 = w3 := h3.symm
  go_wp2_with fail
  go_ret
  exact ⟨rfl, HB2.out⟩
set_option maxRecDepth 100000 in
set_option maxHeartbeats 600000 in
theorem upto_big (b : ByteArray) (hb : b.size ≤ 140737488351232) (hs : P.scanAll b = .error (262144, 2)) (hbig : 262144 < b.size) (w : World) (hg : Handle w) : Calls Tryd.prog 9 #[.string b] w fun e w' => e = .returned (.bool true) ∧ Below w.heap.size w w' := by
  have hd : decide (262144 < (b.size : Int)) = true := decide_eq_true (by omega)
  go_enter Tryd.func9, Tryd.ntmps9
  go_wp2_with fail
  refine (shown_any _ hg).mono ?_
  rintro e w1 ⟨rfl, hb1⟩
  have HB1 := Lib.hid hb1
  clear hb1
  go_wp2_with fail
  refine (all_bad hs (by omega) _).mono ?_
  rintro e w2 ⟨g, rfl, hf, hb2⟩
  have HB2 := Lib.hid (HB1.out.trans (hb2.mono HB1.out.size))
  have HF := Lib.hid hf
  have HS := Lib.hid hs
  clear hf hb2 hs
  go_wp2_with fail
  refine (fault_at g 262144 2 _ HF.out (hg.on HB2.out)).mono ?_
  rintro e w3 ⟨rfl, hb3⟩
  have HB3 := Lib.hid (HB2.out.trans (hb3.mono HB2.out.size))
  clear hb3
  go_wp2_with fail
  go_ret
  exact ⟨rfl, HB3.out⟩
set_option maxRecDepth 100000 in
set_option maxHeartbeats 600000 in
theorem upto_bad (b : ByteArray) (hb : b.size ≤ 140737488351232) (k er : Nat) (hs : P.scanAll b = .error (k, er)) (hk : k < b.size) (h3 : 3 ≤ er) (l : List P.Tok) (hl : P.scanAll (b.extract 0 k) = .ok (l ++ [P.stop k])) (w : World) (hg : Handle w) : Calls Tryd.prog 9 #[.string b] w fun e w' => e = .returned (.bool true) ∧ Below w.heap.size w w' := by
  have f1 : (((er : Nat) : Int) == 2) = false := by rw [beq_eq_false_iff_ne]; omega
  have f2 : (((er : Nat) : Int) == 0) = false := by rw [beq_eq_false_iff_ne]; omega
  have f3 : decide (((k : Nat) : Int) < 0) = false := decide_eq_false (by omega)
  have f4 : decide ((b.size : Int) ≤ ((k : Nat) : Int)) = false := decide_eq_false (by omega)
  have HL := Lib.hid hl
  have hlen := P.scanAll_len hl
  have hsl := sl_any b 0 k (Nat.zero_le _) (Nat.le_of_lt hk) (0 : Int) ((k : Nat) : Int) rfl rfl
  clear hl
  go_enter Tryd.func9, Tryd.ntmps9
  go_wp2_with fail
  refine (shown_any _ hg).mono ?_
  rintro e w1 ⟨rfl, hb1⟩
  have HB1 := Lib.hid hb1
  clear hb1
  go_wp2_with fail
  refine (all_bad hs (by omega) _).mono ?_
  rintro e w2 ⟨g, rfl, hf, hb2⟩
  have HB2 := Lib.hid (HB1.out.trans (hb2.mono HB1.out.size))
  have HF := Lib.hid hf
  have HS := Lib.hid hs
  clear hf hb2 hs
  go_wp2_with fail
  refine (fault_at g k er _ HF.out (hg.on HB2.out)).mono ?_
  rintro e w3 ⟨rfl, hb3⟩
  have HB3 := Lib.hid (HB2.out.trans (hb3.mono HB2.out.size))
  clear hb3
  go_wp2_with fail
  refine (all_ok HL.out (by rw [P.size_cut (Nat.le_of_lt hk)]; omega) _).mono ?_
  rintro e w4 ⟨g2, cap2, rfl, _, hcap2, ht2, hb4⟩
  have HB4 := Lib.hid (HB3.out.trans (hb4.mono HB3.out.size))
  obtain ⟨n, hn⟩ : ∃ n, l.length = n := ⟨_, rfl⟩
  rw [List.length_append, List.length_singleton, hn] at hcap2 hlen ⊢
  have hn1 := hlen.1
  have hn2 := hlen.2
  have hw1 : wrap64 ((n : Nat) : Int) = (n : Int) := by unfold wrap64; omega
  clear hlen
  have hc : ∀ j v, (tokCells (P.stop k))[j]? = some v → w4.cell? ⟨g2, n * 4 + j, none⟩ = some v := ht2.c n (P.stop k) (by rw [← hn]; simp)
  have c0 : w4.cell? ⟨g2, n * 4, none⟩ = some (.int .i64 0) := hc 0 _ rfl
  have c1 : w4.cell? ⟨g2, n * 4 + 1, none⟩ = some (.int .i64 (k : Int)) := hc 1 _ rfl
  have c2 : w4.cell? ⟨g2, n * 4 + 2, none⟩ = some (.string ⟨#[]⟩) := hc 2 _ rfl
  have c3 : w4.cell? ⟨g2, n * 4 + 3, none⟩ = some (.int .i64 0) := hc 3 _ rfl
  clear ht2 hb4 hc hn
  have f5 : decide ((0 : Int) < (n : Int) + 1) = true := decide_eq_true (by omega)
  go_wp2_with fail
  go_ret
  exact ⟨rfl, HB4.out⟩
theorem upto_any (b : ByteArray) (hb : b.size ≤ 140737488351232) (w : World) (hg : Handle w) : Calls Tryd.prog 9 #[.string b] w fun e w' => e = .returned (.bool true) ∧ Below w.heap.size w w' := by
  cases hs : P.scanAll b with
  | ok l => exact upto_ok b hb l hs w hg
  | error x =>
    obtain ⟨k, er⟩ := x
    rcases P.scanAll_upto hs with ⟨rfl, rfl, h⟩ | ⟨h1, h2, h3, h4, l, h5⟩
    · exact upto_big b hb hs h w hg
    · exact upto_bad b hb k er hs h1 h3 l h5 w hg
end W
end Go.Proofs.YtbimjejidlohnaaDoor
